import PyProof.Rows.All
import Wide.All
import OpenK.AllK
import Wide.FinOn
import HandS.ForMost
import HandS.Wide
import HandS.IsInst
import HandS.Flow
import HandS.TupLe
import HandS.StrMore
import HandS.Evl
import HandS.Walk
import KE.KxText
import HandS.Set
import HandS.Strs
import HandS.SetFor
import PyProof.Rows.SortShellAny
import HandS.Replace
import KE.KOpsOwn
import HandS.ForExc
import HandS.TryMany
import HandS.TryOnly
import HandS.ExcSuper
import HandS.ExcOwn
import HandS.Defaults
import HandS.DictComp
import HandS.RaiseMore
import HandS.ListEq
import HandS.DeepEq
import PyProof.InstEq
import OpenK.KOps
import HandS.OwnEq
import KE.GoesRaise
import PySem.Challenge.RW_tworows_k08_equal_and_renamed
set_option Elab.async false
set_option linter.all false
set_option maxRecDepth 100000
set_option maxHeartbeats 4000000
namespace Tw
open PySem L2

/-! ### a def of the text with its promise -/
structure Def (P : Program) (w : World) (K : PySem.W.Frag) (mg : Str → Option Value) (base : Heap) (k : Nat) (x : Str) (ps : List Str) (sp : Sp) : Prop where
  ex : ∃ (f : Addr) (fd : FuncData), FnOk P w K mg base CX0 k f fd ps sp ∧ mg x = some (.ref f) ∧ PySem.W.keepIn K (.ref f) = true ∧ Binds K fd ps []
/-- where a def of the text stands -/
structure Here (K : PySem.W.Frag) (mg : Str → Option Value) (x : Str) (st : Stmt) (ps : List Str) (f : Addr) (fd : FuncData) : Prop where
  fn : Fun K x x st f fd
  mg : mg x = some (.ref f)
  bd : Binds K fd ps []
section
variable {X : Cx} {k j : Nat} {x : Str} {p pos : Pos} {e : Expr} {es : List Expr} {ps : List Str} {sp : Sp} {t : TA}
theorem Here.def {P : Program} {w : World} {K : PySem.W.Frag} {mg : Str → Option Value} {base : Heap} {st : Stmt} {f : Addr} {fd : FuncData} (h : Here K mg x st ps f fd) (F : FnOk P w K mg base CX0 k f fd ps sp) : Def P w K mg base k x ps sp :=
  ⟨f, fd, F, h.mg, h.fn.kp, h.bd⟩
def tDef (sp : Sp) (t : TA) : TE := fun σ H Q => t σ H fun vs H1 => sp vs H1 Q E0
theorem tDef_eq {sp : Sp} {t : TA} : tCall sp [] E0 t = tDef sp t := by
  funext σ H Q
  unfold tCall tDef
  simp only [List.append_nil]
theorem pe_def (D : Def X.prog X.w X.K X.mg X.base k x ps sp) (hr : Room j X.A) (hg : Gl X x) (ha : PA X (e :: es) t) (hk : k ≤ j := by decide) (hdb : (x == ("__debug__" : Str)) = false := by decide)
    (he : starEach (e :: es) X.env = (false, eval e X.env) :: starEach es X.env := by rfl) (hpl : (backTo pos (starEach es X.env)).any (·.1) = false := by rfl) : PE X (.Call (.Name x p) (e :: es) [] pos) (tDef sp t) := by
  obtain ⟨f, fd, F, hm, hkp, hb⟩ := D.ex
  rw [← tDef_eq]
  exact pe_call F (hr.mono hk) hg hm hkp hb .nil pass0 ha hdb he hpl
theorem pe_def0 (D : Def X.prog X.w X.K X.mg X.base k x ps sp) (hr : Room j X.A) (hg : Gl X x) (hk : k ≤ j := by decide) (hdb : (x == ("__debug__" : Str)) = false := by decide) : PE X (.Call (.Name x p) [] [] pos) (tDef sp tNil) := by
  obtain ⟨f, fd, F, hm, hkp, hb⟩ := D.ex
  rw [← tDef_eq]
  exact pe_call0 F (hr.mono hk) hg hm hkp hb .nil pass0 hdb
end

/-! ### operators for values of any kind -/
def rStr2 (C : Str → Str → Prop) (g : Str → Str → V) : R2 := fun x y H Q => ∃ i j, x = .str i ∧ y = .str j ∧ C i j ∧ Q (g i j) H
def rAddG : R2 := fun x y H Q => (∃ i j, x = .int i ∧ y = .int j ∧ Q (.int (i + j)) H) ∨ (∃ i j, x = .str i ∧ y = .str j ∧ i.length + j.length ≤ sizeLine ∧ Q (.str (i ++ j)) H) ∨ rCat x y H Q
def rLtG : R2 := fun x y H Q => (∃ i j, x = .int i ∧ y = .int j ∧ Q (.bl (decide (i < j))) H) ∨ ∃ i j, x = .str i ∧ y = .str j ∧ Q (.bl (decide (i.cps.toList < j.cps.toList))) H
def CPowG (i j : Int) : Prop := 0 ≤ j ∧ (Builtin.Int.intBits i : Int) * j ≤ 2 ^ 27
section
variable {X : Cx} {H : Hp} {Q : VK}
theorem op_addG : OpR X (binaryOp .Add) rAddG := op_add.or (op_add_str.or op_cat)
theorem op_ltG : OpR X (compareOp .Lt) rLtG := op_lt.or op_lt_str
theorem op_powG : OpR X (binaryOp .Pow) (rI CPowG fun i j => .int (i ^ j.toNat)) := opI fun _ _ _ _ _ _ _ hc q => PyProof.Rows.pow_int hc.1 hc.2 q
def rFdG : R2 := rI CDivW fun i j => .int (i / j)
theorem op_fdG : OpR X (binaryOp .FloorDiv) rFdG := op_fdivW
def rModG : R2 := rI (fun _ j => 0 < j) fun i j => .int (i % j)
theorem op_modG : OpR X (binaryOp .Mod) rModG := op_mod
def rSubG : R2 := rI0 fun i j => .int (i - j)
theorem op_subG : OpR X (binaryOp .Sub) rSubG := op_sub
def rMulG : R2 := rI CMul fun i j => .int (i * j)
theorem op_mulG : OpR X (binaryOp .Mult) rMulG := op_mul
def rPowG : R2 := rI CPowG fun i j => .int (i ^ j.toNat)
theorem op_powG' : OpR X (binaryOp .Pow) rPowG := op_powG
def rLeG : R2 := rI0 fun i j => .bl (decide (i ≤ j))
theorem op_leG : OpR X (compareOp .LtE) rLeG := op_le
def rGtG : R2 := rI0 fun i j => .bl (decide (j < i))
theorem op_gtG : OpR X (compareOp .Gt) rGtG := op_gt
def rGeG : R2 := fun x y H Q => (rI0 fun i j => .bl (decide (j ≤ i))) x y H Q ∨ ∃ i j, x = .str i ∧ y = .str j ∧ Q (.bl (!decide (i.cps.toList < j.cps.toList))) H
theorem op_geG : OpR X (compareOp .GtE) rGeG := op_ge.or op_ge_str
def rIsNG : R2 := fun x y H Q => y = .non ∧ Q (.bl (decide (x = .non))) H
theorem op_isNG : OpR X (compareOp .Is) rIsNG := op_isN
def rNotNG : R2 := fun x y H Q => y = .non ∧ Q (.bl (!decide (x = .non))) H
theorem op_notNG : OpR X (compareOp .IsNot) rNotNG := op_notN
def rNegG : V → Hp → VK → Prop := rU fun i => .int (-i)
theorem un_negG : UnR X (unaryOp .USub) rNegG := un_neg
/-! rules that hang on the written part, the part told by a letter (so that they stand in a comprehension's block, too) -/
def rLenG (K : PySem.W.Frag) : List V → Hp → VK → Prop := fun xs H Q => ∃ x n, xs = [x] ∧ LenV K x H n ∧ Q (.int n) H
theorem call_lenG {K : PySem.W.Frag} (h : X.K = K) : CallR X (.builtin "len") (rLenG K) := by subst h; exact call_len
theorem ix_seqG {K : PySem.W.Frag} (h : X.K = K) : IxR X (rIx K) := by subst h; exact ix_seq
theorem call_isiG {K : PySem.W.Frag} (h : X.K = K) : CallR X (.builtin "isinstance") (rIsi K) := by subst h; exact call_isi
theorem sl_listG {K : PySem.W.Frag} (h : X.K = K) : SlR X (rSlL K) := by subst h; exact sl_list
def rSlG (K : PySem.W.Frag) : V → Option Int → Option Int → Hp → VK → Prop := fun x lo hi H Q => rSlL K x lo hi H Q ∨ (L2.rSlS x lo hi H Q ∨ rSlT K x lo hi H Q)
theorem sl_G {K : PySem.W.Frag} (h : X.K = K) : SlR X (rSlG K) := by subst h; exact sl_list.or (sl_str.or sl_tup)
def rInSign : R2 := fun x y H Q => ∃ (c : Nat) (z : Str), x = .str ⟨#[c]⟩ ∧ y = .str z ∧ Q (.bl (decide (c ∈ z.cps.toList))) H
def rNotInSign : R2 := fun x y H Q => ∃ (c : Nat) (z : Str), x = .str ⟨#[c]⟩ ∧ y = .str z ∧ Q (.bl (!decide (c ∈ z.cps.toList))) H
def rInG (K : PySem.W.Frag) : R2 := fun x y H Q => rInSign x y H Q ∨ rIn K false x y H Q
def rNotInG (K : PySem.W.Frag) : R2 := fun x y H Q => rNotInSign x y H Q ∨ rIn K true x y H Q
theorem op_inG {K : PySem.W.Frag} (h : X.K = K) : OpR X (compareOp .In) (rInG K) := by subst h; exact (show OpR X (compareOp .In) rInSign from op_in_sign).or op_in_seq
theorem op_notInG {K : PySem.W.Frag} (h : X.K = K) : OpR X (compareOp .NotIn) (rNotInG K) := by subst h; exact (show OpR X (compareOp .NotIn) rNotInSign from op_notIn_sign).or op_notIn_seq
def rMax2 : List V → Hp → VK → Prop := fun xs H Q => ∃ i j, xs = [.int i, .int j] ∧ Q (.int (if j > i then j else i)) H
theorem call_max2G (h : X.calm = true) : CallR X (.builtin "max") rMax2 := call_max2 h
def rGeS : R2 := fun x y H Q => ∃ i j, x = .str i ∧ y = .str j ∧ Q (.bl (!decide (i.cps.toList < j.cps.toList))) H
def rIsBl : R2 := fun x y H Q => ∃ a b, x = .bl a ∧ y = .bl b ∧ Q (.bl (decide (a = b))) H
def rNotBl : R2 := fun x y H Q => ∃ a b, x = .bl a ∧ y = .bl b ∧ Q (.bl (!decide (a = b))) H
theorem op_isBl : OpR X (compareOp .Is) rIsBl := op_is_bl
theorem op_notBl : OpR X (compareOp .IsNot) rNotBl := op_isnot_bl
def rListG (K : PySem.W.Frag) : List V → Hp → VK → Prop := fun xs H Q => ∃ p ys, xs = [.ref p] ∧ (SqL K H p ys ∨ SqT K H p ys) ∧ ∀ l, H l = none → Q (.ref l) (upd H l (.lst ys))
theorem call_listG {K : PySem.W.Frag} (h : X.K = K) : CallR X (.type "list") (rListG K) := by subst h; exact call_list_of
def rIntG : List V → Hp → VK → Prop := fun xs H Q => (∃ i, xs = [.int i] ∧ Q (.int i) H) ∨ ∃ k, xs = [.bl k] ∧ Q (.int (if k then 1 else 0)) H
theorem call_intG : CallR X (.type "int") rIntG := call_int1
def rBoolG : List V → Hp → VK → Prop := fun xs H Q => (∃ i, xs = [.int i] ∧ Q (.bl (i != 0)) H) ∨ ∃ k, xs = [.bl k] ∧ Q (.bl k) H
theorem call_boolG : CallR X (.type "bool") rBoolG := call_bool1
def rJoinG (K : PySem.W.Frag) : V → List V → Hp → VK → Prop := fun x xs H Q => ∃ a p, ∃ ys : List Str, x = .str a ∧ xs = [.ref p] ∧ (SqL K H p (ys.map V.str) ∨ SqT K H p (ys.map V.str)) ∧
    (ys.map (·.length)).sum + ys.length * a.length ≤ 16777216 ∧ Q (.str (PySem.Txt.join a ys)) H
theorem mt_joinG {K : PySem.W.Frag} (h : X.K = K) : MtR X "str.join" (rJoinG K) := by subst h; exact mt_join
/-- is True, is False: of bools -/
def rIsB : R2 := fun x y H Q => ∃ i j, x = .bl i ∧ y = .bl j ∧ Q (.bl (decide (i = j))) H
end

/-- what is wanted behind a statement, in a word that is no constructor -/
def mkE (nx : L2.St → Hp → Prop) (rt : VK) (bk ct : L2.St → Hp → Prop) : Ends := ⟨nx, rt, bk, ct⟩
theorem Fun.okM {P : Program} {w : World} {K : PySem.W.Frag} {mg : Str → Option Value} {base : Heap} {x qual : Str} {st : Stmt} {f : Addr} {fd : FuncData} {N ps : List Str} {k : Nat} {sp : Sp} (F : Fun K x qual st f fd) (S : FnScope N ps (defScope st)) (len : ∀ vs H Q E, sp vs H Q E → vs.length = ps.length)
    (hbody : ∀ (cdv : Value) (A : Around) (outer : List Env) (s : Shared) (H : Hp) (vs : List V) (Q : VK) (E : XK), Room k (A.deeper (PyProof.Rows.envOfC qual (defScope st) s.heap.objs.size f cdv)) → sp vs H Q E →
      ∃ t, PSs (cxOf CX0 P w K mg base N qual (defScope st) f cdv A outer s H E).nox (defBody st) t ∧ t (mkE (fun _ H' => Q .non H') Q (fun _ _ => False) (fun _ _ => False)) (L2.start N vs) H) : FnOk P w K mg base CX0 (k + 1) f fd ps sp := F.ok S len hbody
/-! ### readings, step by step -/
section
variable {K : PySem.W.Frag} {σ : L2.St} {H : Hp} {Q : VK} {QT : Bool → Hp → Prop} {QA : List V → Hp → Prop} {D : Ends} {ta tb te : TE} {tr t : TA} {u c : TT} {ts tz : TS} {x y v : V} {a b : Bool} {i j : Int}
theorem g_var {n : Nat} (h : σ[n]? = some (some v)) (q : Q v H) : tVar n σ H Q := ⟨v, h, q⟩
theorem g_var0 {n : Nat} (q : ∃ v, σ[n]? = some (some v) ∧ Q v H) : tVar n σ H Q := q
theorem g_c (q : Q v H) : tC v σ H Q := q
theorem g_op {r : R2} (q : ta σ H fun x H1 => tb σ H1 fun y H2 => r x y H2 Q) : tOp r ta tb σ H Q := q
theorem g_un {r : V → Hp → VK → Prop} (q : ta σ H fun x H1 => r x H1 Q) : tUn r ta σ H Q := q
theorem g_nil (q : QA [] H) : tNil σ H QA := q
theorem g_cons (q : ta σ H fun x H1 => tr σ H1 fun xs H2 => QA (x :: xs) H2) : tCons ta tr σ H QA := q
theorem g_def {sp : Sp} (q : t σ H fun vs H1 => sp vs H1 Q E0) : tDef sp t σ H Q := q
theorem g_cb {r : List V → Hp → VK → Prop} (q : t σ H fun vs H1 => r vs H1 Q) : tCB r t σ H Q := q
theorem g_tup (q : t σ H fun xs H1 => xs.length ≤ sizeLine ∧ ∀ p, H1 p = none → Q (.ref p) (upd H1 p (.tup xs))) : tTup t σ H Q := q
theorem g_lst (q : t σ H fun xs H1 => xs.length ≤ sizeLine ∧ ∀ p, H1 p = none → Q (.ref p) (upd H1 p (.lst xs))) : tLst t σ H Q := q
theorem g_addI (q : Q (.int (i + j)) H) : rAddG (.int i) (.int j) H Q := .inl ⟨i, j, rfl, rfl, q⟩
theorem g_addS {z w : Str} (h : z.length + w.length ≤ sizeLine) (q : Q (.str (z ++ w)) H) : rAddG (.str z) (.str w) H Q := .inr (.inl ⟨z, w, rfl, rfl, h, q⟩)
theorem g_subI (q : Q (.int (i - j)) H) : rSubG (.int i) (.int j) H Q := ⟨i, j, rfl, rfl, q⟩
theorem g_mulI (h : CMul i j) (q : Q (.int (i * j)) H) : rMulG (.int i) (.int j) H Q := ⟨i, j, rfl, rfl, h, q⟩
theorem g_powI (h : CPowG i j) (q : Q (.int (i ^ j.toNat)) H) : rPowG (.int i) (.int j) H Q := ⟨i, j, rfl, rfl, h, q⟩
theorem g_modI (h : 0 < j) (q : Q (.int (i % j)) H) : rModG (.int i) (.int j) H Q := ⟨i, j, rfl, rfl, h, q⟩
theorem g_fdI (h : CDivW i j) (q : Q (.int (i / j)) H) : rFdG (.int i) (.int j) H Q := ⟨i, j, rfl, rfl, h, q⟩
theorem g_negI (q : Q (.int (-i)) H) : rNegG (.int i) H Q := ⟨i, rfl, q⟩
theorem g_ltI (q : Q (.bl (decide (i < j))) H) : rLtG (.int i) (.int j) H Q := .inl ⟨i, j, rfl, rfl, q⟩
theorem g_ltS {z w : Str} (q : Q (.bl (decide (z.cps.toList < w.cps.toList))) H) : rLtG (.str z) (.str w) H Q := .inr ⟨z, w, rfl, rfl, q⟩
theorem g_leI (q : Q (.bl (decide (i ≤ j))) H) : rLeG (.int i) (.int j) H Q := ⟨i, j, rfl, rfl, q⟩
theorem g_gtI (q : Q (.bl (decide (j < i))) H) : rGtG (.int i) (.int j) H Q := ⟨i, j, rfl, rfl, q⟩
theorem g_geI (q : Q (.bl (decide (j ≤ i))) H) : rGeG (.int i) (.int j) H Q := .inl ⟨i, j, rfl, rfl, q⟩
theorem g_geS {z w : Str} (q : Q (.bl (!decide (z.cps.toList < w.cps.toList))) H) : rGeG (.str z) (.str w) H Q := .inr ⟨z, w, rfl, rfl, q⟩
theorem g_slL {p : Addr} {xs : List V} {lo hi : Option Int} (h : SqL K H p xs) (q : ∀ l, H l = none → Q (.ref l) (upd H l (.lst (cutV xs lo hi)))) : rSlG K (.ref p) lo hi H Q := .inl ⟨p, xs, rfl, h, q⟩
theorem g_slS {z : Str} {lo hi : Option Int} (h : z.length ≤ sizeLine) (q : Q (.str (cutS z lo hi)) H) : rSlG K (.str z) lo hi H Q := .inr (.inl ⟨z, rfl, h, q⟩)
theorem g_inS {n : Nat} {z : Str} (q : Q (.bl (decide (n ∈ z.cps.toList))) H) : rInG K (.str ⟨#[n]⟩) (.str z) H Q := .inl ⟨n, z, rfl, rfl, q⟩
theorem g_notInS {n : Nat} {z : Str} (q : Q (.bl (!decide (n ∈ z.cps.toList))) H) : rNotInG K (.str ⟨#[n]⟩) (.str z) H Q := .inl ⟨n, z, rfl, rfl, q⟩
theorem g_max2 (q : Q (.int (if j > i then j else i)) H) : rMax2 [.int i, .int j] H Q := ⟨i, j, rfl, q⟩
theorem g_isBl_tt (q : Q (.bl true) H) : rIsBl (.bl true) (.bl true) H Q := ⟨true, true, rfl, rfl, q⟩
theorem g_notBl_tt (q : Q (.bl false) H) : rNotBl (.bl true) (.bl true) H Q := ⟨true, true, rfl, rfl, q⟩
theorem g_isBl_tf (q : Q (.bl false) H) : rIsBl (.bl true) (.bl false) H Q := ⟨true, false, rfl, rfl, q⟩
theorem g_notBl_tf (q : Q (.bl true) H) : rNotBl (.bl true) (.bl false) H Q := ⟨true, false, rfl, rfl, q⟩
theorem g_isBl_ft (q : Q (.bl false) H) : rIsBl (.bl false) (.bl true) H Q := ⟨false, true, rfl, rfl, q⟩
theorem g_notBl_ft (q : Q (.bl true) H) : rNotBl (.bl false) (.bl true) H Q := ⟨false, true, rfl, rfl, q⟩
theorem g_isBl_ff (q : Q (.bl true) H) : rIsBl (.bl false) (.bl false) H Q := ⟨false, false, rfl, rfl, q⟩
theorem g_notBl_ff (q : Q (.bl false) H) : rNotBl (.bl false) (.bl false) H Q := ⟨false, false, rfl, rfl, q⟩
theorem g_isBl (q : Q (.bl (decide (a = b))) H) : rIsBl (.bl a) (.bl b) H Q := ⟨a, b, rfl, rfl, q⟩
theorem g_notBl (q : Q (.bl (!decide (a = b))) H) : rNotBl (.bl a) (.bl b) H Q := ⟨a, b, rfl, rfl, q⟩
theorem g_istr {R : It → Hp → Prop} (q : ta σ H fun v H1 => ∃ x, v = .str x ∧ R (Its x) H1) : iStr ta σ H R := q
theorem g_str1 {p : Str → Prop} {z : Str} (q : p z) : ∃ x, V.str z = .str x ∧ p x := ⟨z, rfl, q⟩
theorem g_strE {z : Str} {R : Prop} (q : R) : (∃ a, V.str z = .str a) ∧ R := ⟨⟨z, rfl⟩, q⟩
theorem g_isN (q : Q (.bl (decide (x = .non))) H) : rIsNG x .non H Q := ⟨rfl, q⟩
theorem g_notN (q : Q (.bl (!decide (x = .non))) H) : rNotNG x .non H Q := ⟨rfl, q⟩
theorem g_isN_non (q : Q (.bl true) H) : rIsNG .non .non H Q := ⟨rfl, by rw [decide_eq_true rfl]; exact q⟩
theorem g_isN_int (q : Q (.bl false) H) : rIsNG (.int i) .non H Q := ⟨rfl, by rw [decide_eq_false (fun z => nomatch z)]; exact q⟩
theorem g_isN_str {z : Str} (q : Q (.bl false) H) : rIsNG (.str z) .non H Q := ⟨rfl, by rw [decide_eq_false (fun z => nomatch z)]; exact q⟩
theorem g_isN_bl (q : Q (.bl false) H) : rIsNG (.bl a) .non H Q := ⟨rfl, by rw [decide_eq_false (fun z => nomatch z)]; exact q⟩
theorem g_isN_ref {p : Addr} (q : Q (.bl false) H) : rIsNG (.ref p) .non H Q := ⟨rfl, by rw [decide_eq_false (fun z => nomatch z)]; exact q⟩
theorem g_notN_non (q : Q (.bl false) H) : rNotNG .non .non H Q := ⟨rfl, by rw [decide_eq_true rfl]; exact q⟩
theorem g_notN_int (q : Q (.bl true) H) : rNotNG (.int i) .non H Q := ⟨rfl, by rw [decide_eq_false (fun z => nomatch z)]; exact q⟩
theorem g_notN_str {z : Str} (q : Q (.bl true) H) : rNotNG (.str z) .non H Q := ⟨rfl, by rw [decide_eq_false (fun z => nomatch z)]; exact q⟩
theorem g_notN_bl (q : Q (.bl true) H) : rNotNG (.bl a) .non H Q := ⟨rfl, by rw [decide_eq_false (fun z => nomatch z)]; exact q⟩
theorem g_notN_ref {p : Addr} (q : Q (.bl true) H) : rNotNG (.ref p) .non H Q := ⟨rfl, by rw [decide_eq_false (fun z => nomatch z)]; exact q⟩
theorem g_Tn {A B : Prop} (h : B) : if (!true) = true then A else B := by rw [if_neg (by decide)]; exact h
theorem g_Fn {A B : Prop} (h : A) : if (!false) = true then A else B := by rw [if_pos (by decide)]; exact h
theorem dI (i j : Int) : decide (V.int i = V.int j) = decide (i = j) := by
  by_cases h : i = j
  · subst h; simp
  · rw [decide_eq_false h]; exact decide_eq_false fun z => h (V.int.inj z)
theorem dS (i j : Str) : decide (V.str i = V.str j) = decide (i = j) := by
  by_cases h : i = j
  · subst h; simp
  · rw [decide_eq_false h]; exact decide_eq_false fun z => h (V.str.inj z)
theorem dB (i j : Bool) : decide (V.bl i = V.bl j) = decide (i = j) := by
  by_cases h : i = j
  · subst h; simp
  · rw [decide_eq_false h]; exact decide_eq_false fun z => h (V.bl.inj z)
theorem g_eqI (q : Q (.bl (decide (i = j))) H) : rEq (.int i) (.int j) H Q := ⟨rfl, by rw [dI]; exact q⟩
theorem g_eqS {z w : Str} (q : Q (.bl (decide (z = w))) H) : rEq (.str z) (.str w) H Q := ⟨rfl, by rw [dS]; exact q⟩
theorem g_eqB (q : Q (.bl (decide (a = b))) H) : rEq (.bl a) (.bl b) H Q := ⟨rfl, by rw [dB]; exact q⟩
theorem g_neI (q : Q (.bl (!decide (i = j))) H) : rNe (.int i) (.int j) H Q := ⟨rfl, by rw [dI]; exact q⟩
theorem g_neS {z w : Str} (q : Q (.bl (!decide (z = w))) H) : rNe (.str z) (.str w) H Q := ⟨rfl, by rw [dS]; exact q⟩
theorem g_int1 (q : Q (.int i) H) : rIntG [V.int i] H Q := .inl ⟨i, rfl, q⟩
theorem g_int1B (q : Q (.int (if a then 1 else 0)) H) : rIntG [V.bl a] H Q := .inr ⟨a, rfl, q⟩
theorem g_bool1B (q : Q (.bl a) H) : rBoolG [V.bl a] H Q := .inr ⟨a, rfl, q⟩
theorem g_bool1I (q : Q (.bl (i != 0)) H) : rBoolG [V.int i] H Q := .inl ⟨i, rfl, q⟩
theorem g_ixL {p : Addr} {xs : List V} (h : SqL K H p xs) (e : atI xs i = some v) (q : Q v H) : rIx K (.ref p) (.int i) H Q := .inl ⟨p, xs, i, v, rfl, rfl, h, e, q⟩
theorem g_ixL0 {p : Addr} (q : ∃ xs v, H p = some (.lst xs) ∧ atI xs i = some v ∧ Q v H) : rIx K (.ref p) (.int i) H Q := by
  obtain ⟨xs, v, h, e, q⟩ := q
  exact g_ixL (SqL.of h) e q
theorem g_lenL0 {p : Addr} (q : ∃ xs, H p = some (.lst xs) ∧ Q (.int (xs.length : Int)) H) : rLenG K [.ref p] H Q := by
  obtain ⟨xs, h, q⟩ := q
  exact ⟨_, _, rfl, .inl ⟨xs, SqL.of h, rfl⟩, q⟩
theorem g_setL0 {p : Addr} {QH : Hp → Prop} (q : ∃ xs n, H p = some (.lst xs) ∧ ixN xs.length i = some n ∧ QH (upd H p (.lst (xs.set n v)))) : rSetL (.ref p) (.int i) v H QH := by
  obtain ⟨xs, n, h, e, q⟩ := q
  exact ⟨p, xs, i, n, rfl, rfl, h, e, q⟩
theorem g_ixT {p : Addr} {xs : List V} (h : SqT K H p xs) (e : atI xs i = some v) (q : Q v H) : rIx K (.ref p) (.int i) H Q := .inr (.inl ⟨p, xs, i, v, rfl, rfl, h, e, q⟩)
theorem g_ixS {z : Str} {n : Nat} (h : z.length ≤ sizeLine) (e : atI z.cps.toList i = some n) (q : Q (.str ⟨#[n]⟩) H) : rIx K (.str z) (.int i) H Q := .inr (.inr ⟨z, i, n, rfl, rfl, h, e, q⟩)
theorem g_lenL {p : Addr} {xs : List V} (h : SqL K H p xs) (q : Q (.int (xs.length : Int)) H) : rLenG K [.ref p] H Q := ⟨_, _, rfl, .inl ⟨xs, h, rfl⟩, q⟩
theorem g_lenT {p : Addr} {xs : List V} (h : SqT K H p xs) (q : Q (.int (xs.length : Int)) H) : rLenG K [.ref p] H Q := ⟨_, _, rfl, .inr ⟨xs, h, rfl⟩, q⟩
theorem g_lenS {z : Str} (h : z.length ≤ sizeLine) (q : Q (.int (z.length : Int)) H) : rLenG K [.str z] H Q := ⟨_, _, rfl, ⟨h, rfl⟩, q⟩
theorem g_list {p : Addr} {xs : List V} (h : SqL K H p xs) (q : ∀ l, H l = none → Q (.ref l) (upd H l (.lst xs))) : rListG K [.ref p] H Q := ⟨p, xs, rfl, .inl h, q⟩
theorem g_join {z : Str} {p : Addr} {ys : List Str} (h : SqL K H p (ys.map V.str)) (hz : (ys.map (·.length)).sum + ys.length * z.length ≤ 16777216) (q : Q (.str (PySem.Txt.join z ys)) H) : rJoinG K (.str z) [.ref p] H Q :=
  ⟨z, p, ys, rfl, rfl, .inl h, hz, q⟩
/-- the kind of a value, by its form -/
def kindS : V → String
  | .non => "NoneType" | .bl _ => "bool" | .int _ => "int" | .str _ => "str" | .flt _ => "float" | _ => ""
theorem g_isi {c : String} (ty : TyX K H x (.type n)) (h : kitB n c = some b) (q : Q (.bl b) H) : rIsi K [x, .ty c] H Q := ⟨x, .ty c, .type n, .type c, b, rfl, .ty c, ty, kit_ty h, q⟩
theorem g_isiI {c : String} (h : kitB "int" c = some b) (q : Q (.bl b) H) : rIsi K [.int i, .ty c] H Q := g_isi (.base (.int i)) h q
theorem g_isiS {c : String} {z : Str} (h : kitB "str" c = some b) (q : Q (.bl b) H) : rIsi K [.str z, .ty c] H Q := g_isi (.base (.str z)) h q
theorem g_isiB {c : String} (h : kitB "bool" c = some b) (q : Q (.bl b) H) : rIsi K [.bl a, .ty c] H Q := g_isi (.base (.bl a)) h q
theorem g_isiN {c : String} (h : kitB "NoneType" c = some b) (q : Q (.bl b) H) : rIsi K [.non, .ty c] H Q := g_isi (.base .non) h q
theorem kb_ii : kitB "int" "int" = some true := by decide +kernel
theorem kb_is : kitB "int" "str" = some false := by decide +kernel
theorem kb_ib : kitB "int" "bool" = some false := by decide +kernel
theorem kb_si : kitB "str" "int" = some false := by decide +kernel
theorem kb_ss : kitB "str" "str" = some true := by decide +kernel
theorem kb_sb : kitB "str" "bool" = some false := by decide +kernel
theorem kb_bi : kitB "bool" "int" = some true := by decide +kernel
theorem kb_bs : kitB "bool" "str" = some false := by decide +kernel
theorem kb_bb : kitB "bool" "bool" = some true := by decide +kernel
theorem kb_ni : kitB "NoneType" "int" = some false := by decide +kernel
theorem kb_ns : kitB "NoneType" "str" = some false := by decide +kernel
theorem kb_nb : kitB "NoneType" "bool" = some false := by decide +kernel
theorem g_sl {r : V → Option Int → Option Int → Hp → VK → Prop} {tl th : TO} (q : te σ H fun x H1 => tl σ H1 fun l H2 => th σ H2 fun u H3 => r x l u H3 Q) : tSl r te tl th σ H Q := q
theorem g_noPart {QO : Option Int → Hp → Prop} (q : QO none H) : tNoPart σ H QO := q
theorem g_part {QO : Option Int → Hp → Prop} (q : te σ H fun x H1 => ∃ i, x = .int i ∧ QO (some i) H1) : tPart te σ H QO := q
theorem g_int {p : Int → Prop} (q : p i) : ∃ k, V.int i = .int k ∧ p k := ⟨i, rfl, q⟩
theorem g_m1 {r : V → List V → Hp → VK → Prop} (q : ta σ H fun x H1 => (∃ a, x = .str a) ∧ tb σ H1 fun y H2 => r x [y] H2 Q) : tM1 r ta tb σ H Q := q
theorem g_m0 {r : V → List V → Hp → VK → Prop} (q : ta σ H fun x H1 => (∃ a, x = .str a) ∧ r x [] H1 Q) : tM0 r ta σ H Q := q
theorem g_lc {wi : TI} {g : TG} {tt : TT} {vs : List Nat} (q : wi σ H fun J H1 => ∀ D, H1 D = none → ∃ W : Nat → Nat → Hp → Prop, (∃ m, W 0 m (upd H1 D (.lst []))) ∧ ∀ i m H, W i m H →
  (J.stop i H ∧ Q (.ref D) H) ∨ (J.go i H ∧ ∃ Nx : Hp → Prop, (∀ H', Nx H' → ∃ m', m' < m ∧ W (i + 1) m' H') ∧ ∀ x H', J.yld i H x H' → g x (wipe σ vs) H' fun σ2 H2 => wipe σ2 vs = wipe σ vs ∧ tt σ2 H2 fun b H3 =>
    if b = true then te σ2 H3 fun y H4 => ∃ acc, H4 D = some (.lst acc) ∧ acc.length < sizeLine ∧ Nx (upd H4 D (.lst (acc ++ [y]))) else Nx H3)) : tLc wi g tt te vs σ H Q := q
theorem g_rng1 {R : It → Hp → Prop} (q : t σ H fun vs H1 => ∃ j : Int, vs = [.int j] ∧ -(2 ^ 62) ≤ j ∧ j < 2 ^ 62 ∧ R (Itr 0 j.toNat) H1) : iRng1 t σ H R := q
theorem g_ilist {R : It → Hp → Prop} (q : ta σ H fun x H1 => ∃ a, x = .ref a ∧ (∃ xs, SqL K H1 a xs) ∧ R (Itl K a) H1) : iList K ta σ H R := q
theorem g_for {wi : TI} {g : TG} (q : wi σ H fun J H1 => ∃ W : Nat → Nat → L2.St → Hp → Prop, (∃ m, W 0 m σ H1) ∧ ∀ i m σ H, W i m σ H →
  (J.stop i H ∧ D.nx σ H) ∨ (J.go i H ∧ ∃ N : L2.St → Hp → Prop, (∀ σ' H', N σ' H' → ∃ m', m' < m ∧ W (i + 1) m' σ' H') ∧ ∀ x H', J.yld i H x H' → g x σ H' fun σ2 H2 => ts { D with nx := N, ct := N, bk := D.nx } σ2 H2)) : tFor wi g ts D σ H := q
theorem g_cut {M : L2.St → Hp → Prop} (h : ts (mkE M D.rt D.bk D.ct) σ H) (k : ∀ σ' H', M σ' H' → tz D σ' H') : Evl.tCut ts tz D σ H := ⟨M, h, k⟩
theorem g_yes (q : QT true H) : tYes σ H QT := q
/-- a comprehension over a text whose turns leave the heap -/
theorem lc_text {z : Str} {g : TG} {tt : TT} {vs : List Nat} {H1 : Hp} {Dl : Addr} {Qd : Hp → Prop} (f : Nat → Bool) (v : Nat → V) (hz : z.length ≤ 1000000)
    (hs : ∀ (n : Nat) (Hh : Hp) (R : V → Hp → Prop) (S : Hp → Prop), n ∈ z.cps.toList → (∀ p o, p ≠ Dl → H1 p = some o → Hh p = some o) → (f n = true → R (v n) Hh) → (f n = false → S Hh) →
      g (.str ⟨#[n]⟩) (wipe σ vs) Hh fun σ2 H2 => wipe σ2 vs = wipe σ vs ∧ tt σ2 H2 fun b H3 => if b = true then te σ2 H3 R else S H3)
    (hd : ∀ H, (∀ p o, p ≠ Dl → H1 p = some o → H p = some o) → H Dl = some (.lst ((z.cps.toList.filter f).map v)) → Qd H) :
    ∃ W : Nat → Nat → Hp → Prop, (∃ m, W 0 m (upd H1 Dl (.lst []))) ∧ ∀ i m H, W i m H →
      ((Its z).stop i H ∧ Qd H) ∨ ((Its z).go i H ∧ ∃ Nx : Hp → Prop, (∀ H', Nx H' → ∃ m', m' < m ∧ W (i + 1) m' H') ∧ ∀ x H', (Its z).yld i H x H' → g x (wipe σ vs) H' fun σ2 H2 => wipe σ2 vs = wipe σ vs ∧ tt σ2 H2 fun b H3 =>
        if b = true then te σ2 H3 fun y H4 => ∃ acc, H4 Dl = some (.lst acc) ∧ acc.length < sizeLine ∧ Nx (upd H4 Dl (.lst (acc ++ [y]))) else Nx H3) := by
  have hsz : z.cps.size = z.cps.toList.length := Array.length_toList.symm
  refine ⟨fun i m H => m = z.cps.size - i ∧ i ≤ z.cps.size ∧ H Dl = some (.lst (((z.cps.toList.take i).filter f).map v)) ∧ ∀ p o, p ≠ Dl → H1 p = some o → H p = some o, ⟨z.cps.size, by simp, Nat.zero_le _, upd_same, fun p o n h => by rw [upd_ne n]; exact h⟩, ?_⟩
  rintro i m H ⟨rfl, hi, hD, hK⟩
  by_cases hlt : i < z.cps.size
  · refine .inr ⟨hlt, fun H' => H' Dl = some (.lst (((z.cps.toList.take (i + 1)).filter f).map v)) ∧ ∀ p o, p ≠ Dl → H1 p = some o → H' p = some o, fun H' w => ⟨z.cps.size - (i + 1), by omega, rfl, hlt, w⟩, ?_⟩
    rintro x H' ⟨rfl, n, hn, rfl⟩
    have hn' : z.cps.toList[i]? = some n := by rw [Array.getElem?_toList]; exact hn
    have e1 : z.cps.toList.take (i + 1) = z.cps.toList.take i ++ [n] := by rw [List.take_succ, hn']; rfl
    refine hs n H' _ _ (List.mem_of_getElem? hn') hK (fun hf => ?_) (fun hf => ?_)
    · refine ⟨_, hD, ?_, ?_, fun p o n h => by rw [upd_ne n]; exact hK p o n h⟩
      · rw [List.length_map, sizeLine_eq]
        have h1 := List.length_filter_le f (z.cps.toList.take i)
        have h2 : (z.cps.toList.take i).length ≤ z.cps.toList.length := by rw [List.length_take]; omega
        have h3 : z.cps.toList.length ≤ 1000000 := by rw [← hsz]; exact hz
        omega
      · rw [upd_same, e1, List.filter_append, List.filter_cons, if_pos hf, List.map_append]; rfl
    · refine ⟨?_, hK⟩
      rw [hD, e1, List.filter_append, List.filter_cons, if_neg (by rw [hf]; exact Bool.false_ne_true)]
      simp
  · have e : i = z.cps.size := by omega
    subst e
    refine .inl ⟨Nat.le_refl _, hd H hK ?_⟩
    rw [hD, hsz, List.take_length]
theorem join_cps (ys : List Str) : (PySem.Txt.join (Str.ofString "") ys).cps.toList = ys.flatMap fun y => y.cps.toList := by
  show (Builtin.Str.glued (Str.ofString "") ys).cps.toList = _
  rw [StrLaws.glued_eq_join]
  induction ys with
  | nil => rfl
  | cons y r ih =>
    cases r with
    | nil => show y.cps.toList = y.cps.toList ++ []; rw [List.append_nil]
    | cons z r =>
      show ((y ++ Str.ofString "") ++ Str.join (Str.ofString "") (z :: r)).cps.toList = _
      rw [PySem.W.KT.app_list, PySem.W.KT.app_list, ih, show (Str.ofString "").cps.toList = [] by decide +kernel, List.append_nil]
      rfl
theorem g_name {n : Nat} {QS : L2.St → Hp → Prop} (q : QS (σ.set n (some v)) H) : gName n v σ H QS := q
theorem g_inr {R : It → Hp → Prop} {p : Addr} {J : Addr → It} (q : (∃ xs, SqL K H p xs) ∧ R (J p) H) : ∃ a, V.ref p = .ref a ∧ (∃ xs, SqL K H a xs) ∧ R (J a) H := ⟨p, rfl, q⟩
theorem lex_trans {a b c : List Nat} (h : a < b) (k : b < c) : a < c := List.lt_trans h k
theorem lex_asymm {a b : List Nat} (h : a < b) : ¬ b < a := List.lt_asymm h
theorem lex_irrefl (a : List Nat) : ¬ a < a := List.lt_irrefl a
theorem lex_total {a b : List Nat} (h : ¬ a < b) (k : ¬ b < a) : a = b := List.le_antisymm (List.not_lt.mp k) (List.not_lt.mp h)
theorem str_ext {a b : Str} (h : a.cps.toList = b.cps.toList) : a = b := congrArg Str.mk (Array.toList_inj.mp h)
/-- a list, a tuple, a dict -/
def isRef (H : Hp) (p : Addr) : Prop := (∃ xs, H p = some (.lst xs)) ∨ (∃ xs, H p = some (.tup xs)) ∨ ∃ kvs, H p = some (.dK kvs)
theorem isRef.keep {H H' : Hp} {p : Addr} (h : isRef H p) (k : ∀ p o, H p = some o → H' p = some o) : isRef H' p := by
  rcases h with ⟨xs, h⟩ | ⟨xs, h⟩ | ⟨xs, h⟩
  · exact .inl ⟨xs, k _ _ h⟩
  · exact .inr (.inl ⟨xs, k _ _ h⟩)
  · exact .inr (.inr ⟨xs, k _ _ h⟩)
theorem g_isiR {p : Addr} {c : String} (h : isRef H p) (hc : c = "int" ∨ c = "str" ∨ c = "bool") (q : Q (.bl false) H) : rIsi K [.ref p, .ty c] H Q := by
  rcases h with ⟨xs, h⟩ | ⟨xs, h⟩ | ⟨xs, h⟩
  · exact g_isi (.base (.lst h)) (by rcases hc with rfl | rfl | rfl <;> decide +kernel) q
  · exact g_isi (.base (.tup h)) (by rcases hc with rfl | rfl | rfl <;> decide +kernel) q
  · exact g_isi (.base (.dK h)) (by rcases hc with rfl | rfl | rfl <;> decide +kernel) q
/-- a thing of any kind that a law draws -/
def thing (H : Hp) (v : V) : Prop := v = .non ∨ (∃ b, v = .bl b) ∨ (∃ i, v = .int i) ∨ (∃ z : Str, v = .str z ∧ z.length ≤ 100) ∨ ∃ p, v = .ref p ∧ isRef H p
theorem g_isiR0 {p : Addr} {c : String} (q : isRef H p ∧ (c = "int" ∨ c = "str" ∨ c = "bool") ∧ Q (.bl false) H) : rIsi K [.ref p, .ty c] H Q := g_isiR q.1 q.2.1 q.2.2
theorem thing.keep {H H' : Hp} {v : V} (h : thing H v) (k : ∀ p o, H p = some o → H' p = some o) : thing H' v := by
  rcases h with h | h | h | h | ⟨p, e, h⟩
  · exact .inl h
  · exact .inr (.inl h)
  · exact .inr (.inr (.inl h))
  · exact .inr (.inr (.inr (.inl h)))
  · exact .inr (.inr (.inr (.inr ⟨p, e, h.keep k⟩)))
def isIntB : V → Bool
  | .int _ => true
  | _ => false
theorem inV_strs {z : Str} {ws : List Str} : inV (.str z) (ws.map V.str) = decide (z ∈ ws) := by
  unfold inV
  rw [List.any_map]
  rw [Bool.eq_iff_iff, decide_eq_true_eq, List.any_eq_true]
  constructor
  · rintro ⟨y, hy, h⟩
    have : y = z := by simpa [eqV] using h
    rw [← this]; exact hy
  · intro h
    exact ⟨z, h, by simp [eqV]⟩
theorem flat_strs (ws : List Str) : (ws.map V.str).all flatV = true := by
  rw [List.all_map, List.all_eq_true]
  intro x _
  rfl
theorem atI_strs {ws : List Str} {i : Int} (h0 : 0 ≤ i) (h1 : i < ws.length) : ∃ z, z ∈ ws ∧ atI (ws.map V.str) i = some (.str z) := by
  obtain ⟨k, rfl⟩ := Int.eq_ofNat_of_zero_le h0
  have hk : k < ws.length := by omega
  refine ⟨ws[k], List.getElem_mem hk, atI_nat ?_⟩
  rw [List.getElem?_map, List.getElem?_eq_getElem hk]; rfl
theorem g_tupE {p : Addr} {R : Prop} (q : R) : R := q
theorem g_test (q : ta σ H fun x H' => ∃ k, x = .bl k ∧ QT k H') : tTest ta σ H QT := q
theorem g_B (q : ta σ H fun x H' => ∃ k, x = .bl k ∧ QT k H') : tB ta σ H QT := q
theorem g_bl {p : Bool → Prop} (q : p a) : ∃ k, V.bl a = .bl k ∧ p k := ⟨a, rfl, q⟩
theorem g_tand (q : c σ H fun d H1 => if d = true then u σ H1 QT else QT false H1) : tAnd c u σ H QT := q
theorem g_tor (q : c σ H fun d H1 => if d = true then QT true H1 else u σ H1 QT) : tOr c u σ H QT := q
theorem g_tnot (q : c σ H fun d H1 => QT (!d) H1) : tNot c σ H QT := q
theorem g_vand (q : ta σ H fun x H1 => ∃ c, x = .bl c ∧ if c = true then tb σ H1 Q else Q (.bl false) H1) : tAndV ta tb σ H Q := q
theorem g_vor (q : ta σ H fun x H1 => ∃ c, x = .bl c ∧ if c = true then Q (.bl true) H1 else tb σ H1 Q) : tOrV ta tb σ H Q := q
theorem g_vnot (q : ta σ H fun x H1 => ∃ c, x = .bl c ∧ Q (.bl (!c)) H1) : tNotV ta σ H Q := q
theorem g_eif (q : c σ H fun d H1 => if d = true then ta σ H1 Q else tb σ H1 Q) : tIf c ta tb σ H Q := q
theorem g_seq (q : ts (mkE (tz D) D.rt D.bk D.ct) σ H) : tSeq ts tz D σ H := q
theorem g_asg {n : Nat} (q : te σ H fun x H1 => D.nx (σ.set n (some x)) H1) : tAsg te (gName n) D σ H := q
theorem g_asgSub {to ti : TE} {s : TSet} (q : te σ H fun x H1 => to σ H1 fun o H2 => ti σ H2 fun i H3 => s o i x H3 fun H4 => D.nx σ H4) : tAsg te (gSub to ti s) D σ H := q
theorem g_ret (q : te σ H D.rt) : tRet te D σ H := q
theorem g_drop (q : te σ H fun _ H1 => D.nx σ H1) : tDrop te D σ H := q
theorem g_if {t1 t2 : TS} (q : c σ H fun d H1 => if d = true then t1 D σ H1 else t2 D σ H1) : tIfS c t1 t2 D σ H := q
theorem g_next (q : D.nx σ H) : tNext D σ H := q
variable {nx : L2.St → Hp → Prop} {rt : VK} {bk ct : L2.St → Hp → Prop}
theorem g_nx (q : nx σ H) : (mkE nx rt bk ct).nx σ H := q
theorem g_rt (q : rt v H) : (mkE nx rt bk ct).rt v H := q
theorem g_bk (q : bk σ H) : (mkE nx rt bk ct).bk σ H := q
theorem g_ct (q : ct σ H) : (mkE nx rt bk ct).ct σ H := q
theorem g_ctS (q : D.ct σ H) : tCont D σ H := q
theorem g_bkS (q : D.bk σ H) : tBreak D σ H := q
/-! sizes, places -/
theorem cpow_small (h0 : 0 ≤ j) (h1 : j ≤ 1000000) (h2 : -(2 ^ 64) < i) (h3 : i < 2 ^ 64) : CPowG i j := by
  have h := PySem.intBits_le_64 h2 h3
  have h4 : ((Builtin.Int.intBits i : Nat) : Int) ≤ 64 := by omega
  refine ⟨h0, ?_⟩
  have h5 : ((Builtin.Int.intBits i : Nat) : Int) * j ≤ 64 * j := Int.mul_le_mul_of_nonneg_right h4 h0
  omega
theorem atI_map {ns : List Int} {n : Int} (h : 0 ≤ n ∧ n < ((ns.map V.int).length : Nat)) : atI (ns.map V.int) n = some (.int (ns.getD n.toNat 0)) := by
  rw [List.length_map] at h
  obtain ⟨h0, h⟩ := h
  obtain ⟨k, rfl⟩ := Int.eq_ofNat_of_zero_le h0
  refine atI_nat ?_
  rw [List.getElem?_map, List.getD_eq_getElem?_getD, Int.toNat_natCast, List.getElem?_eq_getElem (by omega)]
  rfl
theorem atI_get {α : Type} {xs : List α} {n : Nat} {v : α} (h : xs[n]? = some v) : atI xs (n : Int) = some v := atI_nat h
/-! tests -/
theorem g_T {A B : Prop} (h : A) : if true = true then A else B := by rw [if_pos rfl]; exact h
theorem g_F {A B : Prop} (h : B) : if false = true then A else B := by rw [if_neg Bool.false_ne_true]; exact h
theorem g_split {A B : Prop} {k : Bool} (h1 : k = true → A) (h2 : k = false → B) : if k = true then A else B := by
  cases k
  · exact g_F (h2 rfl)
  · exact g_T (h1 rfl)
theorem g_dec {A B p : Prop} [Decidable p] (h1 : p → A) (h2 : ¬ p → B) : if decide p = true then A else B :=
  g_split (fun h => h1 (of_decide_eq_true h)) (fun h => h2 (of_decide_eq_false h))
theorem g_ndec {A B p : Prop} [Decidable p] (h1 : ¬ p → A) (h2 : p → B) : if (!decide p) = true then A else B := by
  by_cases h : p
  · rw [decide_eq_true h]; exact g_F (h2 h)
  · rw [decide_eq_false h]; exact g_T (h1 h)
theorem g_nsplit {A B : Prop} {k : Bool} (h1 : k = false → A) (h2 : k = true → B) : if (!k) = true then A else B := by
  cases k
  · exact g_Fn (h1 rfl)
  · exact g_Tn (h2 rfl)
/-! loops whose turns don't see what follows -/
theorem for_rangeA {lo : Int} {n : Nat} {g : TG} {tb : TS} (Pv : Nat → L2.St → Hp → Prop) (h0 : Pv 0 σ H)
    (hs : ∀ i σ H (D' : Ends), i < n → Pv i σ H → (∀ σ H, Pv (i + 1) σ H → D'.nx σ H) → (∀ σ H, Pv (i + 1) σ H → D'.ct σ H) → (∀ σ H, D.nx σ H → D'.bk σ H) → D'.rt = D.rt → g (.int (lo + i)) σ H fun σ2 H2 => tb D' σ2 H2) (hd : ∀ σ H, Pv n σ H → D.nx σ H) :
    ∃ W : Nat → Nat → L2.St → Hp → Prop, (∃ m, W 0 m σ H) ∧ ∀ i m σ H, W i m σ H →
      ((Itr lo n).stop i H ∧ D.nx σ H) ∨ ((Itr lo n).go i H ∧ ∃ N : L2.St → Hp → Prop, (∀ σ' H', N σ' H' → ∃ m', m' < m ∧ W (i + 1) m' σ' H') ∧ ∀ x H', (Itr lo n).yld i H x H' → g x σ H' fun σ2 H2 => tb { D with nx := N, ct := N, bk := D.nx } σ2 H2) :=
  for_range Pv h0 (fun i σ H hi p => hs i σ H _ hi p (fun _ _ h => h) (fun _ _ h => h) (fun _ _ h => h) rfl) hd
theorem for_listA {p : Addr} {xs : List V} {g : TG} {tb : TS} (Pv : Nat → L2.St → Hp → Prop) (h0 : Pv 0 σ H) (hl : ∀ i σ H, i ≤ xs.length → Pv i σ H → SqL K H p xs)
    (hs : ∀ i x σ H (D' : Ends), xs[i]? = some x → Pv i σ H → (∀ σ H, Pv (i + 1) σ H → D'.nx σ H) → (∀ σ H, Pv (i + 1) σ H → D'.ct σ H) → (∀ σ H, D.nx σ H → D'.bk σ H) → D'.rt = D.rt → g x σ H fun σ2 H2 => tb D' σ2 H2) (hd : ∀ σ H, Pv xs.length σ H → D.nx σ H) :
    ∃ W : Nat → Nat → L2.St → Hp → Prop, (∃ m, W 0 m σ H) ∧ ∀ i m σ H, W i m σ H →
      ((Itl K p).stop i H ∧ D.nx σ H) ∨ ((Itl K p).go i H ∧ ∃ N : L2.St → Hp → Prop, (∀ σ' H', N σ' H' → ∃ m', m' < m ∧ W (i + 1) m' σ' H') ∧ ∀ x H', (Itl K p).yld i H x H' → g x σ H' fun σ2 H2 => tb { D with nx := N, ct := N, bk := D.nx } σ2 H2) :=
  for_list Pv h0 hl (fun i x σ H hi p => hs i x σ H _ hi p (fun _ _ h => h) (fun _ _ h => h) (fun _ _ h => h) rfl) hd
theorem g_cutA {M : L2.St → Hp → Prop} (h : ∀ D' : Ends, (∀ σ H, M σ H → D'.nx σ H) → D'.rt = D.rt → D'.bk = D.bk → D'.ct = D.ct → ts D' σ H) (k : ∀ σ' H', M σ' H' → tz D σ' H') : Evl.tCut ts tz D σ H :=
  ⟨M, h _ (fun _ _ h => h) rfl rfl rfl, k⟩
/-! stores -/
theorem g_setL {p : Addr} {xs : List V} {n : Nat} {QH : Hp → Prop} (h : H p = some (.lst xs)) (e : ixN xs.length i = some n) (q : QH (upd H p (.lst (xs.set n v)))) : rSetL (.ref p) (.int i) v H QH := ⟨p, xs, i, n, rfl, rfl, h, e, q⟩
theorem g_app {p : Addr} {xs : List V} (h : H p = some (.lst xs)) (hz : xs.length < 10000000) (q : Q .non (upd H p (.lst (xs ++ [v])))) : rAppend (.ref p) [v] H Q := ⟨p, xs, v, rfl, rfl, h, by rw [sizeLine_eq]; omega, q⟩
theorem g_app0 {p : Addr} (q : ∃ xs, H p = some (.lst xs) ∧ xs.length < 10000000 ∧ Q .non (upd H p (.lst (xs ++ [v])))) : rAppend (.ref p) [v] H Q := by
  obtain ⟨xs, h, hz, q⟩ := q
  exact g_app h hz q
theorem g_bm {r : V → List V → Hp → VK → Prop} {T : String} (q : ta σ H fun x H1 => tyV K T x H1 ∧ t σ H1 fun xs H2 => r x xs H2 Q) : tBM K T r ta t σ H Q := q
theorem tyL {p : Addr} {xs : List V} (h : H p = some (.lst xs)) : tyV K "list" (.ref p) H := .inl ⟨rfl, xs, SqL.of h⟩
theorem g_tyL {p : Addr} {R : Prop} (q : (∃ xs, H p = some (.lst xs)) ∧ R) : tyV K "list" (.ref p) H ∧ R := ⟨let ⟨_, h⟩ := q.1; tyL h, q.2⟩
end
end Tw

set_option Elab.async false
set_option linter.all false
set_option maxRecDepth 100000
namespace Tw
open PySem L2 PySem.Spec
/-- an iterator that goes through xs -/
structure Fits (J : It) (xs : List V) (H : Hp) : Prop where
  go : ∀ i, i < xs.length → J.go i H
  stop : ∀ i, xs.length ≤ i → J.stop i H
  yld : ∀ i x H', J.yld i H x H' → H' = H ∧ xs[i]? = some x
theorem fits_l {K : PySem.W.Frag} {H : Hp} {a : Addr} {xs : List V} (h : SqL K H a xs) : Fits (Itl K a) xs H :=
  ⟨fun i hi => ⟨xs, xs[i], h, by simp [hi]⟩, fun i hi => ⟨xs, h, hi⟩, fun i x H' y => ⟨y.1, y.2 xs h⟩⟩
theorem fits_t {K : PySem.W.Frag} {H : Hp} {a : Addr} {xs : List V} (h : SqT K H a xs) : Fits (Itt K a) xs H :=
  ⟨fun i hi => ⟨xs, xs[i], h, by simp [hi]⟩, fun i hi => ⟨xs, h, hi⟩, fun i x H' y => ⟨y.1, y.2 xs h⟩⟩
theorem take_flat {F : V → List V} {xs : List V} {i : Nat} {x : V} (h : xs[i]? = some x) : (xs.take (i + 1)).flatMap F = (xs.take i).flatMap F ++ F x := by
  rw [List.take_succ, h, List.flatMap_append]
  simp
theorem flat_le {F : V → List V} {xs : List V} {i : Nat} {x : V} (h : xs[i]? = some x) : ((xs.take i).flatMap F ++ F x).length ≤ (xs.flatMap F).length := by
  rw [← take_flat h]
  conv => rhs; rw [← List.take_append_drop (i + 1) xs]
  rw [List.flatMap_append, List.length_append]
  omega
theorem rng_le {F : Nat → List V} {n : Nat} : ∀ {i : Nat}, i < n → ((List.range i).flatMap F ++ F i).length ≤ ((List.range n).flatMap F).length := by
  intro i h
  have e : (List.range (i + 1)).flatMap F = (List.range i).flatMap F ++ F i := by rw [List.range_succ, List.flatMap_append]; simp
  rw [← e]
  obtain ⟨m, rfl⟩ : ∃ m, n = (i + 1) + m := ⟨n - (i + 1), by omega⟩
  have e2 : List.range (i + 1 + m) = List.range (i + 1) ++ (List.range m).map (i + 1 + ·) := List.range_add
  rw [e2, List.flatMap_append, List.length_append]
  omega
section
variable {J : It} {g g1 : TG} {tt tt1 : TT} {wi1 : TI} {te : TE} {vs vs1 : List Nat} {σ : L2.St} {H1 : Hp} {D : Addr} {Qd : Hp → Prop}
/-- a comprehension with two fors and no ifs: what the inner ones hold, one behind the other -/
theorem lc2_flat (xs : List V) (F : V → List V) (hD : H1 D = none) (hJ : ∀ H, (∀ q o, H1 q = some o → H q = some o) → Fits J xs H) (hlen : (xs.flatMap F).length ≤ 1000000)
    (hs : ∀ x Hh (R : L2.St → It → Hp → Prop) (S : Hp → Prop), x ∈ xs → (∀ q o, H1 q = some o → Hh q = some o) →
      (∀ σ2 J1 H', (∀ q o, Hh q = some o → H' q = some o) → (∀ H'', (∀ q o, q ≠ D → H' q = some o → H'' q = some o) → Fits J1 (F x) H'') →
        (∀ y Hk (R1 : V → Hp → Prop) (S1 : Hp → Prop), y ∈ F x → R1 y Hk → g1 y (wipe σ2 vs1) Hk fun σ3 H5 => wipe σ3 vs1 = wipe σ2 vs1 ∧ tt1 σ3 H5 fun b H6 => if b = true then te σ3 H6 R1 else S1 H6) → R σ2 J1 H') →
      g x (wipe σ vs) Hh fun σ2 H2 => wipe σ2 vs = wipe σ vs ∧ tt σ2 H2 fun b H3 => if b = true then wi1 σ2 H3 (R σ2) else S H3)
    (hd : ∀ H, (∀ q o, H1 q = some o → H q = some o) → H D = some (.lst (xs.flatMap F)) → Qd H) :
    ∃ W : Nat → Nat → Hp → Prop, (∃ m, W 0 m (upd H1 D (.lst []))) ∧ ∀ i m H, W i m H →
      (J.stop i H ∧ Qd H) ∨ (J.go i H ∧ ∃ Nx : Hp → Prop, (∀ H', Nx H' → ∃ m', m' < m ∧ W (i + 1) m' H') ∧ ∀ x H', J.yld i H x H' → g x (wipe σ vs) H' fun σ2 H2 => wipe σ2 vs = wipe σ vs ∧ tt σ2 H2 fun b H3 =>
        if b = true then wi1 σ2 H3 fun J1 H4 => ∃ W1 : Nat → Nat → Hp → Prop, (∃ m, W1 0 m H4) ∧ ∀ j k H, W1 j k H →
          (J1.stop j H ∧ Nx H) ∨ (J1.go j H ∧ ∃ Nx1 : Hp → Prop, (∀ H', Nx1 H' → ∃ k', k' < k ∧ W1 (j + 1) k' H') ∧ ∀ x H', J1.yld j H x H' → g1 x (wipe σ2 vs1) H' fun σ3 H5 => wipe σ3 vs1 = wipe σ2 vs1 ∧ tt1 σ3 H5 fun b H6 =>
            if b = true then te σ3 H6 fun y H7 => ∃ acc, H7 D = some (.lst acc) ∧ acc.length < sizeLine ∧ Nx1 (upd H7 D (.lst (acc ++ [y]))) else Nx1 H6)
        else Nx H3) := by
  refine ⟨fun i m H => m = xs.length - i ∧ i ≤ xs.length ∧ H D = some (.lst ((xs.take i).flatMap F)) ∧ ∀ q o, H1 q = some o → H q = some o, ⟨xs.length, by simp, Nat.zero_le _, upd_same, fun q o h => by rw [upd_ne (ne_of_none h hD)]; exact h⟩, ?_⟩
  rintro i m H ⟨rfl, hi, hDl, hK⟩
  have fi := hJ H hK
  by_cases hlt : i < xs.length
  · refine .inr ⟨fi.go i hlt, fun H' => H' D = some (.lst ((xs.take (i + 1)).flatMap F)) ∧ ∀ q o, H1 q = some o → H' q = some o, fun H' w => ⟨xs.length - (i + 1), by omega, rfl, hlt, w⟩, ?_⟩
    intro x H' hy
    obtain ⟨rfl, hx⟩ := fi.yld i x H' hy
    refine hs x H' (fun σ2 J1 H4 => _) (fun H3 => _) (List.mem_of_getElem? hx) hK fun σ2 J1 H4 ext f1 turn => ?_
    have e1 := take_flat (F := F) hx
    have l1 := flat_le (F := F) hx
    refine ⟨fun j k H => k = (F x).length - j ∧ j ≤ (F x).length ∧ H D = some (.lst ((xs.take i).flatMap F ++ (F x).take j)) ∧ ∀ q o, q ≠ D → H4 q = some o → H q = some o, ⟨(F x).length, by simp, Nat.zero_le _, by rw [ext _ _ hDl, List.take_zero, List.append_nil], fun q o _ h => h⟩, ?_⟩
    rintro j k Hj ⟨rfl, hj, hDj, hKj⟩
    have fj := f1 Hj hKj
    by_cases hjl : j < (F x).length
    · refine .inr ⟨fj.go j hjl, fun H' => H' D = some (.lst ((xs.take i).flatMap F ++ (F x).take (j + 1))) ∧ ∀ q o, q ≠ D → H4 q = some o → H' q = some o, fun H' w => ⟨(F x).length - (j + 1), by omega, rfl, hjl, w⟩, ?_⟩
      intro y Hy hyy
      obtain ⟨rfl, hyx⟩ := fj.yld j y Hy hyy
      refine turn y Hy (fun y H7 => _) (fun H6 => _) (List.mem_of_getElem? hyx) ⟨_, hDj, ?_, ?_, fun q o n h => by rw [upd_ne n]; exact hKj q o n h⟩
      · rw [List.length_append] at l1 ⊢
        have : ((F x).take j).length ≤ (F x).length := by rw [List.length_take]; omega
        rw [sizeLine_eq]
        omega
      · rw [upd_same, List.take_succ, hyx, List.append_assoc]
        rfl
    · have e : j = (F x).length := by omega
      subst e
      refine .inl ⟨fj.stop _ (Nat.le_refl _), ?_, fun q o h => hKj q o (ne_of_none h hD) (ext q o (hK q o h))⟩
      rw [hDj, List.take_length, e1]
  · have e : i = xs.length := by omega
    subst e
    refine .inl ⟨fi.stop _ (Nat.le_refl _), hd H hK ?_⟩
    rw [hDl, List.take_length]
/-- the same, the inner ones told by their places: what the inner ones hold, one behind the other -/
theorem lc2_flatI (xs : List V) (F : Nat → List V) (hD : H1 D = none) (hJ : ∀ H, (∀ q o, H1 q = some o → H q = some o) → Fits J xs H) (hlen : ((List.range xs.length).flatMap F).length ≤ 1000000)
    (hs : ∀ i x Hh (R : L2.St → It → Hp → Prop) (S : Hp → Prop), xs[i]? = some x → Hh D ≠ none → (∀ q o, H1 q = some o → Hh q = some o) →
      (∀ σ2 J1 H', (∀ q o, Hh q = some o → H' q = some o) → (∀ H'', (∀ q o, q ≠ D → H' q = some o → H'' q = some o) → Fits J1 (F i) H'') →
        (∀ y Hk (R1 : V → Hp → Prop) (S1 : Hp → Prop), y ∈ F i → R1 y Hk → g1 y (wipe σ2 vs1) Hk fun σ3 H5 => wipe σ3 vs1 = wipe σ2 vs1 ∧ tt1 σ3 H5 fun b H6 => if b = true then te σ3 H6 R1 else S1 H6) → R σ2 J1 H') →
      g x (wipe σ vs) Hh fun σ2 H2 => wipe σ2 vs = wipe σ vs ∧ tt σ2 H2 fun b H3 => if b = true then wi1 σ2 H3 (R σ2) else S H3)
    (hd : ∀ H, (∀ q o, H1 q = some o → H q = some o) → H D = some (.lst ((List.range xs.length).flatMap F)) → Qd H) :
    ∃ W : Nat → Nat → Hp → Prop, (∃ m, W 0 m (upd H1 D (.lst []))) ∧ ∀ i m H, W i m H →
      (J.stop i H ∧ Qd H) ∨ (J.go i H ∧ ∃ Nx : Hp → Prop, (∀ H', Nx H' → ∃ m', m' < m ∧ W (i + 1) m' H') ∧ ∀ x H', J.yld i H x H' → g x (wipe σ vs) H' fun σ2 H2 => wipe σ2 vs = wipe σ vs ∧ tt σ2 H2 fun b H3 =>
        if b = true then wi1 σ2 H3 fun J1 H4 => ∃ W1 : Nat → Nat → Hp → Prop, (∃ m, W1 0 m H4) ∧ ∀ j k H, W1 j k H →
          (J1.stop j H ∧ Nx H) ∨ (J1.go j H ∧ ∃ Nx1 : Hp → Prop, (∀ H', Nx1 H' → ∃ k', k' < k ∧ W1 (j + 1) k' H') ∧ ∀ x H', J1.yld j H x H' → g1 x (wipe σ2 vs1) H' fun σ3 H5 => wipe σ3 vs1 = wipe σ2 vs1 ∧ tt1 σ3 H5 fun b H6 =>
            if b = true then te σ3 H6 fun y H7 => ∃ acc, H7 D = some (.lst acc) ∧ acc.length < sizeLine ∧ Nx1 (upd H7 D (.lst (acc ++ [y]))) else Nx1 H6)
        else Nx H3) := by
  refine ⟨fun i m H => m = xs.length - i ∧ i ≤ xs.length ∧ H D = some (.lst ((List.range i).flatMap F)) ∧ ∀ q o, H1 q = some o → H q = some o, ⟨xs.length, by simp, Nat.zero_le _, upd_same, fun q o h => by rw [upd_ne (ne_of_none h hD)]; exact h⟩, ?_⟩
  rintro i m H ⟨rfl, hi, hDl, hK⟩
  have fi := hJ H hK
  by_cases hlt : i < xs.length
  · refine .inr ⟨fi.go i hlt, fun H' => H' D = some (.lst ((List.range (i + 1)).flatMap F)) ∧ ∀ q o, H1 q = some o → H' q = some o, fun H' w => ⟨xs.length - (i + 1), by omega, rfl, hlt, w⟩, ?_⟩
    intro x H' hy
    obtain ⟨rfl, hx⟩ := fi.yld i x H' hy
    refine hs i x H' (fun σ2 J1 H4 => _) (fun H3 => _) hx (by rw [hDl]; exact nofun) hK fun σ2 J1 H4 ext f1 turn => ?_
    have e1 : (List.range (i + 1)).flatMap F = (List.range i).flatMap F ++ F i := by rw [List.range_succ, List.flatMap_append]; simp
    have l1 : ((List.range i).flatMap F ++ F i).length ≤ ((List.range xs.length).flatMap F).length := rng_le hlt
    refine ⟨fun j k H => k = (F i).length - j ∧ j ≤ (F i).length ∧ H D = some (.lst ((List.range i).flatMap F ++ (F i).take j)) ∧ ∀ q o, q ≠ D → H4 q = some o → H q = some o, ⟨(F i).length, by simp, Nat.zero_le _, by rw [ext _ _ hDl, List.take_zero, List.append_nil], fun q o _ h => h⟩, ?_⟩
    rintro j k Hj ⟨rfl, hj, hDj, hKj⟩
    have fj := f1 Hj hKj
    by_cases hjl : j < (F i).length
    · refine .inr ⟨fj.go j hjl, fun H' => H' D = some (.lst ((List.range i).flatMap F ++ (F i).take (j + 1))) ∧ ∀ q o, q ≠ D → H4 q = some o → H' q = some o, fun H' w => ⟨(F i).length - (j + 1), by omega, rfl, hjl, w⟩, ?_⟩
      intro y Hy hyy
      obtain ⟨rfl, hyx⟩ := fj.yld j y Hy hyy
      refine turn y Hy (fun y H7 => _) (fun H6 => _) (List.mem_of_getElem? hyx) ⟨_, hDj, ?_, ?_, fun q o n h => by rw [upd_ne n]; exact hKj q o n h⟩
      · rw [List.length_append] at l1 ⊢
        have : ((F i).take j).length ≤ (F i).length := by rw [List.length_take]; omega
        rw [sizeLine_eq]
        omega
      · rw [upd_same, List.take_succ, hyx, List.append_assoc]
        rfl
    · have e : j = (F i).length := by omega
      subst e
      refine .inl ⟨fj.stop _ (Nat.le_refl _), ?_, fun q o h => hKj q o (ne_of_none h hD) (ext q o (hK q o h))⟩
      rw [hDj, List.take_length, e1]
  · have e : i = xs.length := by omega
    subst e
    refine .inl ⟨fi.stop _ (Nat.le_refl _), hd H hK ?_⟩
    exact hDl
/-- a comprehension whose turns leave the heap -/
theorem lc_map (xs : List V) (v : V → V) (hD : H1 D = none) (hJ : ∀ H, (∀ q o, H1 q = some o → H q = some o) → Fits J xs H) (hlen : xs.length ≤ 1000000)
    (hs : ∀ x Hh (R : V → Hp → Prop) (S : Hp → Prop), x ∈ xs → (∀ q o, H1 q = some o → Hh q = some o) → R (v x) Hh →
      g x (wipe σ vs) Hh fun σ2 H2 => wipe σ2 vs = wipe σ vs ∧ tt σ2 H2 fun b H3 => if b = true then te σ2 H3 R else S H3)
    (hd : ∀ H, (∀ q o, H1 q = some o → H q = some o) → H D = some (.lst (xs.map v)) → Qd H) :
    ∃ W : Nat → Nat → Hp → Prop, (∃ m, W 0 m (upd H1 D (.lst []))) ∧ ∀ i m H, W i m H →
      (J.stop i H ∧ Qd H) ∨ (J.go i H ∧ ∃ Nx : Hp → Prop, (∀ H', Nx H' → ∃ m', m' < m ∧ W (i + 1) m' H') ∧ ∀ x H', J.yld i H x H' → g x (wipe σ vs) H' fun σ2 H2 => wipe σ2 vs = wipe σ vs ∧ tt σ2 H2 fun b H3 =>
        if b = true then te σ2 H3 fun y H4 => ∃ acc, H4 D = some (.lst acc) ∧ acc.length < sizeLine ∧ Nx (upd H4 D (.lst (acc ++ [y]))) else Nx H3) := by
  refine ⟨fun i m H => m = xs.length - i ∧ i ≤ xs.length ∧ H D = some (.lst ((xs.take i).map v)) ∧ ∀ q o, H1 q = some o → H q = some o, ⟨xs.length, by simp, Nat.zero_le _, upd_same, fun q o h => by rw [upd_ne (ne_of_none h hD)]; exact h⟩, ?_⟩
  rintro i m H ⟨rfl, hi, hDl, hK⟩
  have fi := hJ H hK
  by_cases hlt : i < xs.length
  · refine .inr ⟨fi.go i hlt, fun H' => H' D = some (.lst ((xs.take (i + 1)).map v)) ∧ ∀ q o, H1 q = some o → H' q = some o, fun H' w => ⟨xs.length - (i + 1), by omega, rfl, hlt, w⟩, ?_⟩
    intro x H' hy
    obtain ⟨rfl, hx⟩ := fi.yld i x H' hy
    refine hs x H' (fun y H4 => _) (fun H3 => _) (List.mem_of_getElem? hx) hK ⟨_, hDl, ?_, ?_, fun q o h => by rw [upd_ne (ne_of_none h hD)]; exact hK q o h⟩
    · rw [List.length_map, List.length_take, sizeLine_eq]
      omega
    · rw [upd_same, List.take_succ, hx, List.map_append]
      rfl
  · have e : i = xs.length := by omega
    subst e
    refine .inl ⟨fi.stop _ (Nat.le_refl _), hd H hK ?_⟩
    rw [hDl, List.take_length]
variable {K : PySem.W.Frag} {Q : VK}
theorem g_lc2 {wi : TI} (q : wi σ H1 fun J H1 => ∀ D, H1 D = none → ∃ W : Nat → Nat → Hp → Prop, (∃ m, W 0 m (upd H1 D (.lst []))) ∧ ∀ i m H, W i m H →
      (J.stop i H ∧ Q (.ref D) H) ∨ (J.go i H ∧ ∃ Nx : Hp → Prop, (∀ H', Nx H' → ∃ m', m' < m ∧ W (i + 1) m' H') ∧ ∀ x H', J.yld i H x H' → g x (wipe σ vs) H' fun σ2 H2 => wipe σ2 vs = wipe σ vs ∧ tt σ2 H2 fun b H3 =>
        if b = true then wi1 σ2 H3 fun J1 H4 => ∃ W1 : Nat → Nat → Hp → Prop, (∃ m, W1 0 m H4) ∧ ∀ j k H, W1 j k H →
          (J1.stop j H ∧ Nx H) ∨ (J1.go j H ∧ ∃ Nx1 : Hp → Prop, (∀ H', Nx1 H' → ∃ k', k' < k ∧ W1 (j + 1) k' H') ∧ ∀ x H', J1.yld j H x H' → g1 x (wipe σ2 vs1) H' fun σ3 H5 => wipe σ3 vs1 = wipe σ2 vs1 ∧ tt1 σ3 H5 fun b H6 =>
            if b = true then te σ3 H6 fun y H7 => ∃ acc, H7 D = some (.lst acc) ∧ acc.length < sizeLine ∧ Nx1 (upd H7 D (.lst (acc ++ [y]))) else Nx1 H6)
        else Nx H3)) : tLc2 wi g tt wi1 g1 tt1 te vs vs1 σ H1 Q := q
end
end Tw

set_option Elab.async false
set_option linter.all false
set_option maxRecDepth 100000
set_option maxHeartbeats 4000000
/-! sets of values of one kind, by the list of their members: made of a list, sorted -/
namespace Tw
open PySem L2 PySem.Spec PyProof.Rows
/-- a list that is an arrangement of mapped things is mapped of an arrangement -/
theorem perm_unmap {α β : Type} {f : α → β} {l : List β} {xs : List α} (p : l.Perm (xs.map f)) : ∃ ys : List α, l = ys.map f ∧ ys.Perm xs := by
  generalize hm : xs.map f = m at p
  induction p generalizing xs with
  | nil =>
    have : xs = [] := List.map_eq_nil_iff.mp hm
    exact ⟨[], rfl, by rw [this]⟩
  | cons b _ ih =>
    cases xs with
    | nil => cases hm
    | cons x xs =>
      injection hm with h1 h2
      obtain ⟨ys, e, p⟩ := ih h2
      exact ⟨x :: ys, by rw [List.map_cons, ← e, h1], p.cons x⟩
  | swap b c l =>
    match xs, hm with
    | x :: y :: r, hm =>
      injection hm with h1 h2
      injection h2 with h2 h3
      exact ⟨y :: x :: r, by rw [List.map_cons, List.map_cons, h1, h2, h3], List.Perm.swap x y r⟩
  | trans _ _ ih1 ih2 =>
    obtain ⟨ys, e, p⟩ := ih2 hm
    obtain ⟨zs, e2, p2⟩ := ih1 e.symm
    exact ⟨zs, e2, p2.trans p⟩
section
variable {P : Program} {w : World} {κ : Type} [DecidableEq κ] {knd : PySem.KeyKind P w κ}
/-- the set at a: its members by key and value, in the order in which its table keeps them -/
def SetL (knd : PySem.KeyKind P w κ) (h : Heap) (a : Addr) (L : List (κ × Value)) : Prop :=
  ∃ o es ep t, h.get? a = some o ∧ o.ExactSet ∧ o.data = .set es ep t ∧ es.toList = L.map (fun p => (knd.hash p.1, p.2)) ∧ (∀ p ∈ L, knd.is p.1 p.2 = true ∧ p.2.scannable = true) ∧ (L.map (·.1)).Nodup ∧
    es.size < scanBound ∧ t.fits es.size = true ∧ Ris t.place.toList ∧ (w.params.followText "set-order" = true ∨ t.led = true)
theorem SetL.at {h h' : Heap} {a : Addr} {L : List (κ × Value)} (S : SetL knd h a L) (k : ∀ o, h.get? a = some o → h'.get? a = some o) : SetL knd h' a L := by
  obtain ⟨o, es, ep, t, g, r⟩ := S
  exact ⟨o, es, ep, t, k o g, r⟩
theorem SetL.len {h : Heap} {a : Addr} {L : List (κ × Value)} (S : SetL knd h a L) : L.length < scanBound := by
  obtain ⟨o, es, ep, t, g, gx, gd, ge, gi, gn, gb, _⟩ := S
  have : es.toList.length = L.length := by rw [ge, List.length_map]
  rw [Array.length_toList] at this
  omega
theorem elems_of {L : List (κ × Value)} (gi : ∀ p ∈ L, knd.is p.1 p.2 = true ∧ p.2.scannable = true) : ElemsOf knd (L.map fun p => (knd.hash p.1, p.2)) := fun e he => by
  obtain ⟨p, hp, rfl⟩ := List.mem_map.mp he
  exact ⟨⟨p.1, (gi p hp).1, rfl⟩, (gi p hp).2⟩
variable {A : Around} {E : Value → Shared → Prop} {s : Shared} {a : Addr}
/-- the table laid anew and kept -/
theorem keep_laid {o : Obj} {es : Array (Int × Value)} {ep : Nat} {t : SetTable} (g : s.heap.get? a = some o) (gx : o.ExactSet) (gd : o.data = .set es ep t) {es2 : Array (Int × Value)} {t2 : SetTable} {L2' : List (κ × Value)}
    (ge : es2.toList = L2'.map (fun p => (knd.hash p.1, p.2))) (gi : ∀ p ∈ L2', knd.is p.1 p.2 = true ∧ p.2.scannable = true) (gn : (L2'.map (·.1)).Nodup) (gb : es2.size < scanBound) (gf : t2.fits es2.size = true) (gr : Ris t2.place.toList)
    (gl : w.params.followText "set-order" = true ∨ t2.led = true) {Q : Unit → Shared → Prop} (hQ : ∀ h', Heap.SameBut a s.heap h' → (∃ o', h'.get? a = some o' ∧ o'.ExactSet ∧ o'.data = .set es2 (ep + 1) t2) → SetL knd h' a L2' → Q () { s with heap := h' }) :
    wpAny (model P w) A (storeSet a es2 t2) Q E s := by
  refine wpAny_storeSet_of g gd ?_ (fits_of_scanBound gb)
  have g2 := store_at (es' := es2) (t' := t2) g gd
  exact hQ _ (Heap.SameBut.update s.heap a (Obj.putSet es2 t2)) ⟨_, g2, gx, rfl⟩ ⟨_, es2, _, t2, g2, gx, rfl, ge, gi, gn, gb, gf, gr, gl⟩
/-- a table that has been laid is kept, and laid out wider where it is too full -/
theorem keep_wide {o : Obj} {es : Array (Int × Value)} {ep : Nat} {t : SetTable} (g : s.heap.get? a = some o) (gx : o.ExactSet) (gd : o.data = .set es ep t) {es2 : Array (Int × Value)} {t2 : SetTable} {M : List (κ × Value)}
    (ge : es2.toList = M.map (fun p => (knd.hash p.1, p.2))) (gi : ∀ p ∈ M, knd.is p.1 p.2 = true ∧ p.2.scannable = true) (gn : (M.map (·.1)).Nodup) (gb : es2.size < scanBound) (gf : t2.fits es2.size = true) (gr : Ris t2.place.toList)
    (gl : w.params.followText "set-order" = true ∨ t2.led = true) {was : Bool} {told : Bool → Sem Unit} (ht : ∀ (b : Bool) (s1 : Shared) (Q1 : Unit → Shared → Prop), Q1 () s1 → wpAny (model P w) A (told b) Q1 E s1) {Q : Option Bool → Shared → Prop}
    (hQ : ∀ h' M', Heap.SameBut a s.heap h' → SetL knd h' a M' → M'.Perm M → Q (some true) { s with heap := h' }) :
    wpAny (model P w) A (storeSet a es2 t2 >>= fun _ => if (!was && t2.tooFull) = true then told (relayAll t2 es2 (SetTable.grown es2.size)).2.2 >>= fun _ => storeSet a (relayAll t2 es2 (SetTable.grown es2.size)).1 (relayAll t2 es2 (SetTable.grown es2.size)).2.1 >>= fun _ => pure (some true) else pure (some true)) Q E s := by
  refine wpAny_bind (keep_laid g gx gd ge gi gn gb gf gr gl fun h1 sb1 ⟨o1, g1, gx1, gd1⟩ S1 => ?_)
  by_cases full : (!was && t2.tooFull) = true
  · rw [if_pos full]
    have p1 := relayAll_perm t2 es2 (SetTable.grown es2.size)
    have p2 := relayAll_fits t2 es2 (SetTable.grown es2.size)
    have p3 := relayAll_ris t2 es2 (SetTable.grown es2.size)
    have p4 := relayAll_led t2 es2 (SetTable.grown es2.size)
    rw [ge] at p1
    obtain ⟨M', e', pm⟩ := perm_unmap p1
    have sz : (relayAll t2 es2 (SetTable.grown es2.size)).1.size < scanBound := by
      have q := congrArg List.length e'
      rw [Array.length_toList, List.length_map, pm.length_eq] at q
      have q2 := congrArg List.length ge
      rw [Array.length_toList, List.length_map] at q2
      omega
    refine wpAny_bind (ht _ _ _ ?_)
    refine wpAny_bind (keep_laid (s := { s with heap := h1 }) g1 gx1 gd1 e' (fun p hp => gi p (pm.mem_iff.mp hp)) ((pm.map _).nodup_iff.mpr gn) sz p2 p3 (gl.imp id fun z => by rw [p4]; exact z) fun h2 sb2 _ S2 => ?_)
    exact wpAny_pure (hQ h2 M' (sb1.trans sb2) S2 pm)
  · rw [if_neg full]
    exact wpAny_pure (hQ h1 M sb1 S1 (List.Perm.refl M))
/-- one more member -/
theorem set_one_more {L : List (κ × Value)} (S : SetL knd s.heap a L) {k : κ} {v : Value} (hk : knd.is k v = true) (hv : v.scannable = true) (room : L.length + 1 < scanBound) {Q : Bool → Shared → Prop}
    (hQ : ∀ h' L' b, Heap.SameBut a s.heap h' → SetL knd h' a L' → (∀ j, j ∈ L'.map (·.1) ↔ j ∈ L.map (·.1) ∨ j = k) → L'.length ≤ L.length + 1 → Q b { s with heap := h' }) :
    wpAny (model P w) A (setAddHashed a v (knd.hash k)) Q E s := by
  obtain ⟨o, es, ep, t, g, gx, gd, ge, gi, gn, gb, gf, gr, gl⟩ := id S
  have el : ElemsOf knd es.toList := by rw [ge]; exact elems_of gi
  unfold setAddHashed setAddHashedIn
  refine wpAny_holding ?_
  refine wpAny_bind (wpAny_setState_of g gd gf ?_)
  dsimp only
  rw [byScan_of hv gb el, if_pos rfl]
  refine wpAny_bind ?_
  unfold setAddByScan
  refine wpAny_bind (wpAny_rule ?_)
  refine wpAny_bind (wpAny_setScan_of hk g gd gf el ?_)
  cases hf : es.toList.findIdx? (fun e => knd.is k e.2) with
  | some j =>
    dsimp only
    have hin : k ∈ L.map (·.1) := by
      obtain ⟨hj, pj, _⟩ := List.findIdx?_eq_some_iff_getElem.mp hf
      have hm : es.toList[j] ∈ L.map (fun p => (knd.hash p.1, p.2)) := by rw [← ge]; exact List.getElem_mem hj
      obtain ⟨p, hp, e⟩ := List.mem_map.mp hm
      have pj' : knd.is k p.2 = true := by rw [← e] at pj; exact pj
      exact List.mem_map.mpr ⟨p, hp, knd.inj p.2 _ _ (gi p hp).1 pj'⟩
    exact wpAny_pure (wpAny_pure (hQ s.heap L false (Heap.SameBut.refl a s.heap) S (fun i => ⟨.inl, fun z => z.elim id fun e => by rw [e]; exact hin⟩) (Nat.le_succ _)))
  | none =>
    dsimp only
    have out : k ∉ L.map (·.1) := fun z => by
      obtain ⟨p, hp, e⟩ := List.mem_map.mp z
      have c := List.findIdx?_eq_none_iff.mp hf (knd.hash p.1, p.2) (by rw [ge]; exact List.mem_map.mpr ⟨p, hp, rfl⟩)
      have c' : knd.is k p.2 = false := c
      rw [← e, (gi p hp).1] at c'
      cases c'
    have gave : ∀ (b : Bool) (s1 : Shared) (Q1 : Unit → Shared → Prop), Q1 () s1 → wpAny (model P w) A (match b with | true => rule "set.scan.the-table-gave-way" | false => pure ()) Q1 E s1 := by
      intro b s1 Q1 q
      cases b
      · exact wpAny_pure q
      · exact wpAny_rule q
    have l1 := layNew_perm t es (knd.hash k) v
    have l2 := layNew_fits t es (knd.hash k) v
    have l3 := layNew_ris t es (knd.hash k) v gr
    have l4 := layNew_led t es (knd.hash k) v
    generalize layNew t es (knd.hash k) v = Z at l1 l2 l3 l4 ⊢
    obtain ⟨es1, t1, was, gv⟩ := Z
    dsimp only at l1 l2 l3 l4 ⊢
    have l1' : es1.toList.Perm (((k, v) :: L).map fun p => (knd.hash p.1, p.2)) := by
      rw [Array.toList_push, ge] at l1
      exact l1.trans (List.perm_append_singleton _ _)
    obtain ⟨M, em, pm⟩ := perm_unmap l1'
    have gi1 : ∀ p ∈ M, knd.is p.1 p.2 = true ∧ p.2.scannable = true := fun p hp => by
      rcases List.mem_cons.mp (pm.mem_iff.mp hp) with z | z
      · rw [z]; exact ⟨hk, hv⟩
      · exact gi p z
    have gn1 : (M.map (·.1)).Nodup := (pm.map _).nodup_iff.mpr (List.nodup_cons.mpr ⟨out, gn⟩)
    have sz : es1.size = L.length + 1 := by
      have q := congrArg List.length em
      rw [Array.length_toList, List.length_map, pm.length_eq] at q
      exact q
    have ld : w.params.followText "set-order" = true ∨ t1.led = true := gl.imp id fun z => by rw [l4]; exact z
    have fin : ∀ h' M', Heap.SameBut a s.heap h' → SetL knd h' a M' → M'.Perm M → Q true { s with heap := h' } := fun h' M' sb S' pm' => by
      refine hQ h' M' true sb S' (fun j => ?_) ?_
      · rw [((pm'.trans pm).map (·.1)).mem_iff, List.map_cons, List.mem_cons]
        exact Or.comm
      · rw [(pm'.trans pm).length_eq]; exact Nat.le_refl _
    refine wpAny_bind (gave _ _ _ ?_)
    have told : ∀ (b : Bool) (s1 : Shared) (Q1 : Unit → Shared → Prop), Q1 () s1 → wpAny (model P w) A (match b with | true => rule "set.scan.the-table-gave-way" | false => pure ()) Q1 E s1 := gave
    by_cases pl : t1.plain = true
    · rw [if_pos pl]
      refine wpAny_bind ?_
      rw [hashByValue_scannable 8 hv]
      refine wpAny_pure ?_
      cases plainKind v with
      | true => exact keep_wide g gx gd em gi1 gn1 (by rw [sz]; exact room) l2 l3 ld told fun h' M' sb S' pm' => wpAny_pure (fin h' M' sb S' pm')
      | false => exact keep_wide g gx gd em gi1 gn1 (by rw [sz]; exact room) (SetTable.fits_plain_off l2) l3 ld told fun h' M' sb S' pm' => wpAny_pure (fin h' M' sb S' pm')
    · rw [if_neg pl]
      refine wpAny_bind (wpAny_pure ?_)
      exact keep_wide g gx gd em gi1 gn1 (by rw [sz]; exact room) l2 l3 ld told fun h' M' sb S' pm' => wpAny_pure (fin h' M' sb S' pm')
end
end Tw

set_option Elab.async false
set_option linter.all false
set_option maxRecDepth 100000
set_option maxHeartbeats 4000000
namespace Tw
open PySem L2 PySem.Spec PyProof.Rows
section
variable {prog : Program} {w : World} {A : Around} {R : Result → Shared → Prop} {I : Addr} {fp wr : List Addr} {G : Array GenState → Array GenState → Prop} {n : Nat} {Pw : Nat → Value → Prop} {St : Nat → Shared → Prop}
/-- the set at a holds just these texts -/
def Holds (prog : Program) (w : World) (h : Heap) (a : Addr) (xs : List Str) : Prop := ∃ L, SetL (PySem.strKind prog w) h a L ∧ (∀ j, j ∈ L.map (·.1) ↔ j ∈ xs) ∧ L.length ≤ xs.length
/-- the texts that are walked all come in -/
theorem all_come_in (W : WalksS prog w A.in1 I fp wr G n Pw St) (S : Addr) (off : S ∉ fp) (xs : List Str) (hn : xs.length = n) (few : n + 1 < scanBound) (gives : ∀ i v, Pw i v → ∃ t, v = .str (xs.getD i Str.empty) t) :
    ∀ (m i : Nat) (s : Shared), i + m = n → St i s → Holds prog w s.heap S (xs.take i) → (∀ s', Moved (S :: wr) G s s' → Holds prog w s'.heap S xs → R (.ok (.ret .none)) s') →
      codeAny (model prog w) A (.builtin "set.update.loop" ⟨[.ref S, .ref I], []⟩) R s := by
  have offw : S ∉ wr := fun z => off (W.sub _ z)
  have more : ∀ b ∈ wr, b ∈ S :: wr := fun b z => List.mem_cons_of_mem _ z
  intro m
  induction m with
  | zero =>
    intro i s him st hS fin
    have e : i = n := by omega
    subst e
    refine codeAny_builtin PyProof.Rows.F.entry_set_update_loop ?_
    rw [Around.under_plainId PyProof.Rows.F.plain_set_update_loop _]
    show wpAny _ A.in1 (pyNext (.ref I) >>= _) _ _ s
    refine wpAny_bind (W.done s _ _ st fun s1 mv => ?_)
    show wpAny _ A.in1 (ret Value.none) _ _ s1
    obtain ⟨L, hL, mem, len⟩ := hS
    rw [← hn, List.take_length] at mem len
    exact wpAny_pure (fin s1 (mv.mono more) ⟨L, hL.at fun o g => mv.heap S o offw g, mem, len⟩)
  | succ m ih =>
    intro i s him st hS fin
    refine codeAny_builtin PyProof.Rows.F.entry_set_update_loop ?_
    rw [Around.under_plainId PyProof.Rows.F.plain_set_update_loop _]
    show wpAny _ A.in1 (pyNext (.ref I) >>= _) _ _ s
    refine wpAny_bind (W.item i s _ _ (by omega) st fun v s1 hv st1 mv => ?_)
    obtain ⟨t, rfl⟩ := gives i v hv
    obtain ⟨L, hL, mem, len⟩ := hS
    have hL1 : SetL (PySem.strKind prog w) s1.heap S L := hL.at fun o g => mv.heap S o offw g
    have hx : xs[i]? = some (xs.getD i Str.empty) := by rw [List.getD_eq_getElem?_getD, List.getElem?_eq_getElem (show i < xs.length by omega)]; rfl
    generalize hz : xs.getD i Str.empty = z at hx ⊢
    have tk : xs.take (i + 1) = xs.take i ++ [z] := by rw [List.take_succ, hx]; rfl
    have lt : (xs.take i).length = i := by rw [List.length_take]; omega
    show wpAny _ A.in1 (holding [Value.str z t] (setAdd S (.str z t)) >>= _) _ _ s1
    refine wpAny_bind (wpAny_holding ?_)
    unfold setAdd
    refine wpAny_holding (wpAny_bind ((PySem.strKind prog w).pyHash (k := z) (strKind_is _ _ _ _) ?_))
    refine set_one_more (s := { s1 with toks := s1.toks + 1 }) hL1 (k := z) (strKind_is _ _ _ _) rfl (by omega) fun h2 L2' b sb hL2 mem2 len2 => ?_
    have go : ∀ s2 : Shared, s2 = { s1 with toks := s1.toks + 1, heap := h2 } → codeAny (model prog w) A (.builtin "set.update.loop" ⟨[.ref S, .ref I], []⟩) R s2 := fun s2 e => by
      subst e
      refine ih (i + 1) _ (by omega) (W.frame _ s1 _ _ st1 (Nat.le_succ _) fun b hb o g => ?_) ⟨L2', hL2, fun j => ?_, ?_⟩ fun s3 mv3 hS3 => ?_
      · exact (sb.2 b (fun z => off (by rw [← z]; exact hb))).trans g
      · rw [mem2, mem, tk, List.mem_append, List.mem_singleton]
      · rw [tk, List.length_append, List.length_singleton, lt]; rw [lt] at len; omega
      · refine fin s3 (Moved.trans W.gtrans ((mv.mono more).then_heap (Nat.le_succ _) fun b o hb g => ?_) mv3) hS3
        exact (sb.2 b (fun z => hb (by rw [z]; exact List.mem_cons_self))).trans g
    exact wpAny_pure ⟨plainId_quiet PyProof.Rows.F.plain_set_update_loop _, go _ rfl⟩
end
section
variable {prog : Program} {w : World} {A : Around} {E : Value → Shared → Prop} {s : Shared}
/-- an empty set just laid -/
abbrev bareSet (w : World) : Obj := { cls := .type "set", dict := none, data := .set #[] 0 (.fresh 0 0 (!w.params.followText "set-order")) }
theorem bare_holds {h : Heap} {a : Addr} (g : h.get? a = some (bareSet w)) : Holds prog w h a [] := by
  refine ⟨[], ⟨_, #[], 0, _, g, ⟨rfl, rfl, rfl⟩, rfl, rfl, (fun p hp => nomatch hp), List.nodup_nil, by decide, by rfl, List.Pairwise.nil, ?_⟩, fun j => Iff.rfl, Nat.le_refl _⟩
  show _ ∨ (!w.params.followText "set-order") = true
  cases w.params.followText "set-order"
  · exact .inr rfl
  · exact .inl rfl
/-- set.__init__(S, xs) on a bare set -/
theorem init_from_list {S l : Addr} {items : Array Value} {xs : List Str} (hh : A.handled = none) (hS : s.heap.get? S = some (bareSet w)) (hl : s.heap.IsList l items) (ne : S ≠ l) (hi : PyProof.Rows.StrsAre items.toList xs) (few : xs.length + 1 < scanBound) {Q : Value → Shared → Prop}
    (h : ∀ (h' : Heap) (tk : Nat), Holds prog w h' S xs → (∀ b o, b ≠ S → s.heap.get? b = some o → h'.get? b = some o) → Q .none { s with heap := h', toks := tk }) :
    codeAny (model prog w) A (.call (.builtin "set.__init__") ⟨[.ref S, .ref l], []⟩) (wants Q E) s := by
  have tS : s.TypeIs (.ref S) "set" := ⟨_, hS, rfl⟩
  refine codeAny_call_builtin PySem.F.called_set.init.plain PySem.F.entry_set_init (check_set_init_1 tS ?_)
  obtain ⟨ol, hol, hcl, nl, hdl⟩ := id hl
  obtain ⟨ocls, odict, odata, oslots⟩ := ol
  simp only at hcl hdl
  subst hcl; subst hdl
  have f1 := PySem.F.sub_list_set
  have f2 := PySem.F.sub_list_frozenset
  have f3 : (Value.type "list" == Value.type "dict") = false := by decide
  unfold Builtin.«set.__init__» noKeywords Builtin.Frozenset.updateFrom
  generalize hPI : pyIter = PI
  wp_walk
  subst hPI
  refine wpAny_pyIter_list hl ?_
  refine wpAny_bind (wpAny_runValue ?_)
  have lS : l < s.heap.objs.size := Heap.lt_size hol
  have sS : S < s.heap.objs.size := Heap.lt_size hS
  have quiet : A.in1.in1.handled = none := by simp [hh]
  have sz : xs.length = items.size := by rw [← StrsAre.len_eq hi, Array.length_toList]
  have gv : ∀ (i : Nat) (v : Value), items[i]? = some v → ∃ t, v = .str (xs.getD i Str.empty) t := fun i v hv => SS.strs_at hi i v (by rw [Array.getElem?_toList]; exact hv)
  refine all_come_in ((Walks.list quiet s.heap.objs.size l (Nat.ne_of_lt lS) items).toS) S ?_ xs sz (by omega) gv items.size 0 _ (by omega) ?_ ?_ fun s1 mv hH => ?_
  · intro z
    rcases List.mem_cons.mp z with z | z
    · exact absurd z (Nat.ne_of_lt sS)
    · exact ne (List.mem_singleton.mp z)
  · exact ⟨⟨_, Heap.get?_push_size _ rfl, rfl, rfl⟩, hl.push _⟩
  · exact bare_holds (Heap.get?_push_of_some _ hS)
  · obtain ⟨h1, g1, d1, k1, o1⟩ := s1
    have e1 : g1 = s.gens := mv.gens
    have e2 : d1 = s.drawn := mv.drawn
    have e3 : o1 = s.os := mv.os
    subst e1; subst e2; subst e3
    refine wpAny_pure ?_
    show wpAny _ _ (ret Value.none) _ _ _
    refine wpAny_pure (h h1 k1 hH fun b o nb g => mv.heap b o ?_ (Heap.get?_push_of_some _ g))
    intro z
    rcases List.mem_cons.mp z with z | z
    · exact nb z
    · exact absurd (List.mem_singleton.mp z) (Nat.ne_of_lt (Heap.lt_size g))
/-- set(xs), xs a list of texts -/
theorem set_of_texts {l : Addr} {items : Array Value} {xs : List Str} {Q : Value → Shared → Prop} (hh : A.handled = none) (hl : s.heap.IsList l items) (hi : PyProof.Rows.StrsAre items.toList xs) (few : xs.length + 1 < scanBound)
    (h : ∀ (h' : Heap) (tk : Nat), Holds prog w h' s.heap.objs.size xs → (∀ b o, s.heap.get? b = some o → h'.get? b = some o) → Q (.ref s.heap.objs.size) { s with heap := h', toks := tk }) :
    wpAny (model prog w) A (call (.type "set") [.ref l]) Q E s := by
  obtain ⟨c, tl, hmro⟩ := PySem.F.called_set.mro
  have made := PySem.F.called_set.made
  have subs := PySem.F.called_set.sub
  have noTy := PySem.F.called_set.notType
  have canC := PySem.F.called_set.canCreate
  have tcal := PySem.F.typeCall_set_1 (.ref l)
  refine wpAny_call (codeAny_of_tree ?_)
  show wpAny _ _ (callAny (.type "set") _) _ _ _
  refine wpAny_pure ⟨Code.quiet_builtin _ (by decide +kernel), codeAny_builtin PySem.F.entry_type_call ?_⟩
  rw [Around.under_plain (weight_type_call_type "set" [.ref l] []) rfl]
  repeat (any_goals (first | assumption | wp_step))
  refine codeAny_mono (code_set_led1 (.ref l) (E := E) (Q₁ := fun ob s1 => ob = .ref s.heap.objs.size ∧ s1 = { s with heap := s.heap.push (bareSet w) }) ⟨rfl, rfl⟩) fun r s1 hr => ?_
  cases r with
  | error e => exact hr
  | ok fl =>
    cases fl with
    | ret ob =>
      obtain ⟨rfl, rfl⟩ := hr
      have gS : (s.heap.push (bareSet w)).get? s.heap.objs.size = some (bareSet w) := Heap.get?_push_size _ rfl
      have tS : Shared.TypeIs { s with heap := s.heap.push (bareSet w) } (.ref s.heap.objs.size) "set" := ⟨_, gS, rfl⟩
      have il := PySem.F.called_set.init.lookup
      have ib := PySem.F.called_set.init.bind (.ref s.heap.objs.size)
      repeat (any_goals (first | assumption | wp_step))
      obtain ⟨ol, hol, _⟩ := id hl
      have lS : l < s.heap.objs.size := Heap.lt_size hol
      refine codeAny_mono (init_from_list (prog := prog) (w := w) (E := E) (s := { s with heap := s.heap.push (bareSet w) }) (xs := xs) (Q := fun r s2 => r = .none ∧ ∃ h' tk, s2 = { s with heap := h', toks := tk } ∧ Holds prog w h' s.heap.objs.size xs ∧ ∀ b o, s.heap.get? b = some o → h'.get? b = some o) ?_ gS (hl.push _) (Nat.ne_of_gt lS) hi few fun h' tk hH k => ⟨rfl, h', tk, rfl, hH, fun b o g => k b o (Nat.ne_of_lt (Heap.lt_size g)) (Heap.get?_push_of_some _ g)⟩) fun r2 s2 hr2 => ?_
      · simp [hh]
      · cases r2 with
        | error e => exact hr2
        | ok fl2 =>
          cases fl2 with
          | ret r =>
            obtain ⟨rfl, h', tk, rfl, hH, k⟩ := hr2
            repeat (any_goals (first | assumption | wp_step))
            exact h _ _ hH k
          | _ => exact hr2.elim
    | _ => exact hr.elim
end
end Tw

set_option Elab.async false
set_option linter.all false
set_option maxRecDepth 100000
set_option maxHeartbeats 4000000
namespace Tw
open PySem L2 PySem.Spec PyProof.Rows
section
variable {prog : Program} {w : World} {A : Around} {E : Value → Shared → Prop} {s : Shared}
theorem list_sort_texts {a : Addr} {vs : List Value} {ss : List Str} {n : Nat} {P : Fin → Shared → Prop} (ho : s.heap.get? a = some (seqObj "list" vs.toArray n)) (hS : StrsAre vs ss) (hL : vs.length ≤ sizeLine)
    (h : ∀ (out : Array Value) (ss' : List Str), StrsAre out.toList ss' → ss'.Perm ss → sortedS ss' = true → P (.done (.ret .none)) { s with heap := sortedHeap s.heap a vs out }) :
    wpAny (model prog w) A (Builtin.«list.sort» ⟨[.ref a], []⟩) P E s := by
  refine list_sort_treeKAny strKind_oneLt ho hS.keysOf (fun v₁ v₂ rest e => keyKind_strs (by rw [← e]; exact hS)) hL fun st' hp hs => ?_
  obtain ⟨ss', h1, h2, h3⟩ := sorted_out_str hS hp hs
  exact h _ ss' h1 h2 h3
theorem strs_of_keys : ∀ {M : List (Str × Value)}, (∀ p ∈ M, (PySem.strKind prog w).is p.1 p.2 = true) → StrsAre (M.map (·.2)) (M.map (·.1))
  | [], _ => .nil
  | p :: M, h => by
    have hp := h p List.mem_cons_self
    obtain ⟨x, v⟩ := p
    have : ∃ t, v = .str x t := Value.isStrOf_shape hp
    obtain ⟨t, rfl⟩ := this
    exact .cons x t (strs_of_keys fun q hq => h q (List.mem_cons_of_mem _ hq))
/-- sorted(a), a a set of texts -/
theorem sorted_of_texts {a : Addr} {xs : List Str} {Q : Value → Shared → Prop} (hH : Holds prog w s.heap a xs) (hh : A.handled = none)
    (hQ : ∀ s' p (out : Array Value) (c : Nat) (zs : List Str), (∀ b o, s.heap.get? b = some o → s'.heap.get? b = some o) → s'.gens = s.gens → s'.os = s.os → s.heap.objs.size ≤ p →
      s'.heap.get? p = some (seqObj "list" out c) → StrsAre out.toList zs → sortedS zs = true → zs.Nodup → (∀ k, k ∈ zs ↔ k ∈ xs) → zs.length ≤ sizeLine → Q (.ref p) s') :
    wpAny (model prog w) A (call (.builtin "sorted") [.ref a]) Q E s := by
  obtain ⟨L, ⟨o, es, ep, t, ho, hex, hd, ge, gi, nd, hb, hf, hr, hl⟩, hm, hn⟩ := hH
  refine Calls.call_function_entry kind_sorted plain_sorted entry_sorted (args_sorted1 _) ?_
  unfold Builtin.«sorted»
  refine wpAny_bind (m := checkCount "sorted" 1 1 _) (wpAny_pure ?_)
  refine wpAny_bind (collect_set (A := A.in1) hh ⟨o, ho, hex.1, hd⟩ hf hb hr hl fun s1 vs k1 hz g1 o1 pm => ?_)
  have ge2 : es.toList.map (·.2) = L.map (·.2) := by rw [ge, List.map_map]; rfl
  rw [ge2] at pm
  obtain ⟨M, rfl, pM⟩ := perm_unmap pm
  have kM : ∀ p ∈ M, (PySem.strKind prog w).is p.1 p.2 = true := fun p hp => (gi p (pM.mem_iff.mp hp)).1
  have hS := strs_of_keys kM
  have hlen : M.length = es.size := by rw [pM.length_eq, ← Array.length_toList, ge, List.length_map]
  have hsl : (M.map (·.2)).length ≤ sizeLine := by
    rw [List.length_map, hlen]
    exact Nat.le_of_lt (Nat.lt_of_lt_of_le hb (by decide))
  refine wpAny_bind (wpAny_newList ?_ hsl)
  have hoL : (s1.heap.push (seqObj "list" (M.map (·.2)).toArray 0)).get? s1.heap.objs.size = some (seqObj "list" (M.map (·.2)).toArray 0) := Heap.get?_push_size _ rfl
  refine wpAny_bind (wpAny_holding (wpAny_call_entry slot_list_sort ⟨_, hoL, rfl⟩ entry_list_sort (list_sort_texts hoL hS hsl fun out zs a1 a2 a3 => ⟨_, rfl, ?_⟩) (args_list_sort _)))
  obtain ⟨c, hc⟩ := sortedHeap_at (vs := M.map (·.2)) (out := out) hoL
  have pn : zs.Perm (L.map (·.1)) := a2.trans (pM.map _)
  refine wpAny_pure ⟨_, rfl, hQ _ s1.heap.objs.size out c zs (fun b u e => ?_) g1 o1 hz hc a1 a3 (pn.nodup_iff.mpr nd) (fun k => by rw [pn.mem_iff, hm k]) ?_⟩
  · have q := k1 b u e
    have hlt := Heap.lt_size q
    show (sortedHeap (s1.heap.push (seqObj "list" (M.map (·.2)).toArray 0)) s1.heap.objs.size (M.map (·.2)) out).get? b = some u
    rw [sortedHeap_old (Nat.ne_of_lt hlt) (by rw [size_push']; exact Nat.lt_succ_of_lt hlt)]
    exact Heap.get?_push_of_some _ q
  · rw [pn.length_eq, List.length_map]
    rw [List.length_map, pM.length_eq] at hsl
    exact hsl
end
section
variable {X : Cx}
/-- sorted(set(xs)), xs a list of texts: a new list, each text once, in order -/
def tSortedSet (K : PySem.W.Frag) (ta : TE) : TE := fun σ H Q => ta σ H fun x H1 => ∃ (l : Addr) (xs : List Str), x = .ref l ∧ SqL K H1 l (xs.map V.str) ∧ xs.length + 1 < scanBound ∧
  ∀ (zs : List Str) (p : Addr), sortedS zs = true → zs.Nodup → (∀ k, k ∈ zs ↔ k ∈ xs) → H1 p = none → Q (.ref p) (upd H1 p (.lst (zs.map V.str)))
theorem pe_sortedSet {K : PySem.W.Frag} {a : Expr} {ta : TE} {p p2 q pos : Pos} (hK : X.K = K) (hc : X.calm = true) (hg : Gl X "sorted") (hm : X.mg "sorted" = none) (hg2 : Gl X "set") (hm2 : X.mg "set" = none) (ha : PE X a ta)
    (na : starEach [a] X.env = (false, eval a X.env) :: starEach [] X.env := by rfl) : PE X (.Call (.Name "sorted" p) [.Call (.Name "set" p2) [a] [] q] [] pos) (tSortedSet K ta) := by
  subst hK
  refine ⟨fun pins s σ H Q I h => ?_⟩
  refine Call_ (ld_blt I hg hm boot_sorted ?_)
  refine PyProof.Rows.callWith_builtin1 (PyProof.Rows.args_cons ?_ rfl) rfl rfl
  refine Call_ (ld_blt I hg2 hm2 boot_set ?_)
  refine PyProof.Rows.callWith_type1 (PyProof.Rows.args_cons (thn (ha.run pins s σ H _ I h) fun v s1 ⟨x, H1, I1, r1, q1⟩ => PyProof.Rows.args_nil ?_) na) na rfl
  obtain ⟨l, xs, rfl, hq, h1, q1⟩ := q1
  cases r1
  obtain ⟨its, r, pl, hz⟩ := I1.list hq
  refine set_of_texts (I1.ok.hd hc) pl.isList (by simpa using strsAre_of r) h1 fun h' tk hS hk => ?_
  refine PyProof.Rows.args_nil ?_
  have I2 : Inv X pins σ H1 { s1 with heap := h', toks := tk } := I1.kept fun b o e => hk b o e
  refine sorted_of_texts hS (I2.ok.hd hc) fun s' p out c zs k g o hp hg so ord nd hm hl => ?_
  have hlen : (zs.map V.str).length ≤ sizeLine := by rw [List.length_map]; exact hl
  have hn : H1 p = none := I2.hok.fresh hp
  have J : Inv X pins σ (upd H1 p (.lst (zs.map V.str))) { ({ s1 with heap := h', toks := tk } : Shared) with heap := s'.heap, gens := s'.gens, drawn := s'.drawn, toks := s'.toks } :=
    I2.call (ch := []) (Un.laid k hp hn) (I2.hok.laid k hp ⟨hlen, out.toList, c, vals_of_strs so, hg⟩) (by rw [g]; exact I2.bare) (fun _ z => nomatch z)
  have e : s' = { ({ s1 with heap := h', toks := tk } : Shared) with heap := s'.heap, gens := s'.gens, drawn := s'.drawn, toks := s'.toks } := by
    cases s'
    cases s1
    cases o
    rfl
  rw [e]
  exact ⟨.ref p, _, J, rfl, q1 zs p ord nd hm hn⟩
end
end Tw

set_option Elab.async false
set_option linter.all false
set_option maxRecDepth 100000
namespace Tw
open PySem L2 PySem.Spec
/-- the address that a name of the text stands for -/
def cadr (mg : Str → Option Value) (x : Str) : Addr := match mg x with
  | some (.ref a) => a
  | _ => 0
theorem cadr_of {mg : Str → Option Value} {x : Str} {a : Addr} (h : mg x = some (.ref a)) : cadr mg x = a := by
  unfold cadr
  rw [h]
/-- a method of a class of the text with its promise -/
structure DefM (P : Program) (w : World) (K : PySem.W.Frag) (mg : Str → Option Value) (base : Heap) (k : Nat) (C : Addr) (m : Str) (ps : List Str) (sp : Sp) : Prop where
  ex : ∃ (f : Addr) (fd : FuncData), FnOk P w K mg base CX0 k f fd ps sp ∧ Meth K C m f ∧ Binds K fd ps []
/-- where a method of the text stands -/
structure HereM (K : PySem.W.Frag) (C : Addr) (m qual : Str) (st : Stmt) (ps : List Str) (f : Addr) (fd : FuncData) : Prop where
  fn : Fun K m qual st f fd
  me : Meth K C m f
  bd : Binds K fd ps []
/-- a maker of a class of the text with its promise -/
structure DefC (P : Program) (w : World) (K : PySem.W.Frag) (mg : Str → Option Value) (base : Heap) (k : Nat) (C : Addr) (ps : List Str) (sp : Sp) : Prop where
  ex : ∃ (f : Addr) (fd : FuncData), FnOk P w K mg base CX0 k f fd ps sp ∧ Mk K C f ∧ Binds K fd ps []
structure HereC (K : PySem.W.Frag) (C : Addr) (qual : Str) (st : Stmt) (ps : List Str) (f : Addr) (fd : FuncData) : Prop where
  fn : Fun K "__init__" qual st f fd
  mkr : Mk K C f
  bd : Binds K fd ps []
theorem HereM.def {P : Program} {w : World} {K : PySem.W.Frag} {mg : Str → Option Value} {base : Heap} {k : Nat} {C : Addr} {m qual : Str} {st : Stmt} {ps : List Str} {sp : Sp} {f : Addr} {fd : FuncData} (h : HereM K C m qual st ps f fd) (F : FnOk P w K mg base CX0 k f fd ps sp) : DefM P w K mg base k C m ps sp :=
  ⟨f, fd, F, h.me, h.bd⟩
theorem HereC.def {P : Program} {w : World} {K : PySem.W.Frag} {mg : Str → Option Value} {base : Heap} {k : Nat} {C : Addr} {qual : Str} {st : Stmt} {ps : List Str} {sp : Sp} {f : Addr} {fd : FuncData} (h : HereC K C qual st ps f fd) (F : FnOk P w K mg base CX0 k f fd ps sp) : DefC P w K mg base k C ps sp :=
  ⟨f, fd, F, h.mkr, h.bd⟩
section
variable {X : Cx} {k j : Nat} {C : Addr} {x m : Str} {p pos apos : Pos} {o e : Expr} {es : List Expr} {ps : List Str} {sp : Sp} {ta : TE} {t : TA}
def tMe (C : Addr) (m : Str) (sp : Sp) (ta : TE) (t : TA) : TE := fun σ H Q => ta σ H fun x H1 => ∃ a dx fs, x = .ref a ∧ H1 a = some (.ins C dx fs) ∧ fs.lookup m = none ∧ t σ H1 fun vs H2 => sp (x :: vs) H2 Q E0
theorem tMe_eq : tMeth C m sp [] E0 ta t = tMe C m sp ta t := by
  funext σ H Q
  unfold tMeth tMe
  simp only [List.append_nil]
def tNew (C : Addr) (sp : Sp) (t : TA) : TE := fun σ H Q => t σ H fun vs H1 => ∀ x dx, H1 x = none → H1 dx = none → dx ≠ x → sp (.ref x :: vs) (upd (upd H1 dx (.own x)) x (.ins C dx [])) (fun v H2 => v = .non ∧ Q (.ref x) H2) E0
theorem tNew_eq : tMake C sp [] E0 t = tNew C sp t := by
  funext σ H Q
  unfold tMake tNew
  simp only [List.append_nil]
theorem pe_never : PE X e (fun _ _ _ => False) := ⟨fun _ _ _ _ _ _ h => h.elim⟩
theorem pe_fldG {K : PySem.W.Frag} {f : Str} (hK : X.K = K) (he : PE X e ta) (hb : attributeBase e f X.env (eval e X.env) = eval e X.env) : PE X (.Attribute e f pos) (tFld K ta f) := by
  subst hK
  exact pe_fld he hb
theorem pi_tupG {K : PySem.W.Frag} {tg : Expr} (hK : X.K = K) (he : PE X e ta) : PI X tg e (iTup K ta) := by
  subst hK
  exact pi_tup he
theorem pi_listG {K : PySem.W.Frag} {tg : Expr} (hK : X.K = K) (he : PE X e ta) : PI X tg e (iList K ta) := by
  subst hK
  exact pi_list he
theorem pe_me {pl : Sem Bool} (he : PE X o ta) (c : Cls X.K C) (D : DefM X.prog X.w X.K X.mg X.base k C m ps sp) (hr : Room j X.A) (ha : PA X (e :: es) t) (hk : k ≤ j := by decide)
    (hst : starEach (e :: es) X.env = (false, eval e X.env) :: starEach es X.env := by rfl) (hpl : (backTo pos (starEach es X.env)).any (·.1) = false := by rfl)
    (ht : eval (.Call (.Attribute o m apos) (e :: es) [] pos) X.env = (do
      let ov ← eval o X.env
      standAt apos.atName
      let (f, first) ← holding [ov] (getMethod ov m pl)
      callWith pos f first (backTo pos (starEach (e :: es) X.env)) (backToKw pos (keywordEach [] X.env))) := by rfl) : PE X (.Call (.Attribute o m apos) (e :: es) [] pos) (tMe C m sp ta t) := by
  obtain ⟨f, fd, F, hm, hb⟩ := D.ex
  rw [← tMe_eq]
  exact pe_meth he c hm F (hr.mono hk) hb .nil pass0 ha hst hpl ht
theorem pe_me0 {pl : Sem Bool} (he : PE X o ta) (c : Cls X.K C) (D : DefM X.prog X.w X.K X.mg X.base k C m ps sp) (hr : Room j X.A) (hk : k ≤ j := by decide)
    (ht : eval (.Call (.Attribute o m apos) [] [] pos) X.env = (do
      let ov ← eval o X.env
      standAt apos.atName
      let (f, first) ← holding [ov] (getMethod ov m pl)
      callWith pos f first (backTo pos (starEach [] X.env)) (backToKw pos (keywordEach [] X.env))) := by rfl) : PE X (.Call (.Attribute o m apos) [] [] pos) (tMe C m sp ta tNil) := by
  obtain ⟨f, fd, F, hm, hb⟩ := D.ex
  rw [← tMe_eq]
  exact pe_meth0 he c hm F (hr.mono hk) hb .nil pass0 ht
theorem pe_new (D : DefC X.prog X.w X.K X.mg X.base k C ps sp) (hr : Room j X.A) (hg : Gl X x) (hm : X.mg x = some (.ref C)) (ha : PA X (e :: es) t) (hk : k + 1 ≤ j := by decide) (hdb : (x == ("__debug__" : Str)) = false := by decide)
    (he : starEach (e :: es) X.env = (false, eval e X.env) :: starEach es X.env := by rfl) (hpl : (backTo pos (starEach es X.env)).any (·.1) = false := by rfl) : PE X (.Call (.Name x p) (e :: es) [] pos) (tNew C sp t) := by
  obtain ⟨f, fd, F, mk, hb⟩ := D.ex
  rw [← tNew_eq]
  exact pe_make mk F (hr.mono hk) hg hm hb .nil pass0 ha hdb he hpl
end
section
variable {K : PySem.W.Frag} {σ : L2.St} {H : Hp} {Q : VK} {QT : Bool → Hp → Prop} {QA : List V → Hp → Prop} {D : Ends} {ta tv te : TE} {t : TA} {sp : Sp} {C : Addr} {f m : Str}
theorem g_sortedSet (q : ta σ H fun x H1 => ∃ (l : Addr) (xs : List Str), x = .ref l ∧ SqL K H1 l (xs.map V.str) ∧ xs.length + 1 < scanBound ∧
  ∀ (zs : List Str) (p : Addr), PyProof.Rows.sortedS zs = true → zs.Nodup → (∀ k, k ∈ zs ↔ k ∈ xs) → H1 p = none → Q (.ref p) (upd H1 p (.lst (zs.map V.str)))) : tSortedSet K ta σ H Q := q
theorem g_dget {td ty : TE} (q : td σ H fun x H1 => ty σ H1 fun y H2 => ∃ a v, x = .ref a ∧ DGet H2 a y (some v) ∧ Q v H2) : tDGet td ty σ H Q := q
theorem g_din {td ty : TE} (q : ty σ H fun y H1 => td σ H1 fun x H2 => ∃ a o, x = .ref a ∧ DGet H2 a y o ∧ Q (.bl o.isSome) H2) : tDIn ty td σ H Q := q
theorem g_dnotin {td ty : TE} (q : ty σ H fun y H1 => td σ H1 fun x H2 => ∃ a o, x = .ref a ∧ DGet H2 a y o ∧ Q (.bl (!o.isSome)) H2) : tDNotIn ty td σ H Q := q
theorem g_neB {a b : Bool} (q : Q (.bl (!decide (a = b))) H) : rNe (.bl a) (.bl b) H Q := ⟨rfl, by rw [dB]; exact q⟩
theorem g_itup {R : It → Hp → Prop} (q : ta σ H fun x H1 => ∃ a, x = .ref a ∧ (∃ xs, SqT K H1 a xs) ∧ R (Itt K a) H1) : iTup K ta σ H R := q
theorem for_tupA {p : Addr} {xs : List V} {g : TG} {tb : TS} (Pv : Nat → L2.St → Hp → Prop) (h0 : Pv 0 σ H) (hl : ∀ i σ H, i ≤ xs.length → Pv i σ H → SqT K H p xs)
    (hs : ∀ i x σ H (D' : Ends), xs[i]? = some x → Pv i σ H → (∀ σ H, Pv (i + 1) σ H → D'.nx σ H) → (∀ σ H, Pv (i + 1) σ H → D'.ct σ H) → (∀ σ H, D.nx σ H → D'.bk σ H) → D'.rt = D.rt → g x σ H fun σ2 H2 => tb D' σ2 H2) (hd : ∀ σ H, Pv xs.length σ H → D.nx σ H) :
    ∃ W : Nat → Nat → L2.St → Hp → Prop, (∃ m, W 0 m σ H) ∧ ∀ i m σ H, W i m σ H →
      ((Itt K p).stop i H ∧ D.nx σ H) ∨ ((Itt K p).go i H ∧ ∃ N : L2.St → Hp → Prop, (∀ σ' H', N σ' H' → ∃ m', m' < m ∧ W (i + 1) m' σ' H') ∧ ∀ x H', (Itt K p).yld i H x H' → g x σ H' fun σ2 H2 => tb { D with nx := N, ct := N, bk := D.nx } σ2 H2) :=
  for_tup Pv h0 hl (fun i x σ H hi p => hs i x σ H _ hi p (fun _ _ h => h) (fun _ _ h => h) (fun _ _ h => h) rfl) hd
theorem g_me (q : ta σ H fun x H1 => ∃ a dx fs, x = .ref a ∧ H1 a = some (.ins C dx fs) ∧ fs.lookup m = none ∧ t σ H1 fun vs H2 => sp (x :: vs) H2 Q E0) : tMe C m sp ta t σ H Q := q
theorem g_new (q : t σ H fun vs H1 => ∀ x dx, H1 x = none → H1 dx = none → dx ≠ x → sp (.ref x :: vs) (upd (upd H1 dx (.own x)) x (.ins C dx [])) (fun v H2 => v = .non ∧ Q (.ref x) H2) E0) : tNew C sp t σ H Q := q
theorem g_fld (q : ta σ H fun x H1 => ∃ a C dx fs v, x = .ref a ∧ H1 a = some (.ins C dx fs) ∧ Cls K C ∧ NoAttr K C f ∧ fs.lookup f = some v ∧ Q v H1) : tFld K ta f σ H Q := q
theorem g_sfld (q : tv σ H fun y H1 => ta σ H1 fun x H2 => ∃ a C dx fs, x = .ref a ∧ H2 a = some (.ins C dx fs) ∧ Cls K C ∧ NoAttr K C f ∧ fs.length < 1000 ∧ D.nx σ (upd H2 a (.ins C dx (putF f y fs)))) : sFld K ta tv f D σ H := q
end
end Tw

set_option Elab.async false
set_option linter.all false
set_option maxRecDepth 100000
namespace Tw
open PySem L2 PySem.Spec
section
variable {X : Cx} {k j : Nat} {C : Addr} {ps : List Str} {sp : Sp}
/-- two instances of a class of the text, by its own operator -/
def rOwn2 (C : Addr) (sp : Sp) : R2 := fun x y H Q => ∃ (a b dx dy : Addr) (fs gs : List (Str × V)), x = .ref a ∧ y = .ref b ∧ H a = some (.ins C dx fs) ∧ H b = some (.ins C dy gs) ∧ sp [x, y] H Q E0
/-- an instance, by its class's own operator -/
def rOwn1 (C : Addr) (sp : Sp) : V → Hp → VK → Prop := fun x H Q => ∃ (a dx : Addr) (fs : List (Str × V)), x = .ref a ∧ H a = some (.ins C dx fs) ∧ sp [x] H Q E0
theorem back_of {pins : List (Addr × Obj)} {σ : L2.St} {Q : VK} {v : Value} {s : Shared} (h : EP X pins σ Q v s) : PySem.W.CmpBack (EP X pins σ Q) v s := by
  obtain ⟨x, H', I, r, q⟩ := h
  cases v with
  | notImplemented => cases x <;> first | (rcases r with ⟨t, h⟩; cases h; done) | (cases r; done)
  | _ => exact ⟨x, H', I, r, q⟩
theorem op_own2 {op : Operator} (D : DefM X.prog X.w X.K X.mg X.base k C (PySem.dunder op.info.2) ps sp) (hr : Room j X.A) (hf : PySem.W.selfFirst X.K C = true) (hk : k ≤ j := by decide) : OpR X (binaryOp op) (rOwn2 C sp) := by
  intro pins s σ H x y u v Q I rx ry h
  obtain ⟨a, b, dx, dy, fs, gs, rfl, rfl, ea, eb, q⟩ := h
  obtain rfl : u = Value.ref a := rx
  obtain rfl : v = Value.ref b := ry
  obtain ⟨f, fd, F, hm, hb⟩ := D.ex
  obtain ⟨_, OA, _⟩ := ins_get I.hok ea
  obtain ⟨_, OB, _⟩ := ins_get I.hok eb
  obtain ⟨_, ia, _⟩ := OA.look
  obtain ⟨_, ib, _⟩ := OB.look
  obtain ⟨m, fr⟩ := I.fr
  refine PySem.W.binop_K fr I.mod.kin ia ib.type hf hm.at_ hm.fn ?_
  refine wpAny_mono (run_fn F (hr.mono hk) hb .nil pass0 I (vs := [.ref a, .ref b]) (.cons (show RelV (.ref a) (.ref a) from rfl) (.cons (show RelV (.ref b) (.ref b) from rfl) .nil)) q) (fun _ _ z => back_of z) fun _ _ z => z
theorem un_inv {P : Program} {w : World} (D : DefM X.prog X.w X.K X.mg X.base k C "__invert__" ps sp) (hr : Room j X.A) (hk : k ≤ j := by decide) : UnR X (unaryOp .Invert) (rOwn1 C sp) := by
  intro pins s σ H x u Q I rx h
  obtain ⟨a, dx, fs, rfl, ea, q⟩ := h
  obtain rfl : u = Value.ref a := rx
  obtain ⟨f, fd, F, hm, hb⟩ := D.ex
  obtain ⟨_, OA, _⟩ := ins_get I.hok ea
  obtain ⟨_, ia, _⟩ := OA.look
  obtain ⟨m, fr⟩ := I.fr
  refine PySem.W.ksp_inv fr I.mod.kin ia hm.at_ hm.fn ?_
  exact run_fn F (hr.mono hk) hb .nil pass0 I (vs := [.ref a]) (.cons (show RelV (.ref a) (.ref a) from rfl) .nil) q
end
end Tw

set_option Elab.async false
set_option linter.all false
set_option maxRecDepth 100000
namespace Tw
open PySem L2 PySem.Spec
section
variable {prog : Program} {w : World} {A : Around} {E : Value → Shared → Prop} {s : Shared} {K : PySem.W.Frag} {x C f : Addr} {o : Obj} {od : Option Obj} {T : String}
/-- an own operator whose right side is of a built-in kind -/
theorem bin_kind {op : Operator} {b : Value} {lo ro rc : Option Value} {Q : Value → Shared → Prop} (kin : K.In s.heap) (inst : PySem.W.InstAt s.heap x o C od) (kind : PySem.W.Looks (model prog w) s.heap (typeOf b) (.type T)) (own : PySem.W.selfFirst K C = true)
    (at1 : PySem.W.findIn K (.ref C) (PySem.dunder op.info.2) = some (some (.ref f))) (isf : PySem.W.isFn K (.ref f) = true) (at2 : PySem.W.findIn K (.ref C) (dunderR op.info.2) = some rc) (at3 : rc = none ∨ ∃ g : Addr, rc = some (.ref g))
    (tl : PySem.W.findIn K (.type T) (PySem.dunder op.info.2) = some lo) (tr : PySem.W.findIn K (.type T) (dunderR op.info.2) = some ro) (ns : PySem.W.subIn K (.type T) (.ref C) = some false)
    (h : wpAny (model prog w) A (call (.ref f) [.ref x, b]) (PySem.W.CmpBack Q) E s) : wpAny (model prog w) A (binaryOp op (.ref x) b) Q E s := by
  obtain ⟨cd, more, ecd, emr⟩ := PySem.W.ksp_first own
  have asked := PySem.W.ksp_try kin inst at1 isf h
  cases nme : op.info with
  | mk sg nm =>
  rw [nme] at at1 at2 tl tr asked
  have q4 := PySem.W.ksp_fillsT (M := model prog w) kin tl tr
  have q3 : PySem.W.Looks (model prog w) s.heap (fillsNumberSlot (.ref C) nm) true := PySem.W.fills_K kin ecd emr at1
  have q5 : PySem.W.Looks (model prog w) s.heap (isSubtype (.type T) (.ref C)) false := PySem.W.looks_subIn kin ns
  have q6 : PySem.W.Looks (model prog w) s.heap (numberSlotInPython (.ref C) nm) true := PySem.W.ksp_inPy kin at1 at2 at3
  have q7 : PySem.W.Looks (model prog w) s.heap (numberSlotInPython (.type T) nm) false := PySem.W.Looks.of_pure rfl
  have q8 : PySem.W.Looks (model prog w) s.heap (typeLookup (.type T) (dunderR nm)) ro := PySem.W.looks_findIn kin tr
  have q1 : PySem.W.Looks (model prog w) s.heap (typeOf (.ref x)) (.ref C) := inst.type
  obtain ⟨hp, gg, dd, kk, oo⟩ := s
  have diff : (Value.ref C == Value.type T) = false := by
    cases e : (Value.ref C == Value.type T) with
    | false => rfl
    | true => cases (beq_iff_eq.mp e)
  generalize ((lo.isSome && !isSeqSlot lo) || (ro.isSome && !isSeqSlot ro)) = slot at q4
  simp only [binaryOp, nme]
  refine wpAny_holding (wpAny_bind ?_)
  unfold binaryOp1
  refine wpAny_bind (q1.at ?_)
  refine wpAny_bind (kind.at ?_)
  refine wpAny_bind (q3.at ?_)
  simp only [diff, Bool.false_eq_true, if_false]
  cases slot
  all_goals
    ksp_lk
    refine wpAny_mono asked (fun r t ht => ?_) fun _ _ e => e
    obtain ⟨v, rfl, hv⟩ := ht
    ksp_lk
    exact hv
end
end Tw
namespace Tw
open PySem L2 PySem.Spec
/-- the built-in kinds that a law's things are of -/
def kinds7 : List String := ["NoneType", "bool", "int", "str", "list", "tuple", "dict"]
theorem kin_and {K : PySem.W.Frag} {C : Addr} : ∀ T ∈ kinds7, (∃ lo, PySem.W.findIn K (.type T) (PySem.dunder Operator.BitAnd.info.2) = some lo) ∧ (∃ ro, PySem.W.findIn K (.type T) (dunderR Operator.BitAnd.info.2) = some ro) ∧ PySem.W.subIn K (.type T) (.ref C) = some false := by
  intro T h
  unfold kinds7 at h
  simp only [List.mem_cons, List.not_mem_nil, or_false] at h
  rcases h with rfl | rfl | rfl | rfl | rfl | rfl | rfl <;> exact ⟨Option.isSome_iff_exists.mp (by kernel_rfl), Option.isSome_iff_exists.mp (by kernel_rfl), by kernel_rfl⟩
end Tw
namespace Tw
open PySem L2 PySem.Spec
theorem kin_or {K : PySem.W.Frag} {C : Addr} : ∀ T ∈ kinds7, (∃ lo, PySem.W.findIn K (.type T) (PySem.dunder Operator.BitOr.info.2) = some lo) ∧ (∃ ro, PySem.W.findIn K (.type T) (dunderR Operator.BitOr.info.2) = some ro) ∧ PySem.W.subIn K (.type T) (.ref C) = some false := by
  intro T h
  unfold kinds7 at h
  simp only [List.mem_cons, List.not_mem_nil, or_false] at h
  rcases h with rfl | rfl | rfl | rfl | rfl | rfl | rfl <;> exact ⟨Option.isSome_iff_exists.mp (by kernel_rfl), Option.isSome_iff_exists.mp (by kernel_rfl), by kernel_rfl⟩
/-- an instance and a thing of a built-in kind, by the class's own operator -/
def rOwnT (K : PySem.W.Frag) (C : Addr) (sp : Sp) : R2 := fun x y H Q => ∃ (a dx : Addr) (fs : List (Str × V)) (T : String), x = .ref a ∧ H a = some (.ins C dx fs) ∧ TyX K H y (.type T) ∧ T ∈ kinds7 ∧ sp [x, y] H Q E0
section
variable {X : Cx} {k j : Nat} {C : Addr} {ps : List Str} {sp : Sp}
theorem op_ownT {op : Operator} (D : DefM X.prog X.w X.K X.mg X.base k C (PySem.dunder op.info.2) ps sp) (hr : Room j X.A) (own : PySem.W.selfFirst X.K C = true) (nr : PySem.W.findIn X.K (.ref C) (dunderR op.info.2) = some none)
    (facts : ∀ T ∈ kinds7, (∃ lo, PySem.W.findIn X.K (.type T) (PySem.dunder op.info.2) = some lo) ∧ (∃ ro, PySem.W.findIn X.K (.type T) (dunderR op.info.2) = some ro) ∧ PySem.W.subIn X.K (.type T) (.ref C) = some false) (hk : k ≤ j := by decide) : OpR X (binaryOp op) (rOwnT X.K C sp) := by
  intro pins s σ H x y u v Q I rx ry h
  obtain ⟨a, dx, fs, T, rfl, ea, ty, hT, q⟩ := h
  obtain rfl : u = Value.ref a := rx
  obtain ⟨f, fd, F, hm, hb⟩ := D.ex
  obtain ⟨_, OA, _⟩ := ins_get I.hok ea
  obtain ⟨_, ia, _⟩ := OA.look
  obtain ⟨Pk, kx, pk, _⟩ := kit_of I ry ty
  obtain ⟨⟨lo, f1⟩, ⟨ro, f2⟩, f3⟩ := facts T hT
  refine bin_kind I.kIn ia (kx.ty _ _ I.kIn pk) own hm.at_ hm.fn nr (.inl rfl) f1 f2 f3 ?_
  exact wpAny_mono (run_fn F (hr.mono hk) hb .nil pass0 I (vs := [.ref a, y]) (.cons (show RelV (.ref a) (.ref a) from rfl) (.cons ry .nil)) q) (fun _ _ z => back_of z) fun _ _ z => z
theorem op_andG {K : PySem.W.Frag} (hK : X.K = K) (D : DefM X.prog X.w X.K X.mg X.base k C (PySem.dunder Operator.BitAnd.info.2) ps sp) (hr : Room j X.A) (own : PySem.W.selfFirst X.K C = true) (nr : PySem.W.findIn X.K (.ref C) (dunderR Operator.BitAnd.info.2) = some none) (hk : k ≤ j := by decide) :
    OpR X (binaryOp .BitAnd) (fun x y H Q => rOwn2 C sp x y H Q ∨ rOwnT K C sp x y H Q) := by
  subst hK
  exact (op_own2 D hr own hk).or (op_ownT D hr own nr kin_and hk)
theorem op_orG {K : PySem.W.Frag} (hK : X.K = K) (D : DefM X.prog X.w X.K X.mg X.base k C (PySem.dunder Operator.BitOr.info.2) ps sp) (hr : Room j X.A) (own : PySem.W.selfFirst X.K C = true) (nr : PySem.W.findIn X.K (.ref C) (dunderR Operator.BitOr.info.2) = some none) (hk : k ≤ j := by decide) :
    OpR X (binaryOp .BitOr) (fun x y H Q => rOwn2 C sp x y H Q ∨ rOwnT K C sp x y H Q) := by
  subst hK
  exact (op_own2 D hr own hk).or (op_ownT D hr own nr kin_or hk)
end
end Tw

set_option Elab.async false
set_option linter.all false
set_option maxRecDepth 100000
set_option maxHeartbeats 4000000
/-! own errors over Exception, of a class below one's own base, with an __init__ that stores its one parameter -/
namespace PySem
namespace TwX
open PySem.W PySem.Calls PyProof.Rows PySem.HandSPX
/-- the classes of an error's order: own ones, then Exception's -/
abbrev exT : List Value := [.type "Exception", .type "BaseException", .type "object"]
inductive OwnEx : List Value → Prop where
  | tail : OwnEx exT
  | own (c : Addr) {r : List Value} (h : OwnEx r) : OwnEx (.ref c :: r)
theorem OwnEx.pass {l : List Value} (h : OwnEx l) (self : Value) : refuseLoop self "__setattr__" l = pure () := by
  induction h with
  | tail => exact F.store_Exception.passes self
  | own c _ ih => rw [refuseLoop_ref, ih]
theorem OwnEx.has {l : List Value} (h : OwnEx l) (n : String) : l.contains (.type n) = exT.contains (.type n) := by
  induction h with
  | tail => rfl
  | own c _ ih => rw [List.contains_cons, ih]; rfl
theorem OwnEx.some {l : List Value} (h : OwnEx l) : l.isEmpty = false := by cases h <;> rfl
section
open Builtin Builtin.ObjectAttr
variable {prog : Program} {w : World} {A : Around} {R : Result → Shared → Prop} {hp : Heap} {gs : Array GenState} {dr : Drawn} {tc : Nat} {os : OsState}
theorem setattr_to {K : Frag} {nm : Str} {tk : Tok} {v : Value} {x C : Addr} {ox : Obj} {od : Option Obj} {cd : ClassData} (XK : K.In hp) (J : InstAt hp x ox C od) (hc : clsIn K C = some cd) (hm : OwnEx cd.mro) (hn : findIn K (.ref C) nm = some none)
    (hq : wpAny (model prog w) A.in1 (storeInOwnDict (.ref x) (.ref C) (.str nm tk) nm v false) (fun fin s' => match fin with | .done f => R (.ok f) s' | .again c' => c'.quiet = true ∧ codeAny (model prog w) A c' R s') (fun e s' => R (.error e) s') ⟨hp, gs, dr, tc, os⟩) :
    codeAny (model prog w) A (.call (.builtin "object.__setattr__") ⟨[.ref x, .str nm tk, v], []⟩) R ⟨hp, gs, dr, tc, os⟩ := by
  have ST := F.store_object
  have hmo : mroIn K C (.type "object") = some true := by
    unfold mroIn
    rw [hc, Option.bind_some, if_neg (by rw [hm.some]; decide), hm.has "object"]
    exact congrArg _ (by decide +kernel)
  have isO : Looks (model prog w) hp (isInstance (.ref x) (.type "object")) true := J.type.andThen (looks_mroIn XK hmo)
  refine codeAny_call_builtin ST.slot.plain ST.entry ?_
  refine @check_slot (model prog w) _ _ ⟨hp, gs, dr, tc, os⟩ "object.__setattr__" "object" "__setattr__" (.ref x) [.str nm tk, v] [] _ ST.kind ST.split isO (ST.args (.ref x) (.str nm tk) v) ?_
  have lm : Looks (model prog w) hp (mroOf (.ref C)) cd.mro := (looks_clsIn XK hc).andThen .now
  have lt : Looks (model prog w) hp (storeTaker? none) none := .now
  rw [osa_eq, refuse_eq]
  refine wpAny_bind (wpAny_bind ?_)
  refine J.type.at (wpAny_bind (lm.at ?_))
  rw [hm.pass]
  refine wpAny_pure (wpAny_bind ?_)
  exact J.type.at (wpAny_bind ((looks_findIn XK hn).at (wpAny_bind (lt.at hq))))
/-- the first field of a fresh error -/
theorem setattr_first {K : Frag} {nm : Str} {tk : Tok} {v : Value} {x C : Addr} {fv : Array Value} {cd : ClassData} (XK : K.In hp) (hx : hp.get? x = some { cls := .ref C, data := .fields fv }) (hc : clsIn K C = some cd) (hm : OwnEx cd.mro) (hh : cd.hasDict = true) (hn : findIn K (.ref C) nm = some none)
    (hq : ∀ h2 tk2 dx, (∀ b o, b ≠ x → hp.get? b = some o → h2.get? b = some o) → hp.objs.size ≤ dx → dx ≠ x → h2.get? x = some { cls := .ref C, dict := some dx, data := .fields fv } → h2.Ns1 dx (fun y => if y = nm then some v else none) → R (.ok (.ret .none)) ⟨h2, gs, dr, tk2, os⟩) :
    codeAny (model prog w) A (.call (.builtin "object.__setattr__") ⟨[.ref x, .str nm tk, v], []⟩) R ⟨hp, gs, dr, tc, os⟩ := by
  have J : InstAt hp x { cls := .ref C, data := .fields fv } C none := ⟨hx, rfl, rfl, trivial⟩
  have nx : x ≠ hp.objs.size := Nat.ne_of_lt (Heap.lt_size hx)
  have lc : Looks (model prog w) hp (classData C) cd := looks_clsIn XK hc
  refine setattr_to XK J hc hm hn ?_
  obtain ⟨a1, a2, a3, a4, a5, a6, a7, a8, a9, a10, a11⟩ := cd
  dsimp only at hh
  subst hh
  unfold storeInOwnDict ownDictForStores
  repeat (first | with_reducible refine HandSPX.store_in_new ?_ ?_ | with_reducible refine wpAny_loadPart_at hx ?_ | with_reducible refine lc.at ?_ | wp_step)
  · refine ⟨_, #[], _, (Heap.get?_update_ne _ _ _ _ nx.symm).trans (Heap.get?_push_at rfl rfl), rfl, ?_, fun _ => rfl⟩
    intro e he
    exact absurd he (by simp)
  · intro h2 tk2 hn2 sb
    have px : (hp.push { cls := .type "dict", data := .dict #[] }).get? x = some { cls := .ref C, data := .fields fv } := Heap.get?_push_of_some _ hx
    refine hq h2 tk2 hp.objs.size ?_ (Nat.le_refl _) nx.symm ((sb.2 x nx).trans (Heap.get?_update_self _ px rfl)) hn2
    intro b o hb ho
    exact (sb.2 b (Nat.ne_of_lt (Heap.lt_size ho))).trans ((Heap.get?_update_ne _ _ _ _ hb).trans (Heap.get?_push_of_some _ ho))
/-- a further one -/
theorem setattr_next {K : Frag} {nm : Str} {tk : Tok} {v : Value} {x C dx : Addr} {fv : Array Value} {cd : ClassData} {m0 : Str → Option Value} {nl : List Str} (XK : K.In hp) (hx : hp.get? x = some { cls := .ref C, dict := some dx, data := .fields fv }) (hns : hp.Ns1 dx m0) (hw : Within m0 nl) (hz : nl.length ≤ 1000)
    (hc : clsIn K C = some cd) (hm : OwnEx cd.mro) (hh : cd.hasDict = true) (hn : findIn K (.ref C) nm = some none)
    (hq : ∀ h2 tk2, (∀ b o, b ≠ dx → hp.get? b = some o → h2.get? b = some o) → h2.Ns1 dx (fun y => if y = nm then some v else m0 y) → R (.ok (.ret .none)) ⟨h2, gs, dr, tk2, os⟩) :
    codeAny (model prog w) A (.call (.builtin "object.__setattr__") ⟨[.ref x, .str nm tk, v], []⟩) R ⟨hp, gs, dr, tc, os⟩ := by
  obtain ⟨oD, eD, pD, gD, dD, _⟩ := hns.count hw
  have J : InstAt hp x { cls := .ref C, dict := some dx, data := .fields fv } C (some oD) := ⟨hx, rfl, rfl, gD⟩
  have lc : Looks (model prog w) hp (classData C) cd := looks_clsIn XK hc
  refine setattr_to XK J hc hm hn ?_
  obtain ⟨a1, a2, a3, a4, a5, a6, a7, a8, a9, a10, a11⟩ := cd
  dsimp only at hh
  subst hh
  unfold storeInOwnDict ownDictForStores
  repeat (first | with_reducible refine ESX.store_in_old hns hw hz ?_ | with_reducible refine wpAny_loadPart_at hx ?_ | with_reducible refine lc.at ?_ | wp_step)
  exact fun h2 tk2 hn2 sb => hq h2 tk2 (fun b o hb ho => (sb.2 b hb).trans ho) hn2
end
end TwX
end PySem

set_option Elab.async false
set_option linter.all false
set_option maxRecDepth 100000
namespace Tw
open PySem L2 PySem.Spec
/-- a def of the text that may let an error out -/
structure DefX (P : Program) (w : World) (K : PySem.W.Frag) (mg : Str → Option Value) (base : Heap) (k : Nat) (x : Str) (ps : List Str) (sp : Sp) : Prop where
  ex : ∃ (f : Addr) (fd : FuncData), FnOk P w K mg base (L2.CX P w) k f fd ps sp ∧ mg x = some (.ref f) ∧ PySem.W.keepIn K (.ref f) = true ∧ Binds K fd ps []
/-- a method that may let an error out -/
structure DefMX (P : Program) (w : World) (K : PySem.W.Frag) (mg : Str → Option Value) (base : Heap) (k : Nat) (C : Addr) (m : Str) (ps : List Str) (sp : Sp) : Prop where
  ex : ∃ (f : Addr) (fd : FuncData), FnOk P w K mg base (L2.CX P w) k f fd ps sp ∧ Meth K C m f ∧ Binds K fd ps []
theorem Here.defX {P : Program} {w : World} {K : PySem.W.Frag} {mg : Str → Option Value} {base : Heap} {k : Nat} {x : Str} {st : Stmt} {ps : List Str} {sp : Sp} {f : Addr} {fd : FuncData} (h : Here K mg x st ps f fd) (F : FnOk P w K mg base (L2.CX P w) k f fd ps sp) : DefX P w K mg base k x ps sp :=
  ⟨f, fd, F, h.mg, h.fn.kp, h.bd⟩
theorem HereM.defX {P : Program} {w : World} {K : PySem.W.Frag} {mg : Str → Option Value} {base : Heap} {k : Nat} {C : Addr} {m qual : Str} {st : Stmt} {ps : List Str} {sp : Sp} {f : Addr} {fd : FuncData} (h : HereM K C m qual st ps f fd) (F : FnOk P w K mg base (L2.CX P w) k f fd ps sp) : DefMX P w K mg base k C m ps sp :=
  ⟨f, fd, F, h.me, h.bd⟩
/-- what is wanted of a body that may raise -/
theorem Fun.okMX {P : Program} {w : World} {K : PySem.W.Frag} {mg : Str → Option Value} {base : Heap} {x qual : Str} {st : Stmt} {f : Addr} {fd : FuncData} {N ps : List Str} {k : Nat} {sp : Sp} (F : Fun K x qual st f fd) (S : FnScope N ps (defScope st)) (len : ∀ vs H Q E, sp vs H Q E → vs.length = ps.length)
    (hbody : ∀ (cdv : Value) (A : Around) (outer : List Env) (s : Shared) (H : Hp) (vs : List V) (Q : VK) (E : XK), Room k (A.deeper (PyProof.Rows.envOfC qual (defScope st) s.heap.objs.size f cdv)) → sp vs H Q E →
      ∃ t, PSs (cxOf (L2.CX P w) P w K mg base N qual (defScope st) f cdv A outer s H E) (defBody st) t ∧ t (mkE (fun _ H' => Q .non H') Q (fun _ _ => False) (fun _ _ => False)) (L2.start N vs) H) : FnOk P w K mg base (L2.CX P w) (k + 1) f fd ps sp := F.okX S len hbody
section
variable {X : Cx} {k j : Nat} {C : Addr} {x m : Str} {p pos apos : Pos} {o e a b : Expr} {es : List Expr} {ps : List Str} {sp : Sp} {ta tb : TE} {t : TA} {W : WX}
theorem pe_defX (tk : Takes X W) (D : DefX X.prog X.w X.K X.mg X.base k x ps sp) (hr : Room j X.A) (hg : Gl X x) (ha : PA X (e :: es) t) (hk : k ≤ j := by decide) (hdb : (x == ("__debug__" : Str)) = false := by decide)
    (he : starEach (e :: es) X.env = (false, eval e X.env) :: starEach es X.env := by rfl) (hpl : (backTo pos (starEach es X.env)).any (·.1) = false := by rfl) : PE X (.Call (.Name x p) (e :: es) [] pos) (tCallS sp (WE W) t) := by
  obtain ⟨f, fd, F, hm, hkp, hb⟩ := D.ex
  exact pe_callS F (hr.mono hk) hg hm hkp hb (fun σ => passAt tk σ) ha hdb he hpl
/-- an operator that may raise -/
def OpW (X : Cx) (f : Value → Value → Sem Value) (r : L2.St → R2) : Prop := ∀ (pins : List (Addr × Obj)) (s : Shared) (σ : L2.St) (H : Hp) (x y : V) (v u : Value) (Q : VK), Inv X pins σ H s → RelV x v → RelV y u → r σ x y H Q → wpAny (model X.prog X.w) X.A (f v u) (EP X pins σ Q) X.xe s
def tOpW (r : L2.St → R2) (ta tb : TE) : TE := fun σ H Q => ta σ H fun x H1 => tb σ H1 fun y H2 => r σ x y H2 Q
theorem pe_opW {op : Operator} {r : L2.St → R2} (ho : OpW X (binaryOp op) r) (ha : PE X a ta) (hb : PE X b tb) : PE X (.BinOp a op b pos) (tOpW r ta tb) :=
  ⟨fun pins s σ _ Q I h => wpAny_BinOp (binT ha hb I h fun v u s2 x y H2 I2 rx ry q => ho pins s2 σ H2 x y v u Q I2 rx ry q)⟩
theorem op_own2W {op : Operator} (tk : Takes X W) (D : DefMX X.prog X.w X.K X.mg X.base k C (PySem.dunder op.info.2) ps sp) (hr : Room j X.A) (hf : PySem.W.selfFirst X.K C = true) (hk : k ≤ j := by decide) :
    OpW X (binaryOp op) (fun σ x y H Q => ∃ (a b dx dy : Addr) (fs gs : List (Str × V)), x = .ref a ∧ y = .ref b ∧ H a = some (.ins C dx fs) ∧ H b = some (.ins C dy gs) ∧ sp [x, y] H Q (WE W σ)) := by
  intro pins s σ H x y u v Q I rx ry h
  obtain ⟨a, b, dx, dy, fs, gs, rfl, rfl, ea, eb, q⟩ := h
  obtain rfl : u = Value.ref a := rx
  obtain rfl : v = Value.ref b := ry
  obtain ⟨f, fd, F, hm, hb⟩ := D.ex
  obtain ⟨_, OA, _⟩ := ins_get I.hok ea
  obtain ⟨_, OB, _⟩ := ins_get I.hok eb
  obtain ⟨_, ia, _⟩ := OA.look
  obtain ⟨_, ib, _⟩ := OB.look
  obtain ⟨m, fr⟩ := I.fr
  refine PySem.W.binop_K fr I.mod.kin ia ib.type hf hm.at_ hm.fn ?_
  exact wpAny_mono (run_fnS F (hr.mono hk) hb (passAt tk σ) I (vs := [.ref a, .ref b]) (.cons (show RelV (.ref a) (.ref a) from rfl) (.cons (show RelV (.ref b) (.ref b) from rfl) .nil)) q) (fun _ _ z => back_of z) fun _ _ z => z
theorem op_ownTW {op : Operator} (tk : Takes X W) (D : DefMX X.prog X.w X.K X.mg X.base k C (PySem.dunder op.info.2) ps sp) (hr : Room j X.A) (own : PySem.W.selfFirst X.K C = true) (nr : PySem.W.findIn X.K (.ref C) (dunderR op.info.2) = some none)
    (facts : ∀ T ∈ kinds7, (∃ lo, PySem.W.findIn X.K (.type T) (PySem.dunder op.info.2) = some lo) ∧ (∃ ro, PySem.W.findIn X.K (.type T) (dunderR op.info.2) = some ro) ∧ PySem.W.subIn X.K (.type T) (.ref C) = some false) (hk : k ≤ j := by decide) :
    OpW X (binaryOp op) (fun σ x y H Q => ∃ (a dx : Addr) (fs : List (Str × V)) (T : String), x = .ref a ∧ H a = some (.ins C dx fs) ∧ TyX X.K H y (.type T) ∧ T ∈ kinds7 ∧ sp [x, y] H Q (WE W σ)) := by
  intro pins s σ H x y u v Q I rx ry h
  obtain ⟨a, dx, fs, T, rfl, ea, ty, hT, q⟩ := h
  obtain rfl : u = Value.ref a := rx
  obtain ⟨f, fd, F, hm, hb⟩ := D.ex
  obtain ⟨_, OA, _⟩ := ins_get I.hok ea
  obtain ⟨_, ia, _⟩ := OA.look
  obtain ⟨Pk, kx, pk, _⟩ := kit_of I ry ty
  obtain ⟨⟨lo, f1⟩, ⟨ro, f2⟩, f3⟩ := facts T hT
  refine bin_kind I.kIn ia (kx.ty _ _ I.kIn pk) own hm.at_ hm.fn nr (.inl rfl) f1 f2 f3 ?_
  exact wpAny_mono (run_fnS F (hr.mono hk) hb (passAt tk σ) I (vs := [.ref a, y]) (.cons (show RelV (.ref a) (.ref a) from rfl) (.cons ry .nil)) q) (fun _ _ z => back_of z) fun _ _ z => z
end
end Tw
namespace Tw
open PySem L2 PySem.Spec
section
variable {X : Cx} {k j : Nat} {C : Addr} {x m : Str} {p pos apos : Pos} {o e a b : Expr} {es : List Expr} {ps : List Str} {sp : Sp} {ta tb : TE} {t : TA} {W : WX}
/-- o.m(..) that may raise -/
def tMeX (C : Addr) (m : Str) (sp : Sp) (W : WX) (ta : TE) (t : TA) : TE := fun σ H Q => ta σ H fun x H1 => ∃ a dx fs, x = .ref a ∧ H1 a = some (.ins C dx fs) ∧ fs.lookup m = none ∧ t σ H1 fun vs H2 => sp (x :: vs) H2 Q (WE W σ)
theorem pe_meX {pl : Sem Bool} (tk : Takes X W) (he : PE X o ta) (c : Cls X.K C) (D : DefMX X.prog X.w X.K X.mg X.base k C m ps sp) (hr : Room j X.A) (ha : PA X (e :: es) t) (hk : k ≤ j := by decide)
    (st : starEach (e :: es) X.env = (false, eval e X.env) :: starEach es X.env := by rfl) (nst : (backTo pos (starEach es X.env)).any (·.1) = false := by rfl)
    (form : eval (.Call (.Attribute o m apos) (e :: es) [] pos) X.env = (do
      let recv ← eval o X.env
      standAt apos.atName
      let (g, front) ← holding [recv] (getMethod recv m pl)
      callWith pos g front (backTo pos (starEach (e :: es) X.env)) (backToKw pos (keywordEach [] X.env))) := by rfl) : PE X (.Call (.Attribute o m apos) (e :: es) [] pos) (tMeX C m sp W ta t) := by
  obtain ⟨f, fd, F, hm, hb⟩ := D.ex
  constructor
  intro pins s σ H Q I h
  refine PySem.W.methodCall_KW (pl := pl) (thn (he.run pins s σ H _ I h) ?_) form
  rintro u s1 ⟨y, H1, I1, ry, q, dq, fs, rfl, eq, lk, rest⟩
  obtain rfl : u = Value.ref q := ry
  refine getmeth_ok I1 eq c hm lk ?_
  refine PySem.W.callWith_K (first := [.ref q]) (h₀ := X.base) I.ok.mod.kin hm.kp (thn (ha.run pos pins s1 σ H1 _ I1 rest) ?_) st nst
  rintro us s2 ⟨vs, H2, I2, rv, fin⟩
  exact ⟨I2.kIn, run_fnS (us := .ref q :: us) (vs := .ref q :: vs) F (hr.mono hk) hb (passAt tk σ) I2 (.cons (show RelV (.ref q) (.ref q) from rfl) rv) fin⟩
theorem g_callS {σ : L2.St} {H : Hp} {Q : VK} {E : L2.St → XK} (q : t σ H fun vs H1 => sp vs H1 Q (E σ)) : tCallS sp E t σ H Q := q
theorem g_meX {σ : L2.St} {H : Hp} {Q : VK} (q : ta σ H fun x H1 => ∃ a dx fs, x = .ref a ∧ H1 a = some (.ins C dx fs) ∧ fs.lookup m = none ∧ t σ H1 fun vs H2 => sp (x :: vs) H2 Q (WE W σ)) : tMeX C m sp W ta t σ H Q := q
end
end Tw
namespace Tw
open PySem L2 PySem.Spec
/-- what isinstance asks of a class of the text -/
structure OwnIs (K : PySem.W.Frag) (C : Addr) : Prop where
  ha : PySem.W.findIn K (.ref C) "__class__" = some (some (.builtin "object.__class__"))
  hn : PySem.W.specialIn K (.builtin "object.__class__") "__get__" = some (some (.builtin "getset_descriptor.__get__"))
  ht : PySem.W.takesIn K (.builtin "object.__class__") = some true
  hm : PySem.W.mroIn K C (.type "object") = some true
  me : PySem.W.kitOne K (.ref C) (.ref C) = some true
  no : ∀ T ∈ kinds7, PySem.W.kitOne K (.type T) (.ref C) = some false
theorem g_isOwn {K : PySem.W.Frag} {C a dx : Addr} {fs : List (Str × V)} {H : Hp} {Q : VK} (O : OwnIs K C) (c : Cls K C) (e : H a = some (.ins C dx fs)) (q : Q (.bl true) H) : rIsi K [.ref a, .ref C] H Q :=
  ⟨_, _, _, _, true, rfl, .own C, .base (.ins e c O.ha O.hn O.ht O.hm), O.me, q⟩
theorem g_isNot {K : PySem.W.Frag} {C : Addr} {x : V} {T : String} {H : Hp} {Q : VK} (O : OwnIs K C) (ty : TyX K H x (.type T)) (h : T ∈ kinds7) (q : Q (.bl false) H) : rIsi K [x, .ref C] H Q :=
  ⟨_, _, _, _, false, rfl, .own C, ty, O.no T h, q⟩
section
variable {X : Cx} {k j : Nat} {C : Addr} {x m : Str} {p pos apos : Pos} {o e a b : Expr} {es : List Expr} {ps : List Str} {sp : Sp} {ta tb : TE} {t : TA} {W : WX}
theorem OpW.or {f : Value → Value → Sem Value} {r r' : L2.St → R2} (h : OpW X f r) (h' : OpW X f r') : OpW X f (fun σ x y H Q => r σ x y H Q ∨ r' σ x y H Q) :=
  fun pins s σ H x y v u Q I rx ry q => q.elim (h pins s σ H x y v u Q I rx ry) (h' pins s σ H x y v u Q I rx ry)
/-- an own operator that may raise: with another instance, with a thing of a built-in kind -/
def rOwnW (K : PySem.W.Frag) (C : Addr) (sp : Sp) (W : WX) : L2.St → R2 := fun σ x y H Q => (∃ (a b dx dy : Addr) (fs gs : List (Str × V)), x = .ref a ∧ y = .ref b ∧ H a = some (.ins C dx fs) ∧ H b = some (.ins C dy gs) ∧ sp [x, y] H Q (WE W σ)) ∨
  ∃ (a dx : Addr) (fs : List (Str × V)) (T : String), x = .ref a ∧ H a = some (.ins C dx fs) ∧ TyX K H y (.type T) ∧ T ∈ kinds7 ∧ sp [x, y] H Q (WE W σ)
theorem op_andW {K : PySem.W.Frag} (hK : X.K = K) (tk : Takes X W) (D : DefMX X.prog X.w X.K X.mg X.base k C (PySem.dunder Operator.BitAnd.info.2) ps sp) (hr : Room j X.A) (own : PySem.W.selfFirst X.K C = true) (nr : PySem.W.findIn X.K (.ref C) (dunderR Operator.BitAnd.info.2) = some none) (hk : k ≤ j := by decide) :
    OpW X (binaryOp .BitAnd) (rOwnW K C sp W) := by
  subst hK
  exact (op_own2W tk D hr own hk).or (op_ownTW tk D hr own nr kin_and hk)
theorem op_orW {K : PySem.W.Frag} (hK : X.K = K) (tk : Takes X W) (D : DefMX X.prog X.w X.K X.mg X.base k C (PySem.dunder Operator.BitOr.info.2) ps sp) (hr : Room j X.A) (own : PySem.W.selfFirst X.K C = true) (nr : PySem.W.findIn X.K (.ref C) (dunderR Operator.BitOr.info.2) = some none) (hk : k ≤ j := by decide) :
    OpW X (binaryOp .BitOr) (rOwnW K C sp W) := by
  subst hK
  exact (op_own2W tk D hr own hk).or (op_ownTW tk D hr own nr kin_or hk)
def tUnW (C : Addr) (sp : Sp) (W : WX) (ta : TE) : TE := fun σ H Q => ta σ H fun x H1 => ∃ (a dx : Addr) (fs : List (Str × V)), x = .ref a ∧ H1 a = some (.ins C dx fs) ∧ sp [x] H1 Q (WE W σ)
theorem pe_invW (tk : Takes X W) (D : DefMX X.prog X.w X.K X.mg X.base k C "__invert__" ps sp) (hr : Room j X.A) (ha : PE X a ta) (hk : k ≤ j := by decide) : PE X (.UnaryOp .Invert a pos) (tUnW C sp W ta) := by
  constructor
  intro pins s σ H Q I h
  refine PyProof.Rows.UnaryOp_ (thn (ha.run pins s σ H _ I h) ?_)
  rintro u s1 ⟨y, H1, I1, ry, q, dq, fs, rfl, eq, rest⟩
  obtain rfl : u = Value.ref q := ry
  obtain ⟨f, fd, F, hm, hb⟩ := D.ex
  obtain ⟨_, OA, _⟩ := ins_get I1.hok eq
  obtain ⟨_, ia, _⟩ := OA.look
  obtain ⟨_, fr⟩ := I1.fr
  refine PySem.W.ksp_inv fr I1.mod.kin ia hm.at_ hm.fn ?_
  exact run_fnS F (hr.mono hk) hb (passAt tk σ) I1 (vs := [.ref q]) (.cons (show RelV (.ref q) (.ref q) from rfl) .nil) rest
/-- a class of the text as a value -/
theorem pe_cls (hg : Gl X x) (hm : X.mg x = some (.ref C)) (hdb : (x == ("__debug__" : Str)) = false := by decide) : PE X (.Name x p) (tC (.ref C)) := pe_glob (v := .ref C) hg hm rfl hdb
end
end Tw
namespace Tw
open PySem L2 PySem.Spec
section
variable {σ : L2.St} {H : Hp} {Q : VK} {ta tb : TE} {t : TA} {sp : Sp} {W : WX} {C : Addr} {r : L2.St → R2} {D : Ends}
theorem g_opW (q : ta σ H fun x H1 => tb σ H1 fun y H2 => r σ x y H2 Q) : tOpW r ta tb σ H Q := q
theorem g_unW (q : ta σ H fun x H1 => ∃ (a dx : Addr) (fs : List (Str × V)), x = .ref a ∧ H1 a = some (.ins C dx fs) ∧ sp [x] H1 Q (WE W σ)) : tUnW C sp W ta σ H Q := q
end
end Tw

set_option Elab.async false
set_option linter.all false
set_option maxRecDepth 100000
/-! truths, orders of values, defs with one keyword-only parameter, dicts -/
namespace Tw
open PySem L2 PySem.Spec PyProof.Rows
def isTv (x : V) : Prop := x = .non ∨ ∃ b, x = .bl b
def rIsTv : R2 := fun x y H Q => isTv x ∧ (∃ b, y = .bl b) ∧ Q (.bl (decide (x = y))) H
def rNotTv : R2 := fun x y H Q => isTv x ∧ (∃ b, y = .bl b) ∧ Q (.bl (!decide (x = y))) H
def ltV : V → V → Bool
  | .int i, .int j => decide (i < j)
  | .str a, .str b => decide (a.cps.toList < b.cps.toList)
  | _, _ => false
/-- two numbers, two texts -/
def sameK (x y : V) : Prop := (∃ i j, x = .int i ∧ y = .int j) ∨ ∃ a b : Str, x = .str a ∧ y = .str b
def rLtV : R2 := fun x y H Q => sameK x y ∧ Q (.bl (ltV x y)) H
def rLeV : R2 := fun x y H Q => sameK x y ∧ Q (.bl (!ltV y x)) H
def rGtV : R2 := fun x y H Q => sameK x y ∧ Q (.bl (ltV y x)) H
def rGeV : R2 := fun x y H Q => sameK x y ∧ Q (.bl (!ltV x y)) H
theorem not_lt_le {i j : Int} : (!decide (j < i)) = decide (i ≤ j) := by
  by_cases h : j < i
  · rw [decide_eq_true h, decide_eq_false (by omega)]; rfl
  · rw [decide_eq_false h, decide_eq_true (by omega)]; rfl
section
variable {X : Cx}
theorem op_isTv : OpR X (compareOp .Is) rIsTv := by
  intro pins s σ H x y v u Q I rx ry h
  obtain ⟨hx, ⟨b, rfl⟩, q⟩ := h
  cases (show u = Value.bool b from ry)
  rcases hx with rfl | ⟨a, rfl⟩
  · cases (show v = Value.none from rx)
    exact wpAny_is_other rfl (fun z => nomatch z) ⟨.bl false, H, I, rfl, by simpa using q⟩
  · cases (show v = Value.bool a from rx)
    by_cases e : a = b
    · subst e
      exact wpAny_is_self rfl ⟨.bl true, H, I, rfl, by simpa using q⟩
    · exact wpAny_is_other rfl (fun z => e (Value.bool.inj z)) ⟨.bl false, H, I, rfl, by simpa [e] using q⟩
theorem op_notTv : OpR X (compareOp .IsNot) rNotTv := by
  intro pins s σ H x y v u Q I rx ry h
  obtain ⟨hx, ⟨b, rfl⟩, q⟩ := h
  cases (show u = Value.bool b from ry)
  rcases hx with rfl | ⟨a, rfl⟩
  · cases (show v = Value.none from rx)
    exact wpAny_isNot_other rfl (fun z => nomatch z) ⟨.bl true, H, I, rfl, by simpa using q⟩
  · cases (show v = Value.bool a from rx)
    by_cases e : a = b
    · subst e
      exact wpAny_isNot_self rfl ⟨.bl false, H, I, rfl, by simpa using q⟩
    · exact wpAny_isNot_other rfl (fun z => e (Value.bool.inj z)) ⟨.bl true, H, I, rfl, by simpa [e] using q⟩
theorem op_ltV : OpR X (compareOp .Lt) rLtV := by
  intro pins s σ H x y v u Q I rx ry ⟨h, q⟩
  rcases h with ⟨i, j, rfl, rfl⟩ | ⟨a, b, rfl, rfl⟩
  · exact op_lt pins s σ H _ _ v u Q I rx ry ⟨i, j, rfl, rfl, q⟩
  · exact op_lt_str pins s σ H _ _ v u Q I rx ry ⟨a, b, rfl, rfl, q⟩
theorem op_leV : OpR X (compareOp .LtE) rLeV := by
  intro pins s σ H x y v u Q I rx ry ⟨h, q⟩
  rcases h with ⟨i, j, rfl, rfl⟩ | ⟨a, b, rfl, rfl⟩
  · exact op_le pins s σ H _ _ v u Q I rx ry ⟨i, j, rfl, rfl, by show Q (.bl (decide (i ≤ j))) H; rw [← not_lt_le]; exact q⟩
  · exact op_le_str pins s σ H _ _ v u Q I rx ry ⟨a, b, rfl, rfl, q⟩
theorem op_gtV : OpR X (compareOp .Gt) rGtV := by
  intro pins s σ H x y v u Q I rx ry ⟨h, q⟩
  rcases h with ⟨i, j, rfl, rfl⟩ | ⟨a, b, rfl, rfl⟩
  · exact op_gt pins s σ H _ _ v u Q I rx ry ⟨i, j, rfl, rfl, q⟩
  · exact op_gt_str pins s σ H _ _ v u Q I rx ry ⟨a, b, rfl, rfl, q⟩
theorem op_geV : OpR X (compareOp .GtE) rGeV := by
  intro pins s σ H x y v u Q I rx ry ⟨h, q⟩
  rcases h with ⟨i, j, rfl, rfl⟩ | ⟨a, b, rfl, rfl⟩
  · exact op_ge pins s σ H _ _ v u Q I rx ry ⟨i, j, rfl, rfl, by show Q (.bl (decide (j ≤ i))) H; rw [← not_lt_le]; exact q⟩
  · exact op_ge_str pins s σ H _ _ v u Q I rx ry ⟨a, b, rfl, rfl, q⟩
end
/-! defs with one keyword-only parameter that has a default -/
structure HereKw (K : PySem.W.Frag) (mg : Str → Option Value) (x : Str) (st : Stmt) (ps : List Str) (n : Nat) (kn : Str) (dv : V) (f : Addr) (fd : FuncData) : Prop where
  fn : Fun K x x st f fd
  mg : mg x = some (.ref f)
  bd : ∃ ds, Vals [dv] ds ∧ Binds K fd ps ds
  kb : KBn K fd ps n [kn] (fun us ws => us ++ ws) (fun vs zs => vs ++ zs)
structure DefKw (P : Program) (w : World) (K : PySem.W.Frag) (mg : Str → Option Value) (base : Heap) (k : Nat) (x : Str) (ps : List Str) (n : Nat) (kn : Str) (dv : V) (sp : Sp) : Prop where
  ex : ∃ (f : Addr) (fd : FuncData), FnOk P w K mg base CX0 k f fd ps sp ∧ mg x = some (.ref f) ∧ PySem.W.keepIn K (.ref f) = true ∧ (∃ ds, Vals [dv] ds ∧ Binds K fd ps ds) ∧ KBn K fd ps n [kn] (fun us ws => us ++ ws) (fun vs zs => vs ++ zs)
theorem HereKw.def {P : Program} {w : World} {K : PySem.W.Frag} {mg : Str → Option Value} {base : Heap} {k n : Nat} {x kn : Str} {dv : V} {st : Stmt} {ps : List Str} {sp : Sp} {f : Addr} {fd : FuncData} (h : HereKw K mg x st ps n kn dv f fd) (F : FnOk P w K mg base CX0 k f fd ps sp) : DefKw P w K mg base k x ps n kn dv sp :=
  ⟨f, fd, F, h.mg, h.fn.kp, h.bd, h.kb⟩
section
variable {X : Cx} {k j n : Nat} {x kn : Str} {dv : V} {p pos kpos : Pos} {e ke : Expr} {es : List Expr} {ps : List Str} {sp : Sp} {t : TA} {te : TE}
def tDefK (sp : Sp) (dv : V) (t : TA) : TE := fun σ H Q => t σ H fun vs H1 => sp (vs ++ [dv]) H1 Q E0
theorem tDefK_eq : tCall sp [dv] E0 t = tDefK sp dv t := by
  funext σ H Q
  unfold tCall tDefK
  rfl
theorem pe_defK (D : DefKw X.prog X.w X.K X.mg X.base k x ps n kn dv sp) (hr : Room j X.A) (hg : Gl X x) (ha : PA X (e :: es) t) (hk : k ≤ j := by decide) (hdb : (x == ("__debug__" : Str)) = false := by decide)
    (he : starEach (e :: es) X.env = (false, eval e X.env) :: starEach es X.env := by rfl) (hpl : (backTo pos (starEach es X.env)).any (·.1) = false := by rfl) : PE X (.Call (.Name x p) (e :: es) [] pos) (tDefK sp dv t) := by
  obtain ⟨f, fd, F, hm, hkp, ⟨ds, hv, hb⟩, _⟩ := D.ex
  rw [← tDefK_eq]
  exact pe_call F (hr.mono hk) hg hm hkp hb hv pass0 ha hdb he hpl
def tDefKw (n : Nat) (sp : Sp) (t : TA) (te : TE) : TE := tCallN n 1 sp (fun vs zs => vs ++ zs) E0 t (tCons te tNil)
theorem pe_defKw (D : DefKw X.prog X.w X.K X.mg X.base k x ps n kn dv sp) (hr : Room j X.A) (hg : Gl X x) (ha : PA X (e :: es) t) (hke : PE X ke te) (hk : k ≤ j := by decide)
    (hall : (backToKw pos (keywordEach [⟨some kn, ke, kpos⟩] X.env)).all (·.1.isSome) = true := by rfl) (hks : (backToKw pos (keywordEach [⟨some kn, ke, kpos⟩] X.env)).filterMap (·.1) = [kn] := by rfl)
    (hdb : (x == ("__debug__" : Str)) = false := by decide) (he : starEach (e :: es) X.env = (false, eval e X.env) :: starEach es X.env := by rfl)
    (hpl : ((backTo pos (starEach (e :: es) X.env)).any (·.1) || (backToKw pos (keywordEach [⟨some kn, ke, kpos⟩] X.env)).any (·.1.isNone)) = false := by rfl) : PE X (.Call (.Name x p) (e :: es) [⟨some kn, ke, kpos⟩] pos) (tDefKw n sp t te) := by
  obtain ⟨f, fd, F, hm, hkp, _, kb⟩ := D.ex
  exact pe_callN F (hr.mono hk) hg hm hkp kb pass0 ha (pk_cons hke pk_nil) hall hks hdb he hpl
theorem g_defK {σ : L2.St} {H : Hp} {Q : VK} (q : t σ H fun vs H1 => sp (vs ++ [dv]) H1 Q E0) : tDefK sp dv t σ H Q := q
theorem g_defKw {σ : L2.St} {H : Hp} {Q : VK} (q : t σ H fun vs H1 => te σ H1 fun z H2 => vs.length = n ∧ 1 = 1 ∧ sp (vs ++ [z]) H2 Q E0) : tDefKw n sp t te σ H Q := q
end
theorem kw_bd {K : PySem.W.Frag} {fd : FuncData} {D : Addr} {kn : Str} {ps : List Str} {n : Nat} {i : Int} {t : Tok} (hps : ps.length = n + 1) (hn : PySem.W.nsIn K D kn = some (some (.int i t)))
    (h : ∀ us : List Value, us.length = n → ∀ u : Value, KwChain D [(kn, u)] (bindArgs fd ⟨us, []⟩) (ps.zip (us ++ [u]))) : ∃ ds, Vals [.int i] ds ∧ Binds K fd ps ds := by
  refine ⟨[.int i t], .cons ⟨t, rfl⟩ .nil, fun s us X hlen => BindsTo.of_looks fun M => KwChain.looks X (fun q hq => ?_) (h us ?_ (.int i t))⟩
  · obtain rfl : q = (kn, .int i t) := List.mem_singleton.mp hq
    exact hn
  · simp at hlen
    omega
theorem kw_kb {K : PySem.W.Frag} {fd : FuncData} {kn : Str} {ps : List Str} {n : Nat} (h : ∀ us : List Value, us.length = n → ∀ u : Value, bindArgs fd ⟨us, [(kn, u)]⟩ = pure (ps.zip (us ++ [u]))) : KBn K fd ps n [kn] (fun us ws => us ++ ws) (fun vs zs => vs ++ zs) := by
  refine ⟨fun s us ws X l1 l2 => ?_, fun r1 r2 => r1.append r2⟩
  match ws, l2 with
  | [u], _ => exact .of_eq (h us l1 u)
end Tw

set_option Elab.async false
set_option linter.all false
set_option maxRecDepth 100000
namespace Tw
open PySem L2 PySem.Spec
section
variable {J : It} {g : TG} {tt : TT} {te : TE} {vs : List Nat} {σ : L2.St} {H1 : Hp} {D : Addr} {Qd : Hp → Prop}
/-- a comprehension whose turns leave the heap: what is kept has a property -/
theorem lc_any (xs : List V) (P : V → Prop) (hD : H1 D = none) (hJ : ∀ H, (∀ q o, H1 q = some o → H q = some o) → Fits J xs H) (hlen : xs.length ≤ 1000000)
    (hs : ∀ x Hh (R : V → Hp → Prop) (S : Hp → Prop), x ∈ xs → (∀ q o, H1 q = some o → Hh q = some o) → (∀ y, P y → R y Hh) → S Hh →
      g x (wipe σ vs) Hh fun σ2 H2 => wipe σ2 vs = wipe σ vs ∧ tt σ2 H2 fun b H3 => if b = true then te σ2 H3 R else S H3)
    (hd : ∀ H ys, (∀ q o, H1 q = some o → H q = some o) → H D = some (.lst ys) → (∀ y ∈ ys, P y) → ys.length ≤ xs.length → Qd H) :
    ∃ W : Nat → Nat → Hp → Prop, (∃ m, W 0 m (upd H1 D (.lst []))) ∧ ∀ i m H, W i m H →
      (J.stop i H ∧ Qd H) ∨ (J.go i H ∧ ∃ Nx : Hp → Prop, (∀ H', Nx H' → ∃ m', m' < m ∧ W (i + 1) m' H') ∧ ∀ x H', J.yld i H x H' → g x (wipe σ vs) H' fun σ2 H2 => wipe σ2 vs = wipe σ vs ∧ tt σ2 H2 fun b H3 =>
        if b = true then te σ2 H3 fun y H4 => ∃ acc, H4 D = some (.lst acc) ∧ acc.length < sizeLine ∧ Nx (upd H4 D (.lst (acc ++ [y]))) else Nx H3) := by
  refine ⟨fun i m H => m = xs.length - i ∧ i ≤ xs.length ∧ (∃ ys, H D = some (.lst ys) ∧ (∀ y ∈ ys, P y) ∧ ys.length ≤ i) ∧ ∀ q o, H1 q = some o → H q = some o, ⟨xs.length, by simp, Nat.zero_le _, ⟨[], upd_same, (fun y hy => nomatch hy), Nat.zero_le _⟩, fun q o h => by rw [upd_ne (ne_of_none h hD)]; exact h⟩, ?_⟩
  rintro i m H ⟨rfl, hi, ⟨ys, hDl, hP, hl⟩, hK⟩
  have fi := hJ H hK
  by_cases hlt : i < xs.length
  · refine .inr ⟨fi.go i hlt, fun H' => (∃ ys, H' D = some (.lst ys) ∧ (∀ y ∈ ys, P y) ∧ ys.length ≤ i + 1) ∧ ∀ q o, H1 q = some o → H' q = some o, fun H' w => ⟨xs.length - (i + 1), by omega, rfl, hlt, w⟩, ?_⟩
    intro x H' hy
    obtain ⟨rfl, hx⟩ := fi.yld i x H' hy
    refine hs x H' (fun y H4 => _) (fun H3 => _) (List.mem_of_getElem? hx) hK (fun y hy => ⟨_, hDl, ?_, ⟨_, upd_same, fun z hz => ?_, ?_⟩, fun q o h => by rw [upd_ne (ne_of_none h hD)]; exact hK q o h⟩) ⟨⟨ys, hDl, hP, by omega⟩, hK⟩
    · rw [sizeLine_eq]
      omega
    · rcases List.mem_append.mp hz with hz | hz
      · exact hP z hz
      · rw [List.mem_singleton.mp hz]; exact hy
    · rw [List.length_append]
      show ys.length + 1 ≤ _
      omega
  · have e : i = xs.length := by omega
    subst e
    exact .inl ⟨fi.stop _ (Nat.le_refl _), hd H ys hK hDl hP hl⟩
/-- a comprehension whose turns leave the heap, with an if -/
theorem lc_filt (xs : List V) (f : V → Bool) (v : V → V) (hD : H1 D = none) (hJ : ∀ H, (∀ q o, H1 q = some o → H q = some o) → Fits J xs H) (hlen : xs.length ≤ 1000000)
    (hs : ∀ x Hh (R : V → Hp → Prop) (S : Hp → Prop), x ∈ xs → (∀ q o, H1 q = some o → Hh q = some o) → (f x = true → R (v x) Hh) → (f x = false → S Hh) →
      g x (wipe σ vs) Hh fun σ2 H2 => wipe σ2 vs = wipe σ vs ∧ tt σ2 H2 fun b H3 => if b = true then te σ2 H3 R else S H3)
    (hd : ∀ H, (∀ q o, H1 q = some o → H q = some o) → H D = some (.lst ((xs.filter f).map v)) → Qd H) :
    ∃ W : Nat → Nat → Hp → Prop, (∃ m, W 0 m (upd H1 D (.lst []))) ∧ ∀ i m H, W i m H →
      (J.stop i H ∧ Qd H) ∨ (J.go i H ∧ ∃ Nx : Hp → Prop, (∀ H', Nx H' → ∃ m', m' < m ∧ W (i + 1) m' H') ∧ ∀ x H', J.yld i H x H' → g x (wipe σ vs) H' fun σ2 H2 => wipe σ2 vs = wipe σ vs ∧ tt σ2 H2 fun b H3 =>
        if b = true then te σ2 H3 fun y H4 => ∃ acc, H4 D = some (.lst acc) ∧ acc.length < sizeLine ∧ Nx (upd H4 D (.lst (acc ++ [y]))) else Nx H3) := by
  refine ⟨fun i m H => m = xs.length - i ∧ i ≤ xs.length ∧ H D = some (.lst (((xs.take i).filter f).map v)) ∧ ∀ q o, H1 q = some o → H q = some o, ⟨xs.length, by simp, Nat.zero_le _, upd_same, fun q o h => by rw [upd_ne (ne_of_none h hD)]; exact h⟩, ?_⟩
  rintro i m H ⟨rfl, hi, hDl, hK⟩
  have fi := hJ H hK
  by_cases hlt : i < xs.length
  · refine .inr ⟨fi.go i hlt, fun H' => H' D = some (.lst (((xs.take (i + 1)).filter f).map v)) ∧ ∀ q o, H1 q = some o → H' q = some o, fun H' w => ⟨xs.length - (i + 1), by omega, rfl, hlt, w⟩, ?_⟩
    intro x H' hy
    obtain ⟨rfl, hx⟩ := fi.yld i x H' hy
    have e1 : xs.take (i + 1) = xs.take i ++ [x] := by rw [List.take_succ, hx]; rfl
    refine hs x H' (fun y H4 => _) (fun H3 => _) (List.mem_of_getElem? hx) hK (fun hf => ⟨_, hDl, ?_, ?_, fun q o h => by rw [upd_ne (ne_of_none h hD)]; exact hK q o h⟩) (fun hf => ⟨?_, hK⟩)
    · have h1 := List.length_filter_le f (xs.take i)
      rw [List.length_take] at h1
      rw [List.length_map, sizeLine_eq]
      omega
    · rw [upd_same, e1, List.filter_append, List.filter_cons, if_pos hf, List.map_append]; rfl
    · rw [hDl, e1, List.filter_append, List.filter_cons, if_neg (by rw [hf]; exact Bool.false_ne_true)]
      simp
  · have e : i = xs.length := by omega
    subst e
    refine .inl ⟨fi.stop _ (Nat.le_refl _), hd H hK ?_⟩
    rw [hDl, List.take_length]
end
end Tw

set_option Elab.async false
set_option linter.all false
set_option maxRecDepth 100000
set_option maxHeartbeats 4000000
/-! != of lists that are equal item by item -/
namespace PySem.SeqAt
open AutoSeq1 (wpAny_loadPart')
open MeetsSeq MeetsSeq2 MeetsSeq3 SeqRoads2
section
variable {prog : Program} {w : World}
theorem tw_ne_loop (l b : Addr) (items items2 : Array Value) (n n2 : Nat) (dd dd2 : Option Addr) (sl sl2 : Array (Option Value)) (hsz : items.size = items2.size) (k : Nat) :
    ∀ i : Nat, items.size - i = k → MeetsIn prog w (Builtin.«list.__eq__.loop» ⟨[.ref l, .ref b, rawInt i, rawInt 3], []⟩)
      (fun A R s => s.heap.get? l = some { cls := .type "list", dict := dd, data := .seq items n, slots := sl } ∧ s.heap.get? b = some { cls := .type "list", dict := dd2, data := .seq items2 n2, slots := sl2 } ∧
        (∀ j (h1 : j < items.size) (h2 : j < items2.size), EqP prog w A.in1 s items[j] items2[j] true) ∧
        R (.ok (.ret (.bool false))) s) := by
  induction k with
  | zero =>
    intro i hk A R s h
    obtain ⟨hp, g, d, tk, os⟩ := s; obtain ⟨hl, hb, he, h⟩ := h
    wp_walk using wpAny_loadPart' hl, wpAny_loadPart' hb
    have hi1 : items[((i : Nat) : Int).toNat]? = none := by simp; omega
    have hi2 : items2[((i : Nat) : Int).toNat]? = none := by simp; omega
    rw [hi1, hi2]
    wp_walk using wpAny_loadPart' hl, wpAny_loadPart' hb
    show R (.ok (.ret (.bool (items.size != items2.size)))) _
    rw [hsz]
    simpa using h
  | succ k ih =>
    intro i hk A R s h
    obtain ⟨hp, g, d, tk, os⟩ := s; obtain ⟨hl, hb, he, h⟩ := h
    wp_walk using wpAny_loadPart' hl, wpAny_loadPart' hb
    have hlt : i < items.size := by omega
    have hlt2 : i < items2.size := by omega
    have hi1 : items[((i : Nat) : Int).toNat]? = some items[i] := by simp [hlt]
    have hi2 : items2[((i : Nat) : Int).toNat]? = some items2[i] := by simp [hlt2]
    have hc : ((i : Int) + 1) = ((i + 1 : Nat) : Int) := by push_cast; rfl
    rw [hi1, hi2]
    refine wpAny_bind (he i hlt hlt2 _ _ ?_)
    wp_walk
    rw [hc]
    exact ⟨plainId_quiet plain_eq_loop _, codeAny_builtin entry_eq_loop (by
      rw [Around.under_plainId plain_eq_loop _]
      exact ih (i + 1) (by omega) A R _ ⟨hl, hb, he, h⟩)⟩
theorem tw_list_ne (l b : Addr) (items items2 : Array Value) (n n2 : Nat) (dd dd2 : Option Addr) (sl sl2 : Array (Option Value)) (hsz : items.size = items2.size) :
    MeetsIn prog w (Builtin.«list.__ne__» ⟨[.ref l, .ref b], []⟩)
      (fun A R s => s.heap.get? l = some { cls := .type "list", dict := dd, data := .seq items n, slots := sl } ∧ s.heap.get? b = some { cls := .type "list", dict := dd2, data := .seq items2 n2, slots := sl2 } ∧
        (∀ j (h1 : j < items.size) (h2 : j < items2.size), EqP prog w A.in1 s items[j] items2[j] true) ∧
        R (.ok (.ret (.bool false))) s) := by
  intro A R s h
  obtain ⟨hp, g, d, tk, os⟩ := s; obtain ⟨hl, hb, he, h⟩ := h
  have f3 := AutoSeq1.sub_list_list
  have hne : ¬ (items.size != items2.size) = true := by simp [hsz]
  wp_walk using wpAny_loadPart' hl, wpAny_loadPart' hb
  exact ⟨plainId_quiet plain_eq_loop _, codeAny_builtin entry_eq_loop (by
    rw [Around.under_plainId plain_eq_loop _]
    exact tw_ne_loop l b items items2 n n2 dd dd2 sl sl2 hsz _ 0 rfl A R _ ⟨hl, hb, he, h⟩)⟩
theorem tw_ne_lists {A : Around} {s : Shared} {l b : Addr} {items items2 : Array Value} (hl : s.heap.IsList l items) (hb : s.heap.IsList b items2) (hsz : items.size = items2.size) (hu : A.units < cLine)
    (he : ∀ j (h1 : j < items.size) (h2 : j < items2.size), EqP prog w A.in1 s items[j] items2[j] true) (E Q : Value → Shared → Prop) (h : Q (.bool false) s) : wpAny (model prog w) A (richCompare .NotEq (.ref l) (.ref b)) Q E s := by
  obtain ⟨⟨cls, dd, data, sl⟩, ho, hc, n, hd⟩ := id hl
  obtain ⟨⟨cls2, dd2, data2, sl2⟩, ho2, hc2, n2, hd2⟩ := id hb
  simp only at hc hd hc2 hd2
  subst hc hd hc2 hd2
  have ta : s.TypeIs (.ref l) "list" := ⟨_, ho, rfl⟩
  have tb : s.TypeIs (.ref b) "list" := ⟨_, ho2, rfl⟩
  exact wpAny_richCompare_same_room (op := .NotEq) ta tb F.slot_list_ne (call_meetsIn F.slot_list_ne ta F.entry_list_ne (F.args_list_ne_2 _ _) (tw_list_ne l b items items2 n n2 dd dd2 sl sl2 hsz)
    ⟨ho, ho2, he, show Value.bool false ≠ Value.notImplemented ∧ Q (.bool false) s from ⟨(fun x => nomatch x), h⟩⟩) hu
end
end PySem.SeqAt
namespace L2
open PySem PySem.Spec PyProof.Rows
section
variable {X : Cx}
/-- a != b, two lists whose items are equal -/
def rNeV (K : PySem.W.Frag) : R2 := fun x y H Q => ∃ n a b xs ys, n ≤ 60 ∧ x = .ref a ∧ y = .ref b ∧ SqL K H a xs ∧ SqL K H b ys ∧ Paired (EqV K H n) xs ys ∧ Q (.bl false) H
theorem op_neV (hu : X.A.units + 64 < cLine) : OpR X (compareOp .NotEq) (rNeV X.K) := by
  intro pins s σ H x y v u Q I rx ry h
  obtain ⟨n, a, b, xs, ys, hn, rfl, rfl, ha, hb, hp, q⟩ := h
  cases (show v = Value.ref a from rx)
  cases (show u = Value.ref b from ry)
  obtain ⟨us, r1, p1, _⟩ := I.list ha
  obtain ⟨ws, r2, p2, _⟩ := I.list hb
  have hsz : us.toArray.size = ws.toArray.size := by
    rw [List.size_toArray, List.size_toArray, ← r1.length, ← r2.length]
    exact Paired.length hp
  refine SeqAt.tw_ne_lists p1.isList p2.isList hsz (by omega) (fun j h1 h2 => ?_) _ _ ⟨.bl false, H, I, rfl, q⟩
  have k := items_run (eqV_run I n X.A.in1 (by show X.A.units + 1 + n < cLine; omega)) hp r1 r2 j (by simpa using h1) (by simpa using h2)
  simpa using k
theorem op_neVu {K : PySem.W.Frag} (h : X.K = K) (hu : X.A.units + 64 < cLine) : OpR X (compareOp .NotEq) (rNeV K) := by subst h; exact op_neV hu
theorem op_eqVu {K : PySem.W.Frag} (h : X.K = K) (hu : X.A.units + 64 < cLine) : OpR X (compareOp .Eq) (rEqV K) := by subst h; exact op_eqV hu
end
end L2
namespace Tw
open PySem L2
def rMin2 : List V → Hp → VK → Prop := fun xs H Q => ∃ i j, xs = [.int i, .int j] ∧ Q (.int (if j < i then j else i)) H
def rInsert : V → List V → Hp → VK → Prop := fun x vs H Q => ∃ (l : Addr) (xs : List V) (i : Int) (y : V), x = .ref l ∧ vs = [.int i, y] ∧ H l = some (.lst xs) ∧ xs.length < sizeLine ∧ 0 ≤ i ∧ i < 2 ^ 63 ∧ Q .non (upd H l (.lst (xs.take i.toNat ++ [y] ++ xs.drop i.toNat)))
section
variable {X : Cx}
theorem call_min2G (h : X.calm = true) : CallR X (.builtin "min") rMin2 := call_min2 h
theorem pg_tupG {K : PySem.W.Frag} {es : List Expr} {k : Nat} {t : TGs} {n : Nat} {pos : Pos} (hK : X.K = K) (hc : X.calm = true) (h : PGs X es t)
    (hn : (assignEach es X.env).length = n := by rfl) (hst : (assignEach es X.env).findIdx? (·.1) = none := by rfl) : PG X (.Tuple es k pos) (gTup K n t) := by subst hK; exact pg_tup hc h hn hst
theorem mt_insertG : MtR X "list.insert" rInsert := mt_insert
end
section
variable {K : PySem.W.Frag} {σ : L2.St} {H : Hp} {Q : VK} {D : Ends} {t : TA} {c : TT} {tb : TS} {i j : Int}
theorem g_min2 (q : Q (.int (if j < i then j else i)) H) : rMin2 [.int i, .int j] H Q := ⟨i, j, rfl, q⟩
theorem g_rng2 {R : It → Hp → Prop} (q : t σ H fun vs H1 => ∃ i j : Int, vs = [.int i, .int j] ∧ (-(2 ^ 62) ≤ i ∧ i < 2 ^ 62 ∧ -(2 ^ 62) ≤ j ∧ j < 2 ^ 62) ∧ R (Itr i (j - i).toNat) H1) : iRng2 t σ H R := q
theorem g_gtup {n : Nat} {u : TGs} {p : Addr} {xs : List V} {QS : L2.St → Hp → Prop} (h : H p = some (.tup xs)) (hl : xs.length = n) (q : u xs σ H QS) : gTup K n u (.ref p) σ H QS := ⟨p, xs, rfl, SqT.of h, hl, q⟩
theorem g_gcons {g : TG} {u : TGs} {v : V} {r : List V} {QS : L2.St → Hp → Prop} (q : g v σ H fun σ' H' => u r σ' H' QS) : gCons g u (v :: r) σ H QS := ⟨v, r, rfl, q⟩
theorem g_gnil {QS : L2.St → Hp → Prop} (q : QS σ H) : gNil [] σ H QS := ⟨rfl, q⟩
theorem g_while (q : ∃ W : Nat → L2.St → Hp → Prop, (∃ m, W m σ H) ∧ ∀ m σ H, W m σ H →
  c σ H fun b H1 => if b = true then ∃ N : L2.St → Hp → Prop, (∀ σ' H', N σ' H' → ∃ m', m' < m ∧ W m' σ' H') ∧ tb { D with nx := N, ct := N, bk := D.nx } σ H1 else D.nx σ H1) : tWhile c tb D σ H := q
theorem g_ins {p : Addr} {xs : List V} {v : V} (h : H p = some (.lst xs)) (hz : xs.length < 10000000) (h0 : 0 ≤ i) (h1 : i < 10000000) (q : Q .non (upd H p (.lst (xs.take i.toNat ++ [v] ++ xs.drop i.toNat)))) : rInsert (.ref p) [.int i, v] H Q := ⟨p, xs, i, v, rfl, rfl, h, by rw [sizeLine_eq]; omega, h0, by omega, q⟩
end
end Tw
namespace Tw
open PySem L2
section
variable {σ : L2.St} {g : TG} {tt : TT} {te : TE} {vs : List Nat} {J : It} {H1 : Hp} {D : Addr} {Qd : Hp → Prop}
/-- a comprehension whose turns make new things -/
theorem lc_new (xs : List V) (Rel : Nat → V → Hp → Prop) (hD : H1 D = none) (hJ : ∀ H, (∀ q o, H1 q = some o → H q = some o) → Fits J xs H) (hlen : xs.length ≤ 1000000)
    (hmono : ∀ i y H H', (∃ ys, H D = some (.lst ys)) → Rel i y H → (∀ q o, q ≠ D → H q = some o → H' q = some o) → Rel i y H')
    (hs : ∀ i x Hh (R : V → Hp → Prop) (S : Hp → Prop), xs[i]? = some x → (∀ q o, H1 q = some o → Hh q = some o) → (∃ ys, Hh D = some (.lst ys)) → (∀ y H4, (∀ q o, Hh q = some o → H4 q = some o) → Rel i y H4 → R y H4) →
      g x (wipe σ vs) Hh fun σ2 H2 => wipe σ2 vs = wipe σ vs ∧ tt σ2 H2 fun b H3 => if b = true then te σ2 H3 R else S H3)
    (hd : ∀ H ys, (∀ q o, H1 q = some o → H q = some o) → H D = some (.lst ys) → ys.length = xs.length → (∀ i y, ys[i]? = some y → Rel i y H) → Qd H) :
    ∃ W : Nat → Nat → Hp → Prop, (∃ m, W 0 m (upd H1 D (.lst []))) ∧ ∀ i m H, W i m H →
      (J.stop i H ∧ Qd H) ∨ (J.go i H ∧ ∃ Nx : Hp → Prop, (∀ H', Nx H' → ∃ m', m' < m ∧ W (i + 1) m' H') ∧ ∀ x H', J.yld i H x H' → g x (wipe σ vs) H' fun σ2 H2 => wipe σ2 vs = wipe σ vs ∧ tt σ2 H2 fun b H3 =>
        if b = true then te σ2 H3 fun y H4 => ∃ acc, H4 D = some (.lst acc) ∧ acc.length < sizeLine ∧ Nx (upd H4 D (.lst (acc ++ [y]))) else Nx H3) := by
  refine ⟨fun i m H => m = xs.length - i ∧ i ≤ xs.length ∧ (∀ q o, H1 q = some o → H q = some o) ∧ ∃ ys, H D = some (.lst ys) ∧ ys.length = i ∧ ∀ j y, ys[j]? = some y → Rel j y H, ⟨xs.length, by simp, Nat.zero_le _, fun q o h => by rw [upd_ne (ne_of_none h hD)]; exact h, [], upd_same, rfl, fun j y h => by simp at h⟩, ?_⟩
  rintro i m H ⟨rfl, hi, hK, ys, hDl, hyl, hR⟩
  have fi := hJ H hK
  by_cases hlt : i < xs.length
  · refine .inr ⟨fi.go i hlt, fun H' => (∀ q o, H1 q = some o → H' q = some o) ∧ ∃ ys, H' D = some (.lst ys) ∧ ys.length = i + 1 ∧ ∀ j y, ys[j]? = some y → Rel j y H', fun H' w => ⟨xs.length - (i + 1), by omega, rfl, hlt, w⟩, ?_⟩
    intro x H' hy
    obtain ⟨rfl, hx⟩ := fi.yld i x H' hy
    refine hs i x H' (fun y H4 => _) (fun H3 => _) hx hK ⟨_, hDl⟩ fun y H4 k4 r4 => ⟨ys, k4 _ _ hDl, by rw [sizeLine_eq]; omega, fun q o h => by rw [upd_ne (ne_of_none h hD)]; exact k4 _ _ (hK q o h), ys ++ [y], upd_same, by rw [List.length_append, hyl]; rfl, fun j z hz => ?_⟩
    have ku : ∀ q o, q ≠ D → H4 q = some o → (upd H4 D (.lst (ys ++ [y]))) q = some o := fun q o n h => by rw [upd_ne n]; exact h
    by_cases hj : j < ys.length
    · rw [List.getElem?_append_left hj] at hz
      exact hmono j z _ _ ⟨ys, k4 _ _ hDl⟩ (hmono j z _ _ ⟨ys, hDl⟩ (hR j z hz) fun q o _ h => k4 q o h) ku
    · rw [List.getElem?_append_right (by omega)] at hz
      obtain ⟨h0, _⟩ := List.getElem?_eq_some_iff.mp hz
      have e : j - ys.length = 0 := by simpa using h0
      rw [e] at hz
      obtain rfl : y = z := by simpa using hz
      obtain rfl : j = i := by omega
      exact hmono _ _ _ _ ⟨ys, k4 _ _ hDl⟩ r4 ku
  · have e : i = xs.length := by omega
    subst e
    exact .inl ⟨fi.stop _ (Nat.le_refl _), hd H ys hK hDl hyl hR⟩
end
end Tw

set_option Elab.async false
set_option linter.all false
set_option maxRecDepth 100000
set_option maxHeartbeats 4000000
namespace PySem
namespace ErBadTest
open PySem.W PySem.Calls PyProof.Rows PySem.HandSPX PySem.TwX
def inA (p1 p2 : Pos) : Arguments := { posonlyargs := [], args := [{ arg := "self", annotation := none, pos := p1 }, { arg := "why", annotation := none, pos := p2 }], vararg := none, kwonlyargs := [], kw_defaults := [], kwarg := none, defaults := [] }
def inB (q1 q2 q3 q4 : Pos) : List Stmt := [.Assign [.Attribute (.Name "self" q1) "why" q2] (.Name "why" q3) q4]
/-- what the written part says of the class at C, and of its __init__ at fI -/
structure Err (K : Frag) (mg : Str → Option Value) (C fI : Addr) : Prop where
  gC : mg "BadTest" = some (.ref C)
  cls : ∃ nm q N bs bm sn sub ab col dd k0 k1 k2 k3 k5, K.lookup C = some (excClassObj nm q C N bs bm true sn sub ab col dd k0 k1 k2 k3 k5 "Exception.__new__") ∧ OwnEx bm
  sa : findIn K (.ref C) "__setattr__" = some (some (.builtin "object.__setattr__"))
  ga : findIn K (.ref C) "__getattribute__" = some (some (.builtin "BaseException.__getattribute__"))
  gg : findIn K (.ref C) "__getattr__" = some none
  noF : findIn K (.ref C) "why" = some none
  ini : findIn K (.ref C) "__init__" = some (some (.ref fI))
  tyI : typeIn K (.ref fI) = some (.type "function")
  kC : keepIn K (.ref C) = true
  exC : subIn K (.ref C) (.type "BaseException") = some true
  tyC : typeIn K (.ref C) = some (.type "type")
  hdC : hasDictIn K C = true
  te : exmOne K (.ref C) (.ref C) = some true
  fn : ∃ (oc : Value) (od : Option Addr) (doc pm : Value) (an : Option Addr) (cdv ct : Value) (osl : Array (Option Value)) (p1 p2 q1 q2 q3 q4 : Pos) (sc : Scope),
    K.lookup fI = some ⟨oc, od, .func (fnOf "__init__" "BadTest.__init__" (inA p1 p2) (inB q1 q2 q3 q4) sc .none .none doc pm an cdv ct), osl⟩ ∧ codeIn K cdv "BadTest.__init__" = true ∧ sc.kind = .function ∧ sc.names = [(PySem.Str.ofString "self", .local), (PySem.Str.ofString "why", .local)] ∧ sc.isGenerator = false ∧ sc.isCoroutine = false
theorem one_ok (v : Value) : [v].length ≤ sizeLine := by rw [sizeLine_eq]; exact (by decide : 1 ≤ 16777216)
theorem read_local {M : Model} {s : Shared} {name : Str} {scope : Scope} {L a : Addr} {cd : Value} {m : Str → Option Value} {x : Str} {pos : Pos} {v : Value} {Q : Value → Shared → Prop} {A : Around} {E : Value → Shared → Prop} (hn : s.heap.Ns L m) (hv : m x = some v) (h : Q v s) (hk : scope.kind = .function)
    (hl : scope.names.lookup x = some .local) (hd : (x == ("__debug__" : Str)) = false := by decide) : wpAny M A (eval (.Name x pos) (envOfC name scope L a cd)) Q E s := wpAny_Name (wpAny_loadName_local hk hl hn hv h) hd
structure InitLeft (h h2 : Heap) (x C dx t1 : Addr) (v : Value) : Prop where
  keep : ∀ b o, b ≠ x → h.get? b = some o → h2.get? b = some o
  obj : h2.get? x = some { cls := .ref C, dict := some dx, data := .fields #[.ref t1, .none, .none, .none, .bool false, .none] }
  dbig : h.objs.size ≤ dx
  dne : dx ≠ x
  ns : h2.Ns1 dx (fun y => if y = "why" then some v else none)
structure ErrMade (h h2 : Heap) (e C d : Addr) (v : Value) : Prop where
  keep : ∀ b o, h.get? b = some o → h2.get? b = some o
  new : h.objs.size ≤ e
  obj : ∃ oe vs, h2.get? e = some oe ∧ oe.cls = .ref C ∧ oe.dict = some d ∧ oe.data = .fields vs ∧ vs[1]? = some .none
  dbig : h.objs.size ≤ d
  dne : d ≠ e
  ns : h2.Ns1 d (fun y => if y = "why" then some v else none)
section
variable {prog : Program} {w : World} {A : Around} {E : Value → Shared → Prop} {R : Result → Shared → Prop} {s : Shared} {K : Frag} {mg : Str → Option Value} {C fI : Addr}
theorem err_init (T : Err K mg C fI) {x t0 : Addr} {v : Value} (X : K.In s.heap) (hlim : s.heap.NoLimit) (hx : s.heap.get? x = some (excO C t0)) (hroom : A.depth < recursionLimit)
    (hq : ∀ h2 tk dx, InitLeft s.heap h2 x C dx t0 v → R (.ok (.ret .none)) { s with heap := h2, toks := tk }) :
    codeAny (model prog w) A (.call (.ref fI) ⟨[.ref x, v], []⟩) R s := by
  obtain ⟨oc, od, doc, pm, an, cdv, ct, osl, p1, p2, q1, q2, q3, q4, sc, ho, hcd, hk, hnames, hge, hco⟩ := T.fn
  obtain ⟨nm', q, N, bs, bm, sn, sub, ab, col, dd, k0, k1, k2, k3, k5, hC, hbm⟩ := T.cls
  have hcl : clsIn K C = some { name := nm', bases := bs, mro := .ref C :: bm, ns := N, qualname := q, hasDict := true, slotNames := sn, subclasses := sub, abstract := ab, collection := col, hasDel := false } := by unfold clsIn; rw [hC] <;> rfl
  have l1 : sc.names.lookup ("self" : Str) = some .local := by rw [hnames]; decide +kernel
  have l2 : sc.names.lookup ("why" : Str) = some .local := by rw [hnames]; decide +kernel
  refine Att.call_fn (binds := [("self", .ref x), ("why", v)]) X hlim ho hcd hroom (BindsTo.of_eq (by first | rfl | with_unfolding_all rfl)) (by rw [List.all_cons, List.all_cons, l1, l2]; rfl) (fun s₁ IC => ?_) hco hge hk
  obtain ⟨h₁, tk₁, rfl⟩ := IC.toInCall.same
  have k : ∀ b o, s.heap.get? b = some o → h₁.get? b = some o := IC.toInCall.keep
  have hn := IC.toInCall.ns
  have X₁ : K.In h₁ := X.keeps k
  have hx₁ := k _ _ hx
  have b1 : (bindL (envOfC "BadTest.__init__" sc s.heap.objs.size fI cdv).kindOf [("self", .ref x), ("why", v)] fun _ => none) ("self" : Str) = some (.ref x) :=
    L2.bindL_get (P := ["self", "why"]) (vs := [.ref x, v]) (i := 0) (by decide +kernel) rfl rfl l1
  have b2 : (bindL (envOfC "BadTest.__init__" sc s.heap.objs.size fI cdv).kindOf [("self", .ref x), ("why", v)] fun _ => none) ("why" : Str) = some v :=
    L2.bindL_get (P := ["self", "why"]) (vs := [.ref x, v]) (i := 1) (by decide +kernel) rfl rfl l2
  show wpAny _ _ (execs _ _) _ _ _
  refine wpAny_execs_cons (plainObj_wpAny_Assign_Attribute ?_)
  refine read_local (v := v) hn b2 (read_local (v := .ref x) hn b1 ?_ hk l1) hk l2
  refine set_plain X₁ (ox := excO C t0) (od := none) ⟨hx₁, rfl, rfl, trivial⟩ T.sa ?_
  refine setattr_first X₁ hx₁ hcl (.own C hbm) rfl T.noF (fun h₃ tk₃ dx k₃ dn dne hx₃ hn₃ => ?_)
  show wpAny _ _ (execs _ _) _ _ _
  have z : s.heap.objs.size < h₁.objs.size := hn.lt
  exact wpAny_execs_nil (hq h₃ tk₃ dx ⟨fun b o hb e => k₃ b o hb (k b o e), hx₃, Nat.le_of_lt (Nat.lt_of_lt_of_le z dn), dne, hn₃⟩)
theorem err_made (T : Err K mg C fI) {v : Value} (X : K.In s.heap) (hlim : s.heap.NoLimit) (hroom : A.depth + 1 < recursionLimit)
    (hq : ∀ h2 tk e d, ErrMade s.heap h2 e C d v → R (.ok (.ret (.ref e))) { s with heap := h2, toks := tk }) :
    codeAny (model prog w) A (.call (.ref C) ⟨[v], []⟩) R s := by
  obtain ⟨nm', q, N, bs, bm, sn, sub, ab, col, dd, k0, k1, k2, k3, k5, hC, hbm⟩ := T.cls
  obtain ⟨hp, g, dr, tk, os⟩ := s
  have k : ∀ b o, hp.get? b = some o → ((hp.push (kdv_tup [v])).push (excO C hp.objs.size)).get? b = some o := fun b o e => Heap.get?_push_of_some _ (Heap.get?_push_of_some _ e)
  have hget : ((hp.push (kdv_tup [v])).push (excO C hp.objs.size)).get? (hp.objs.size + 1) = some (excO C hp.objs.size) := by heap_get
  refine call_own F.excBase_Exception (fun X => hbm.has X) (X _ _ hC) (looks_findIn X T.ini) (fun self => bind_fn X self T.tyI) (one_ok v) ?_
  refine err_init (s := ⟨(hp.push (kdv_tup [v])).push (excO C hp.objs.size), g, dr, tk, os⟩) T (X.keeps k) (hlim.keeps k) hget ?_ fun h2 tk2 dx ⟨k', hx, dn, dne, hns⟩ => ?_
  · show A.depth + 1 < recursionLimit
    exact hroom
  · have old : ∀ b o, hp.get? b = some o → h2.get? b = some o := fun b o e => k' b o (Nat.ne_of_lt (Nat.lt_succ_of_lt (Heap.lt_size e))) (k b o e)
    have z : hp.objs.size + 1 + 1 ≤ dx := by
      first
        | (simpa only [Heap.size_push] using dn)
        | exact dn
        | (have q := dn; rw [Heap.size_push, Heap.size_push] at q; exact q)
    exact ⟨rfl, hq h2 tk2 (hp.objs.size + 1) dx ⟨old, Nat.le_succ _, ⟨_, _, hx, rfl, rfl, rfl, rfl⟩, Nat.le_trans (Nat.le_trans (Nat.le_succ _) (Nat.le_succ _)) z, dne, hns⟩⟩
end
end ErBadTest
end PySem
namespace Tw
open PySem L2
theorem relO_BadTest {v : V} {v' : Value} (r : RelV v v') (f : Str) : RelO (List.lookup f [(("why" : Str), v)]) (if f = "why" then some v' else none) := by
  by_cases hw : f = "why"
  · subst hw
    rw [if_pos rfl]
    have q : List.lookup ("why" : Str) [(("why" : Str), v)] = some v := by simp [List.lookup]
    rw [q]
    exact r
  · rw [if_neg hw]
    have qw : (f == ("why" : Str)) = false := by simpa using hw
    have q2 : List.lookup f [(("why" : Str), v)] = none := by simp [List.lookup, qw]
    rw [q2]
    trivial
section
variable {X : Cx} {C fI : Addr}
def tMkBadTest (C : Addr) (ta : TA) : L2.St → Hp → XK → Prop := fun σ H Q => ta σ H fun vs H1 => ∃ v, vs = [v] ∧ ∀ d, H1 d = none → Q (.ref C) (some d) (upd H1 d (.xd [(("why" : Str), v)]))
theorem pmk_BadTest {a : Expr} {ta : TA} {p pos : Pos} {k : Nat} (T : PySem.ErBadTest.Err X.K X.mg C fI) (hr : Room k X.A) (ha : PA X [a] ta) (hg : Gl X "BadTest" := by rfl)
    (he : starEach (a :: []) X.env = (false, eval a X.env) :: starEach [] X.env := by rfl) (hpl : (backTo pos (starEach [] X.env)).any (·.1) = false := by rfl) :
    PMk X (.Call (.Name "BadTest" p) [a] [] pos) (tMkBadTest C ta) := by
  intro pins s σ H Q I h
  refine wpAny_Call_Name_kw (ld_glob I hg T.gC ?_)
  refine PySem.W.callWith_K (h₀ := X.base) I.ok.mod.kin T.kC (thn (ha.run pos pins s σ H _ I h) fun us s1 hh => ?_) he hpl
  obtain ⟨vs, H1, I1, r1, v, ev, q1⟩ := hh
  subst ev
  refine ⟨I1.kIn, ?_⟩
  cases r1 with
  | cons rv rn =>
    rename_i v' us'
    cases rn
    show wpAny _ _ (call (.ref C) [v']) _ _ _
    have hlim := I1.nolimit
    obtain ⟨hp, g, dr, tk, os⟩ := s1
    refine wpAny_call (PySem.ErBadTest.err_made T I1.kIn hlim (by have := hr.dp; omega) fun h' tk' e d M => ?_)
    show MkP X pins σ Q (.ref e) ⟨h', g, dr, tk', os⟩
    obtain ⟨oe, fv, hoe, hc, hd, hdat, h1⟩ := M.obj
    have hns := M.ns
    obtain ⟨G', g1, g2⟩ := restrict h' fun b => decide (b ≠ e)
    have gk : ∀ b, b ≠ e → G'.get? b = h'.get? b := fun b hb => g1 b (decide_eq_true hb)
    have ge : G'.get? e = none := g2 e (by simp)
    have old : ∀ b o, hp.get? b = some o → G'.get? b = some o := fun b o q => (gk b (Nat.ne_of_lt (Nat.lt_of_lt_of_le (Heap.lt_size q) M.new))).trans (M.keep b o q)
    have ob : ObjOk X.prog X.w (upd H1 d (.xd [(("why" : Str), v)])) G' d (.xd [(("why" : Str), v)]) :=
      ⟨_, hns.at (fun o q => (gk d M.dne).trans q), fun f => relO_BadTest rv f⟩
    have J : Inv X pins σ (upd H1 d (.xd [(("why" : Str), v)])) ⟨G', g, dr, tk', os⟩ := I1.laid (t' := tk') old M.dbig ob
    refine ⟨e, oe, fv, ⟨G', g, dr, tk', os⟩, _, .ref C, some d, rfl, J, fun b o q => ?_, ge, hoe, ⟨hc, hd⟩, hdat, h1, ?_, rfl, I1.bare, raises_own T.exC T.tyC, q1 d (I1.hok.fresh M.dbig)⟩
    · by_cases hb : b = e
      · have q' : G'.get? b = some o := q
        rw [hb, ge] at q'; cases q'
      · exact (gk b hb).symm.trans q
    · rw [upd_ne (Ne.symm M.dne)]
      exact I1.hok.fresh M.new
def tRaiseBadTest (C : Addr) (W : WX) (ta : TA) : TS := fun _ σ H => tMkBadTest C ta σ H fun cls d H' => W cls d σ H'
theorem ps_raiseBadTest {a : Expr} {ta : TA} {W : WX} {p pos pos2 : Pos} {k : Nat} (hc : X.calm = true) (T : PySem.ErBadTest.Err X.K X.mg C fI) (hr : Room k X.A) (tk : Takes X W) (ha : PA X [a] ta) (hg : Gl X "BadTest" := by rfl)
    (he : starEach (a :: []) X.env = (false, eval a X.env) :: starEach [] X.env := by rfl) (hpl : (backTo pos (starEach [] X.env)).any (·.1) = false := by rfl) :
    PS X (.Raise (some (.Call (.Name "BadTest" p) [a] [] pos)) none pos2) (tRaiseBadTest C W ta) := ps_raise hc tk (pmk_BadTest T hr ha hg he hpl)
def tByBadTest (C : Addr) (a : Addr) (cls : Value) (d : Option Addr) (te : TE) : TE := fun σ H Q => te σ H fun x H1 => x = .ref a ∧ cls = .ref C ∧ ∃ (dd : Addr) (v : V), d = some dd ∧ H1 dd = some (.xd [(("why" : Str), v)]) ∧ Q v H1
theorem pe_byBadTest {a : Addr} {oe : Obj} {cls : Value} {d : Option Addr} {pn : List (Addr × Obj)} {e : Expr} {te : TE} {pos : Pos} (T : PySem.ErBadTest.Err X.K X.mg C fI) (hz : Zc cls d oe) (hf : ∃ vs, oe.data = .fields vs) (he : PE (X.suite a ((a, oe) :: pn)) e te)
    (hb : attributeBase e "why" X.env (eval e X.env) = eval e X.env := by rfl) :
    PE (X.suite a ((a, oe) :: pn)) (.Attribute e "why" pos) (tByBadTest C a cls d te) := by
  refine ⟨fun pins s σ H Q I h => ?_⟩
  refine attr_of hb (thn (he.run pins s σ H _ I h) fun u s1 hh => ?_)
  obtain ⟨x, H1, I1, rx, ex, ec, dd, v, ed, ea, q⟩ := hh
  subst ex
  obtain rfl : u = Value.ref a := rx
  subst ec
  subst ed
  obtain ⟨ha, _⟩ := I1.pin (a, oe) (List.mem_append_left _ List.mem_cons_self)
  obtain ⟨vs, hd⟩ := hf
  have hx : ObjOk X.prog X.w H1 s1.heap dd (.xd [(("why" : Str), v)]) := I1.hok dd _ ea
  obtain ⟨mA, hns, hr⟩ := hx
  obtain ⟨od, ho, hl⟩ := lookIn_ns hns
  have l : List.lookup ("why" : Str) [(("why" : Str), v)] = some v := by simp [List.lookup]
  obtain ⟨u, hu, ru⟩ := RelO.some_of (v := v) (o := mA "why") (by rw [← l]; exact hr "why")
  have J : PySem.W.InstAt s1.heap a oe C (some od) := ⟨ha, hz.1, by unfold PySem.W.notCls; rw [hd] <;> rfl, by rw [hz.2]; exact ho⟩
  exact HandSPX.exc_get I1.kIn J T.ga T.gg T.exC (PySem.W.findObj_own T.hdC T.noF rfl (by rw [hl, hu])) (handed_of ru) ⟨v, H1, I1.tok _, ru, q⟩
end
end Tw

set_option Elab.async false
set_option linter.all false
set_option maxRecDepth 100000
set_option maxHeartbeats 4000000
namespace PySem
namespace ErBadRow
open PySem.W PySem.Calls PyProof.Rows PySem.HandSPX PySem.TwX
def inA (p1 p2 : Pos) : Arguments := { posonlyargs := [], args := [{ arg := "self", annotation := none, pos := p1 }, { arg := "column", annotation := none, pos := p2 }], vararg := none, kwonlyargs := [], kw_defaults := [], kwarg := none, defaults := [] }
def inB (q1 q2 q3 q4 : Pos) : List Stmt := [.Assign [.Attribute (.Name "self" q1) "column" q2] (.Name "column" q3) q4]
/-- what the written part says of the class at C, and of its __init__ at fI -/
structure Err (K : Frag) (mg : Str → Option Value) (C fI : Addr) : Prop where
  gC : mg "BadRow" = some (.ref C)
  cls : ∃ nm q N bs bm sn sub ab col dd k0 k1 k2 k3 k5, K.lookup C = some (excClassObj nm q C N bs bm true sn sub ab col dd k0 k1 k2 k3 k5 "Exception.__new__") ∧ OwnEx bm
  sa : findIn K (.ref C) "__setattr__" = some (some (.builtin "object.__setattr__"))
  ga : findIn K (.ref C) "__getattribute__" = some (some (.builtin "BaseException.__getattribute__"))
  gg : findIn K (.ref C) "__getattr__" = some none
  noF : findIn K (.ref C) "column" = some none
  ini : findIn K (.ref C) "__init__" = some (some (.ref fI))
  tyI : typeIn K (.ref fI) = some (.type "function")
  kC : keepIn K (.ref C) = true
  exC : subIn K (.ref C) (.type "BaseException") = some true
  tyC : typeIn K (.ref C) = some (.type "type")
  hdC : hasDictIn K C = true
  te : exmOne K (.ref C) (.ref C) = some true
  fn : ∃ (oc : Value) (od : Option Addr) (doc pm : Value) (an : Option Addr) (cdv ct : Value) (osl : Array (Option Value)) (p1 p2 q1 q2 q3 q4 : Pos) (sc : Scope),
    K.lookup fI = some ⟨oc, od, .func (fnOf "__init__" "BadRow.__init__" (inA p1 p2) (inB q1 q2 q3 q4) sc .none .none doc pm an cdv ct), osl⟩ ∧ codeIn K cdv "BadRow.__init__" = true ∧ sc.kind = .function ∧ sc.names = [(PySem.Str.ofString "self", .local), (PySem.Str.ofString "column", .local)] ∧ sc.isGenerator = false ∧ sc.isCoroutine = false
theorem one_ok (v : Value) : [v].length ≤ sizeLine := by rw [sizeLine_eq]; exact (by decide : 1 ≤ 16777216)
theorem read_local {M : Model} {s : Shared} {name : Str} {scope : Scope} {L a : Addr} {cd : Value} {m : Str → Option Value} {x : Str} {pos : Pos} {v : Value} {Q : Value → Shared → Prop} {A : Around} {E : Value → Shared → Prop} (hn : s.heap.Ns L m) (hv : m x = some v) (h : Q v s) (hk : scope.kind = .function)
    (hl : scope.names.lookup x = some .local) (hd : (x == ("__debug__" : Str)) = false := by decide) : wpAny M A (eval (.Name x pos) (envOfC name scope L a cd)) Q E s := wpAny_Name (wpAny_loadName_local hk hl hn hv h) hd
structure InitLeft (h h2 : Heap) (x C dx t1 : Addr) (v : Value) : Prop where
  keep : ∀ b o, b ≠ x → h.get? b = some o → h2.get? b = some o
  obj : h2.get? x = some { cls := .ref C, dict := some dx, data := .fields #[.ref t1, .none, .none, .none, .bool false, .none] }
  dbig : h.objs.size ≤ dx
  dne : dx ≠ x
  ns : h2.Ns1 dx (fun y => if y = "column" then some v else none)
structure ErrMade (h h2 : Heap) (e C d : Addr) (v : Value) : Prop where
  keep : ∀ b o, h.get? b = some o → h2.get? b = some o
  new : h.objs.size ≤ e
  obj : ∃ oe vs, h2.get? e = some oe ∧ oe.cls = .ref C ∧ oe.dict = some d ∧ oe.data = .fields vs ∧ vs[1]? = some .none
  dbig : h.objs.size ≤ d
  dne : d ≠ e
  ns : h2.Ns1 d (fun y => if y = "column" then some v else none)
section
variable {prog : Program} {w : World} {A : Around} {E : Value → Shared → Prop} {R : Result → Shared → Prop} {s : Shared} {K : Frag} {mg : Str → Option Value} {C fI : Addr}
theorem err_init (T : Err K mg C fI) {x t0 : Addr} {v : Value} (X : K.In s.heap) (hlim : s.heap.NoLimit) (hx : s.heap.get? x = some (excO C t0)) (hroom : A.depth < recursionLimit)
    (hq : ∀ h2 tk dx, InitLeft s.heap h2 x C dx t0 v → R (.ok (.ret .none)) { s with heap := h2, toks := tk }) :
    codeAny (model prog w) A (.call (.ref fI) ⟨[.ref x, v], []⟩) R s := by
  obtain ⟨oc, od, doc, pm, an, cdv, ct, osl, p1, p2, q1, q2, q3, q4, sc, ho, hcd, hk, hnames, hge, hco⟩ := T.fn
  obtain ⟨nm', q, N, bs, bm, sn, sub, ab, col, dd, k0, k1, k2, k3, k5, hC, hbm⟩ := T.cls
  have hcl : clsIn K C = some { name := nm', bases := bs, mro := .ref C :: bm, ns := N, qualname := q, hasDict := true, slotNames := sn, subclasses := sub, abstract := ab, collection := col, hasDel := false } := by unfold clsIn; rw [hC] <;> rfl
  have l1 : sc.names.lookup ("self" : Str) = some .local := by rw [hnames]; decide +kernel
  have l2 : sc.names.lookup ("column" : Str) = some .local := by rw [hnames]; decide +kernel
  refine Att.call_fn (binds := [("self", .ref x), ("column", v)]) X hlim ho hcd hroom (BindsTo.of_eq (by first | rfl | with_unfolding_all rfl)) (by rw [List.all_cons, List.all_cons, l1, l2]; rfl) (fun s₁ IC => ?_) hco hge hk
  obtain ⟨h₁, tk₁, rfl⟩ := IC.toInCall.same
  have k : ∀ b o, s.heap.get? b = some o → h₁.get? b = some o := IC.toInCall.keep
  have hn := IC.toInCall.ns
  have X₁ : K.In h₁ := X.keeps k
  have hx₁ := k _ _ hx
  have b1 : (bindL (envOfC "BadRow.__init__" sc s.heap.objs.size fI cdv).kindOf [("self", .ref x), ("column", v)] fun _ => none) ("self" : Str) = some (.ref x) :=
    L2.bindL_get (P := ["self", "column"]) (vs := [.ref x, v]) (i := 0) (by decide +kernel) rfl rfl l1
  have b2 : (bindL (envOfC "BadRow.__init__" sc s.heap.objs.size fI cdv).kindOf [("self", .ref x), ("column", v)] fun _ => none) ("column" : Str) = some v :=
    L2.bindL_get (P := ["self", "column"]) (vs := [.ref x, v]) (i := 1) (by decide +kernel) rfl rfl l2
  show wpAny _ _ (execs _ _) _ _ _
  refine wpAny_execs_cons (plainObj_wpAny_Assign_Attribute ?_)
  refine read_local (v := v) hn b2 (read_local (v := .ref x) hn b1 ?_ hk l1) hk l2
  refine set_plain X₁ (ox := excO C t0) (od := none) ⟨hx₁, rfl, rfl, trivial⟩ T.sa ?_
  refine setattr_first X₁ hx₁ hcl (.own C hbm) rfl T.noF (fun h₃ tk₃ dx k₃ dn dne hx₃ hn₃ => ?_)
  show wpAny _ _ (execs _ _) _ _ _
  have z : s.heap.objs.size < h₁.objs.size := hn.lt
  exact wpAny_execs_nil (hq h₃ tk₃ dx ⟨fun b o hb e => k₃ b o hb (k b o e), hx₃, Nat.le_of_lt (Nat.lt_of_lt_of_le z dn), dne, hn₃⟩)
theorem err_made (T : Err K mg C fI) {v : Value} (X : K.In s.heap) (hlim : s.heap.NoLimit) (hroom : A.depth + 1 < recursionLimit)
    (hq : ∀ h2 tk e d, ErrMade s.heap h2 e C d v → R (.ok (.ret (.ref e))) { s with heap := h2, toks := tk }) :
    codeAny (model prog w) A (.call (.ref C) ⟨[v], []⟩) R s := by
  obtain ⟨nm', q, N, bs, bm, sn, sub, ab, col, dd, k0, k1, k2, k3, k5, hC, hbm⟩ := T.cls
  obtain ⟨hp, g, dr, tk, os⟩ := s
  have k : ∀ b o, hp.get? b = some o → ((hp.push (kdv_tup [v])).push (excO C hp.objs.size)).get? b = some o := fun b o e => Heap.get?_push_of_some _ (Heap.get?_push_of_some _ e)
  have hget : ((hp.push (kdv_tup [v])).push (excO C hp.objs.size)).get? (hp.objs.size + 1) = some (excO C hp.objs.size) := by heap_get
  refine call_own F.excBase_Exception (fun X => hbm.has X) (X _ _ hC) (looks_findIn X T.ini) (fun self => bind_fn X self T.tyI) (one_ok v) ?_
  refine err_init (s := ⟨(hp.push (kdv_tup [v])).push (excO C hp.objs.size), g, dr, tk, os⟩) T (X.keeps k) (hlim.keeps k) hget ?_ fun h2 tk2 dx ⟨k', hx, dn, dne, hns⟩ => ?_
  · show A.depth + 1 < recursionLimit
    exact hroom
  · have old : ∀ b o, hp.get? b = some o → h2.get? b = some o := fun b o e => k' b o (Nat.ne_of_lt (Nat.lt_succ_of_lt (Heap.lt_size e))) (k b o e)
    have z : hp.objs.size + 1 + 1 ≤ dx := by
      first
        | (simpa only [Heap.size_push] using dn)
        | exact dn
        | (have q := dn; rw [Heap.size_push, Heap.size_push] at q; exact q)
    exact ⟨rfl, hq h2 tk2 (hp.objs.size + 1) dx ⟨old, Nat.le_succ _, ⟨_, _, hx, rfl, rfl, rfl, rfl⟩, Nat.le_trans (Nat.le_trans (Nat.le_succ _) (Nat.le_succ _)) z, dne, hns⟩⟩
end
end ErBadRow
end PySem
namespace Tw
open PySem L2
theorem relO_BadRow {v : V} {v' : Value} (r : RelV v v') (f : Str) : RelO (List.lookup f [(("column" : Str), v)]) (if f = "column" then some v' else none) := by
  by_cases hw : f = "column"
  · subst hw
    rw [if_pos rfl]
    have q : List.lookup ("column" : Str) [(("column" : Str), v)] = some v := by simp [List.lookup]
    rw [q]
    exact r
  · rw [if_neg hw]
    have qw : (f == ("column" : Str)) = false := by simpa using hw
    have q2 : List.lookup f [(("column" : Str), v)] = none := by simp [List.lookup, qw]
    rw [q2]
    trivial
section
variable {X : Cx} {C fI : Addr}
def tMkBadRow (C : Addr) (ta : TA) : L2.St → Hp → XK → Prop := fun σ H Q => ta σ H fun vs H1 => ∃ v, vs = [v] ∧ ∀ d, H1 d = none → Q (.ref C) (some d) (upd H1 d (.xd [(("column" : Str), v)]))
theorem pmk_BadRow {a : Expr} {ta : TA} {p pos : Pos} {k : Nat} (T : PySem.ErBadRow.Err X.K X.mg C fI) (hr : Room k X.A) (ha : PA X [a] ta) (hg : Gl X "BadRow" := by rfl)
    (he : starEach (a :: []) X.env = (false, eval a X.env) :: starEach [] X.env := by rfl) (hpl : (backTo pos (starEach [] X.env)).any (·.1) = false := by rfl) :
    PMk X (.Call (.Name "BadRow" p) [a] [] pos) (tMkBadRow C ta) := by
  intro pins s σ H Q I h
  refine wpAny_Call_Name_kw (ld_glob I hg T.gC ?_)
  refine PySem.W.callWith_K (h₀ := X.base) I.ok.mod.kin T.kC (thn (ha.run pos pins s σ H _ I h) fun us s1 hh => ?_) he hpl
  obtain ⟨vs, H1, I1, r1, v, ev, q1⟩ := hh
  subst ev
  refine ⟨I1.kIn, ?_⟩
  cases r1 with
  | cons rv rn =>
    rename_i v' us'
    cases rn
    show wpAny _ _ (call (.ref C) [v']) _ _ _
    have hlim := I1.nolimit
    obtain ⟨hp, g, dr, tk, os⟩ := s1
    refine wpAny_call (PySem.ErBadRow.err_made T I1.kIn hlim (by have := hr.dp; omega) fun h' tk' e d M => ?_)
    show MkP X pins σ Q (.ref e) ⟨h', g, dr, tk', os⟩
    obtain ⟨oe, fv, hoe, hc, hd, hdat, h1⟩ := M.obj
    have hns := M.ns
    obtain ⟨G', g1, g2⟩ := restrict h' fun b => decide (b ≠ e)
    have gk : ∀ b, b ≠ e → G'.get? b = h'.get? b := fun b hb => g1 b (decide_eq_true hb)
    have ge : G'.get? e = none := g2 e (by simp)
    have old : ∀ b o, hp.get? b = some o → G'.get? b = some o := fun b o q => (gk b (Nat.ne_of_lt (Nat.lt_of_lt_of_le (Heap.lt_size q) M.new))).trans (M.keep b o q)
    have ob : ObjOk X.prog X.w (upd H1 d (.xd [(("column" : Str), v)])) G' d (.xd [(("column" : Str), v)]) :=
      ⟨_, hns.at (fun o q => (gk d M.dne).trans q), fun f => relO_BadRow rv f⟩
    have J : Inv X pins σ (upd H1 d (.xd [(("column" : Str), v)])) ⟨G', g, dr, tk', os⟩ := I1.laid (t' := tk') old M.dbig ob
    refine ⟨e, oe, fv, ⟨G', g, dr, tk', os⟩, _, .ref C, some d, rfl, J, fun b o q => ?_, ge, hoe, ⟨hc, hd⟩, hdat, h1, ?_, rfl, I1.bare, raises_own T.exC T.tyC, q1 d (I1.hok.fresh M.dbig)⟩
    · by_cases hb : b = e
      · have q' : G'.get? b = some o := q
        rw [hb, ge] at q'; cases q'
      · exact (gk b hb).symm.trans q
    · rw [upd_ne (Ne.symm M.dne)]
      exact I1.hok.fresh M.new
def tRaiseBadRow (C : Addr) (W : WX) (ta : TA) : TS := fun _ σ H => tMkBadRow C ta σ H fun cls d H' => W cls d σ H'
theorem ps_raiseBadRow {a : Expr} {ta : TA} {W : WX} {p pos pos2 : Pos} {k : Nat} (hc : X.calm = true) (T : PySem.ErBadRow.Err X.K X.mg C fI) (hr : Room k X.A) (tk : Takes X W) (ha : PA X [a] ta) (hg : Gl X "BadRow" := by rfl)
    (he : starEach (a :: []) X.env = (false, eval a X.env) :: starEach [] X.env := by rfl) (hpl : (backTo pos (starEach [] X.env)).any (·.1) = false := by rfl) :
    PS X (.Raise (some (.Call (.Name "BadRow" p) [a] [] pos)) none pos2) (tRaiseBadRow C W ta) := ps_raise hc tk (pmk_BadRow T hr ha hg he hpl)
def tByBadRow (C : Addr) (a : Addr) (cls : Value) (d : Option Addr) (te : TE) : TE := fun σ H Q => te σ H fun x H1 => x = .ref a ∧ cls = .ref C ∧ ∃ (dd : Addr) (v : V), d = some dd ∧ H1 dd = some (.xd [(("column" : Str), v)]) ∧ Q v H1
theorem pe_byBadRow {a : Addr} {oe : Obj} {cls : Value} {d : Option Addr} {pn : List (Addr × Obj)} {e : Expr} {te : TE} {pos : Pos} (T : PySem.ErBadRow.Err X.K X.mg C fI) (hz : Zc cls d oe) (hf : ∃ vs, oe.data = .fields vs) (he : PE (X.suite a ((a, oe) :: pn)) e te)
    (hb : attributeBase e "column" X.env (eval e X.env) = eval e X.env := by rfl) :
    PE (X.suite a ((a, oe) :: pn)) (.Attribute e "column" pos) (tByBadRow C a cls d te) := by
  refine ⟨fun pins s σ H Q I h => ?_⟩
  refine attr_of hb (thn (he.run pins s σ H _ I h) fun u s1 hh => ?_)
  obtain ⟨x, H1, I1, rx, ex, ec, dd, v, ed, ea, q⟩ := hh
  subst ex
  obtain rfl : u = Value.ref a := rx
  subst ec
  subst ed
  obtain ⟨ha, _⟩ := I1.pin (a, oe) (List.mem_append_left _ List.mem_cons_self)
  obtain ⟨vs, hd⟩ := hf
  have hx : ObjOk X.prog X.w H1 s1.heap dd (.xd [(("column" : Str), v)]) := I1.hok dd _ ea
  obtain ⟨mA, hns, hr⟩ := hx
  obtain ⟨od, ho, hl⟩ := lookIn_ns hns
  have l : List.lookup ("column" : Str) [(("column" : Str), v)] = some v := by simp [List.lookup]
  obtain ⟨u, hu, ru⟩ := RelO.some_of (v := v) (o := mA "column") (by rw [← l]; exact hr "column")
  have J : PySem.W.InstAt s1.heap a oe C (some od) := ⟨ha, hz.1, by unfold PySem.W.notCls; rw [hd] <;> rfl, by rw [hz.2]; exact ho⟩
  exact HandSPX.exc_get I1.kIn J T.ga T.gg T.exC (PySem.W.findObj_own T.hdC T.noF rfl (by rw [hl, hu])) (handed_of ru) ⟨v, H1, I1.tok _, ru, q⟩
end
end Tw

set_option Elab.async false
set_option linter.all false
set_option maxRecDepth 100000
/-! == and != by an own __eq__, whatever it answers; len by an own __len__; == of nested tuples and lists -/
namespace Tw
open PySem PySem.Spec PySem.Calls PyProof.Rows PySem.W
theorem ne_slot : Slot "object" ("__ne__" : Str) "object.__ne__" := .of (owner := "object") (n := "__ne__") (by rw [typeLookup_type, builtinLookup_eq_fast]; kernel_rfl) (by decide +kernel) (by decide +kernel) (by decide +kernel)
  (.inl (by decide +kernel)) (by rw [isSubtype_type]; kernel_rfl)
section
variable {prog : Program} {w : World} {A : Around} {E : Value → Shared → Prop} {s : Shared} {K : Frag} {x C L f : Addr} {h₀ : Heap} {m : Str → Option Value} {ox : Obj} {od : Option Obj} {b tb : Value}
/-- a != b by the class's own __eq__, turned -/
theorem ne_by_eq {R : Value → Shared → Prop} (room : A.units + 1 < cLine) (fr : Fr h₀ L s.heap m) (k0 : K.In h₀) (inst : InstAt s.heap x ox C od) (tyb : Looks (model prog w) s.heap (typeOf b) tb) (nf : notFirst K C tb = true)
    (ne : findIn K (.ref C) "__ne__" = some (some (.builtin "object.__ne__"))) (ob : subIn K (.ref C) (.type "object") = some true)
    (eq : findIn K (.ref C) "__eq__" = some (some (.ref f))) (isf : isFn K (.ref f) = true)
    (h : wpAny (model prog w) A.in1 (call (.ref f) [.ref x, b]) (fun v t => ∃ r, v = .bool r ∧ R (.bool (!r)) t) E s) : wpAny (model prog w) A (richCompare .NotEq (.ref x) b) R E s := by
  have kin := k0.keeps fr.keep
  have body : wpAny (model prog w) A.in1 (Builtin.«object.__ne__» ⟨[.ref x, b], []⟩) (fun fin t => match fin with
      | .done r => wants (fun v t => v ≠ .notImplemented ∧ R v t) E (.ok r) t
      | .again c => c.quiet = true ∧ codeAny (model prog w) A c (wants (fun v t => v ≠ .notImplemented ∧ R v t) E) t) (fun e t => wants (fun v t => v ≠ .notImplemented ∧ R v t) E (.error e) t) s := by
    unfold Builtin.«object.__ne__»
    refine wpAny_bind (wpAny_pure ?_)
    refine wpAny_bind (wpAny_cRoomFor (show A.units + 1 < cLine from room) ?_)
    refine wpAny_bind (ifBound_K kin inst eq isf (wpAny_mono h (fun v t hv => ?_) fun _ _ e => e))
    obtain ⟨r, rfl, q⟩ := hv
    refine wpAny_bind (wpAny_truthy_bool ?_)
    exact wpAny_pure ⟨(fun z => nomatch z), q⟩
  have asked : wpAny (model prog w) A (tryCompare (.ref x) "__ne__" b) (fun r t => ∃ v, r = some v ∧ R v t) E s := by
    unfold tryCompare
    simp only [callSpecialIfBound?, bindSpecialIfBound?]
    have called : wpAny (model prog w) A (call (.builtin "object.__ne__") ([.ref x] ++ [b]) >>= fun v => pure (some v)) (fun r t => ∃ v, r = some v ∧ v ≠ .notImplemented ∧ R v t) E s := by
      refine wpAny_bind (wpAny_mono (wpAny_call (codeAny_call_builtin (R := wants (fun v t => v ≠ .notImplemented ∧ R v t) E) ne_slot.plain F.cmpEntry_ne (check_slot F.cmpKind_ne F.cmpSplit_ne (inst.type.andThen (looks_subIn kin ob)) (F.cmpArgs_ne _ _) body))) (fun v t hv => wpAny_pure ⟨v, rfl, hv⟩) fun _ _ e => e)
    have back : ∀ (r : Option Value) (t : Shared), (∃ v, r = some v ∧ v ≠ .notImplemented ∧ R v t) → wpAny (model prog w) A (match r with | some .notImplemented | none => pure none | some v => pure (some v)) (fun r t => ∃ v, r = some v ∧ R v t) E t := by
      rintro r t ⟨v, rfl, hn, q⟩
      cases v <;> first | exact absurd rfl hn | exact wpAny_pure ⟨_, rfl, q⟩
    refine wpAny_bind (wpAny_holding (wpAny_bind (wpAny_bind (wpAny_bind (inst.type.here ((looks_findIn kin ne).here ?_))))))
    refine wpAny_bind (wpAny_askSetting (wpAny_ite ?_))
    simp only [ne_slot.bind]
    split
    · refine wpAny_bind (wpAny_pure (wpAny_pure ?_))
      exact wpAny_mono called back fun _ _ e => e
    · refine wpAny_tryCatch (wpAny_bind (wpAny_pure (wpAny_pure ?_)))
      exact wpAny_mono called back fun _ _ e => e
  unfold richCompare
  simp only [oneThing_ref]
  refine wpAny_holding (wpAny_bind (wpAny_cRoomFor (by omega) (wpAny_bind (inst.type.here (wpAny_bind (tyb.here ?_))))))
  have rest : ∀ {t : Shared}, t = s → wpAny (model prog w) A (tryCompare (.ref x) "__ne__" b) (fun r t => ∃ v, r = some v ∧ R v t) E t := fun e => e ▸ asked
  split
  · rename_i diff
    have no : subIn K tb (.ref C) = some false := (Bool.or_eq_true_iff.mp nf).elim (fun z => by rw [beq_iff_eq.mp z] at diff; simp at diff) fun z => beq_iff_eq.mp z
    refine wpAny_bind ((looks_subIn kin no).here ?_)
    simp only [Bool.false_eq_true, if_false]
    exact wpAny_bind (wpAny_mono asked (fun r t ⟨v, hv, q⟩ => by subst hv; exact wpAny_pure q) fun _ _ e => e)
  · refine wpAny_bind (wpAny_pure ?_)
    simp only [Bool.false_eq_true, if_false]
    exact wpAny_bind (wpAny_mono asked (fun r t ⟨v, hv, q⟩ => by subst hv; exact wpAny_pure q) fun _ _ e => e)
end
end Tw

namespace Tw
open PySem L2 PySem.Spec PyProof.Rows
section
variable {X : Cx} {k j : Nat} {C : Addr} {ps : List Str} {sp : Sp}
/-- what stands on the right of an own == -/
def Beside (K : PySem.W.Frag) (C : Addr) (H : Hp) (y : V) : Prop := (∃ (b dy : Addr) (gs : List (Str × V)), y = .ref b ∧ H b = some (.ins C dy gs)) ∨ ∃ T : String, T ∈ kinds7 ∧ TyX K H y (.type T)
def rEqOwn (K : PySem.W.Frag) (C : Addr) (sp : Sp) : R2 := fun x y H Q => ∃ (a dx : Addr) (fs : List (Str × V)), x = .ref a ∧ H a = some (.ins C dx fs) ∧ Beside K C H y ∧ sp [x, y] H Q E0
def rNeOwn (K : PySem.W.Frag) (C : Addr) (sp : Sp) : R2 := fun x y H Q => ∃ (a dx : Addr) (fs : List (Str × V)), x = .ref a ∧ H a = some (.ins C dx fs) ∧ Beside K C H y ∧ sp [x, y] H (fun v H' => ∃ b, v = .bl b ∧ Q (.bl (!b)) H') E0
theorem beside_ty {pins : List (Addr × Obj)} {s : Shared} {σ : L2.St} {H : Hp} {y : V} {u : Value} (I : Inv X pins σ H s) (ry : RelV y u) (h : Beside X.K C H y) : ∃ tb, PySem.W.Looks (model X.prog X.w) s.heap (typeOf u) tb ∧ PySem.W.notFirst X.K C tb = true := by
  rcases h with ⟨b, dy, gs, rfl, eb⟩ | ⟨T, hT, ty⟩
  · cases (show u = Value.ref b from ry)
    obtain ⟨_, OB, _⟩ := ins_get I.hok eb
    obtain ⟨_, ib, _⟩ := OB.look
    exact ⟨.ref C, ib.type, by simp [PySem.W.notFirst]⟩
  · obtain ⟨Pk, kx, pk, _⟩ := kit_of I ry ty
    refine ⟨.type T, kx.ty _ _ I.kIn pk, ?_⟩
    have := (kin_and (K := X.K) (C := C) T hT).2.2
    simp [PySem.W.notFirst, this]
theorem op_eqOwn {K : PySem.W.Frag} (hK : X.K = K) (D : DefM X.prog X.w X.K X.mg X.base k C "__eq__" ps sp) (hr : Room j X.A) (hk : k ≤ j := by decide) : OpR X (compareOp .Eq) (rEqOwn K C sp) := by
  subst hK
  intro pins s σ H x y v u Q I rx ry h
  obtain ⟨a, dx, fs, rfl, ea, hb, q⟩ := h
  obtain rfl : v = Value.ref a := rx
  obtain ⟨tb, tyb, nf⟩ := beside_ty I ry hb
  obtain ⟨f, fd, F, hm, hbd⟩ := D.ex
  obtain ⟨_, OA, _⟩ := ins_get I.hok ea
  obtain ⟨_, ia, _⟩ := OA.look
  obtain ⟨m, fr⟩ := I.fr
  show wpAny (model X.prog X.w) X.A (richCompare .Eq (.ref a) u) (EP X pins σ Q) X.xe s
  refine PySem.W.cmp_K (op := .Eq) (hr.mono hk).units0 fr I.ok.mod.kin ia tyb nf hm.at_ hm.fn ?_
  exact wpAny_mono (run_fn F (hr.mono hk) hbd .nil pass0 I (vs := [.ref a, y]) (.cons (show RelV (.ref a) (.ref a) from rfl) (.cons ry .nil)) q) (fun _ _ z => back_of z) fun _ _ z => z
/-- the class's != is object's -/
structure OwnNe (K : PySem.W.Frag) (C : Addr) : Prop where
  ne : PySem.W.findIn K (.ref C) "__ne__" = some (some (.builtin "object.__ne__"))
  ob : PySem.W.subIn K (.ref C) (.type "object") = some true
theorem op_neOwn {K : PySem.W.Frag} (hK : X.K = K) (N : OwnNe K C) (D : DefM X.prog X.w X.K X.mg X.base k C "__eq__" ps sp) (hr : Room j X.A) (hk : k + 1 ≤ j := by decide) : OpR X (compareOp .NotEq) (rNeOwn K C sp) := by
  subst hK
  intro pins s σ H x y v u Q I rx ry h
  obtain ⟨a, dx, fs, rfl, ea, hb, q⟩ := h
  obtain rfl : v = Value.ref a := rx
  obtain ⟨tb, tyb, nf⟩ := beside_ty I ry hb
  obtain ⟨f, fd, F, hm, hbd⟩ := D.ex
  obtain ⟨_, OA, _⟩ := ins_get I.hok ea
  obtain ⟨_, ia, _⟩ := OA.look
  obtain ⟨m, fr⟩ := I.fr
  have hr1 := (hr.mono hk)
  show wpAny (model X.prog X.w) X.A (richCompare .NotEq (.ref a) u) (EP X pins σ Q) X.xe s
  refine ne_by_eq (by have := hr1.un; omega) fr I.ok.mod.kin ia tyb nf N.ne N.ob hm.at_ hm.fn ?_
  have r2 : Vals [V.ref a, y] [Value.ref a, u] := .cons (show RelV (.ref a) (.ref a) from rfl) (.cons ry .nil)
  have hl := F.len _ _ _ _ q
  refine wpAny_call (codeAny_mono (F.run X.A.in1 X.stack s H ⟨[.ref a, u], []⟩ [.ref a, u] [.ref a, y] _ E0 hr1.in1 I.env0.in1 (by
    have := hbd s [.ref a, u] I.kIn (by simpa using hl)
    simpa using this) r2 q) fun r t told => ?_)
  rcases r with e | fl
  · exact (show False from told).elim
  · cases fl with
    | ret g =>
      obtain ⟨z, H', I', rz, b, ez, fin⟩ := I.after told
      subst ez
      cases (show g = Value.bool b from rz)
      exact ⟨b, rfl, .bl (!b), H', I', rfl, fin⟩
    | next => exact False.elim told
    | brk => exact False.elim told
    | cont => exact False.elim told
/-- len of an instance, by its class's own __len__ -/
def rLenOwn (C : Addr) (sp : Sp) : List V → Hp → VK → Prop := fun xs H Q => ∃ (a dx : Addr) (fs : List (Str × V)), xs = [.ref a] ∧ H a = some (.ins C dx fs) ∧ sp xs H (fun v H' => ∃ n : Nat, v = .int n ∧ n < 1000000 ∧ Q v H') E0
theorem call_lenOwn (D : DefM X.prog X.w X.K X.mg X.base k C "__len__" ps sp) (hr : Room j X.A) (hk : k + 1 ≤ j := by decide) : CallR X (.builtin "len") (rLenOwn C sp) := by
  intro pins s σ H xs us Q I rv h
  obtain ⟨a, dx, fs, rfl, ea, q⟩ := h
  obtain ⟨u, rfl, rx⟩ := vals1 rv
  obtain rfl : u = Value.ref a := rx
  obtain ⟨f, fd, F, hm, hbd⟩ := D.ex
  obtain ⟨_, OA, _⟩ := ins_get I.hok ea
  obtain ⟨_, ia, _⟩ := OA.look
  obtain ⟨m, fr⟩ := I.fr
  have hr1 := (hr.mono hk)
  refine PySem.W.len_K fr I.ok.mod.kin ia hm.at_ hm.fn ?_
  have r2 : Vals [V.ref a] [Value.ref a] := .cons (show RelV (.ref a) (.ref a) from rfl) .nil
  have hl := F.len _ _ _ _ q
  refine wpAny_call (codeAny_mono (F.run X.A.in1 X.stack s H ⟨[.ref a], []⟩ [.ref a] [.ref a] _ E0 hr1.in1 I.env0.in1 (by
    have := hbd s [.ref a] I.kIn (by simpa using hl)
    simpa using this) r2 q) fun r t told => ?_)
  rcases r with e | fl
  · exact (show False from told).elim
  · cases fl with
    | ret g =>
      obtain ⟨z, H', I', rz, n, ez, hn, fin⟩ := I.after told
      subst ez
      obtain ⟨tk, rfl⟩ := (show ∃ tk, g = Value.int (n : Int) tk from rz)
      exact ⟨⟨by omega, by omega⟩, .int n, H', I'.tok _, ⟨_, rfl⟩, fin⟩
    | next => exact False.elim told
    | brk => exact False.elim told
    | cont => exact False.elim told
end
/-- one step of == of two tuples or two lists, the items' answers told by E -/
def RcNest (K : PySem.W.Frag) (H : Hp) (E : V → V → Bool → Prop) (x y : V) (r : Bool) : Prop :=
  (∃ (a b : Addr) (xs ys : List V) (e : Nat → Bool), x = .ref a ∧ y = .ref b ∧ SqT K H a xs ∧ SqT K H b ys ∧ (∀ (i : Nat) x y, xs[i]? = some x → ys[i]? = some y → E x y (e i)) ∧ r = ((List.range (min xs.length ys.length)).all e && xs.length == ys.length)) ∨
  (∃ (a b : Addr) (xs ys : List V) (e : Nat → Bool), x = .ref a ∧ y = .ref b ∧ SqL K H a xs ∧ SqL K H b ys ∧ xs.length = ys.length ∧ (∀ (i : Nat) x y, xs[i]? = some x → ys[i]? = some y → E x y (e i)) ∧ r = (List.range xs.length).all e) ∨
  (∃ (a b : Addr) (xs ys : List V), x = .ref a ∧ y = .ref b ∧ SqL K H a xs ∧ SqL K H b ys ∧ xs.length ≠ ys.length ∧ r = false) ∨
  (∃ (a b : Addr) (xs ys : List V), x = .ref a ∧ y = .ref b ∧ ((SqL K H a xs ∧ SqT K H b ys) ∨ (SqT K H a xs ∧ SqL K H b ys)) ∧ r = false)
/-- == of nested data, the same things found by their places -/
def EqNest (K : PySem.W.Frag) (H : Hp) : Nat → V → V → Bool → Prop
  | 0 => fun _ _ _ => False
  | n + 1 => fun x y r => (flatV x = true ∧ flatV y = true ∧ r = eqV x y) ∨ (∃ a, x = .ref a ∧ y = .ref a ∧ r = true) ∨ (x ≠ y ∧ RcNest K H (EqNest K H n) x y r)
section
variable {X : Cx} {pins : List (Addr × Obj)} {σ : L2.St} {H : Hp} {s : Shared}
theorem items_at {A : Around} {F : V → V → Bool → Prop} (ih : ∀ x y r v u, F x y r → RelV x v → RelV y u → SeqAt.EqAt A s v u r) {xs ys : List V} {us ws : List Value} {e : Nat → Bool} (h : ∀ (i : Nat) x y, xs[i]? = some x → ys[i]? = some y → F x y (e i)) (r1 : Vals xs us) (r2 : Vals ys ws)
    (i : Nat) (h1 : i < us.toArray.size) (h2 : i < ws.toArray.size) : SeqAt.EqAt A s us.toArray[i] ws.toArray[i] (e i) := by
  have g1 : i < us.length := by simpa using h1
  have g2 : i < ws.length := by simpa using h2
  have k1 : i < xs.length := by rw [r1.length]; exact g1
  have k2 : i < ys.length := by rw [r2.length]; exact g2
  obtain ⟨u, hu, ru⟩ := r1.get (List.getElem?_eq_getElem k1)
  obtain ⟨v, hv, rv⟩ := r2.get (List.getElem?_eq_getElem k2)
  have e1 : us.toArray[i] = u := by
    have := List.getElem?_eq_getElem g1
    rw [hu] at this
    simpa using (Option.some.inj this).symm
  have e2 : ws.toArray[i] = v := by
    have := List.getElem?_eq_getElem g2
    rw [hv] at this
    simpa using (Option.some.inj this).symm
  rw [e1, e2]
  exact ih _ _ _ _ _ (h i _ _ (List.getElem?_eq_getElem k1) (List.getElem?_eq_getElem k2)) ru rv
theorem rcD_run (I : Inv X pins σ H s) {A : Around} {F : V → V → Bool → Prop} (hu : A.units < cLine) (ih : ∀ x y r v u, F x y r → RelV x v → RelV y u → SeqAt.EqAt A.in1 s v u r) {x y : V} {r : Bool} {v u : Value} (h : RcNest X.K H F x y r) (rx : RelV x v) (ry : RelV y u) : SeqAt.RcAt A s v u r := by
  rcases h with ⟨a, b, xs, ys, e, rfl, rfl, ha, hb, hi, rfl⟩ | ⟨a, b, xs, ys, e, rfl, rfl, ha, hb, hl, hi, rfl⟩ | ⟨a, b, xs, ys, rfl, rfl, ha, hb, hl, rfl⟩ | ⟨a, b, xs, ys, rfl, rfl, hab, rfl⟩
  all_goals
    cases (show v = Value.ref a from rx)
    cases (show u = Value.ref b from ry)
  · obtain ⟨us, r1, p1, _⟩ := I.tuple ha
    obtain ⟨ws, r2, p2, _⟩ := I.tuple hb
    have q := SeqAt.RcAt.tuples p1 p2 hu (items_at ih hi r1 r2)
    rw [List.size_toArray, List.size_toArray, ← r1.length, ← r2.length] at q
    exact q
  · obtain ⟨us, r1, p1, _⟩ := I.list ha
    obtain ⟨ws, r2, p2, _⟩ := I.list hb
    have q := SeqAt.RcAt.lists p1.isList p2.isList (by rw [List.size_toArray, List.size_toArray, ← r1.length, ← r2.length]; exact hl) hu (items_at ih hi r1 r2)
    rw [List.size_toArray, ← r1.length] at q
    exact q
  · obtain ⟨us, r1, p1, _⟩ := I.list ha
    obtain ⟨ws, r2, p2, _⟩ := I.list hb
    exact SeqAt.RcAt.lists_lengths p1.isList p2.isList (by rw [List.size_toArray, List.size_toArray, ← r1.length, ← r2.length]; simpa using hl) hu
  · rcases hab with ⟨ha, hb⟩ | ⟨ha, hb⟩
    · obtain ⟨us, r1, p1, _⟩ := I.list ha
      obtain ⟨ws, r2, p2, _⟩ := I.tuple hb
      exact SeqAt.RcAt.list_tuple p1.isList p2 hu
    · obtain ⟨us, r1, p1, _⟩ := I.tuple ha
      obtain ⟨ws, r2, p2, _⟩ := I.list hb
      exact SeqAt.RcAt.tuple_list p1 p2.isList hu
theorem eqD_run (I : Inv X pins σ H s) : ∀ (n : Nat) (A : Around), A.units + n < cLine → ∀ (x y : V) (r : Bool) (v u : Value), EqNest X.K H n x y r → RelV x v → RelV y u → SeqAt.EqAt A s v u r
  | 0, _, _, _, _, _, _, _, h, _, _ => (show False from h).elim
  | n + 1, A, hu, x, y, r, v, u, h, rx, ry => by
    rcases h with ⟨fx, fy, rfl⟩ | ⟨a, rfl, rfl, rfl⟩ | ⟨hne, h⟩
    · exact eqAt_V rx ry fx fy
    · cases (show v = Value.ref a from rx)
      cases (show u = Value.ref a from ry)
      exact SeqAt.EqAt.same _
    · have q := rcD_run I (A := A) (by omega) (eqD_run I n A.in1 (by show A.units + 1 + n < cLine; omega)) h rx ry
      obtain ⟨a, b, rfl, rfl⟩ : ∃ a b, x = .ref a ∧ y = .ref b := by
        rcases h with ⟨a, b, _, _, _, e1, e2, _⟩ | ⟨a, b, _, _, _, e1, e2, _⟩ | ⟨a, b, _, _, e1, e2, _⟩ | ⟨a, b, _, _, e1, e2, _⟩ <;> exact ⟨a, b, e1, e2⟩
      cases (show v = Value.ref a from rx)
      cases (show u = Value.ref b from ry)
      exact SeqAt.EqAt.of_refs (fun e => hne (by rw [e])) q
end
section
variable {K : PySem.W.Frag} {H : Hp} {n : Nat} {a b : Addr} {xs ys : List V}
theorem all_true {m : Nat} : (List.range m).all (fun _ => true) = true := List.all_eq_true.mpr fun _ _ => rfl
theorem EqNest.flatS {v : V} (f : flatV v = true) (e : eqV v v = true) : EqNest K H (n + 1) v v true := .inl ⟨f, f, e.symm⟩
theorem EqNest.same : EqNest K H (n + 1) (.ref a) (.ref a) true := .inr (.inl ⟨a, rfl, rfl, rfl⟩)
theorem EqNest.tupT (ha : SqT K H a xs) (hb : SqT K H b ys) (hl : xs.length = ys.length) (hi : ∀ (i : Nat) x y, xs[i]? = some x → ys[i]? = some y → EqNest K H n x y true) : EqNest K H (n + 1) (.ref a) (.ref b) true := by
  by_cases e : a = b
  · rw [e]; exact .same
  · exact .inr (.inr ⟨fun z => e (by injection z), .inl ⟨a, b, xs, ys, fun _ => true, rfl, rfl, ha, hb, hi, by rw [all_true, hl, beq_self_eq_true]; rfl⟩⟩)
theorem EqNest.lstT (ha : SqL K H a xs) (hb : SqL K H b ys) (hl : xs.length = ys.length) (hi : ∀ (i : Nat) x y, xs[i]? = some x → ys[i]? = some y → EqNest K H n x y true) : EqNest K H (n + 1) (.ref a) (.ref b) true := by
  by_cases e : a = b
  · rw [e]; exact .same
  · exact .inr (.inr ⟨fun z => e (by injection z), .inr (.inl ⟨a, b, xs, ys, fun _ => true, rfl, rfl, ha, hb, hl, hi, by rw [all_true]⟩)⟩)
end
section
variable {X : Cx}
/-- x == y, two tuples or two lists -/
def rEqNest (K : PySem.W.Frag) : R2 := fun x y H Q => ∃ n r, n ≤ 60 ∧ RcNest K H (EqNest K H n) x y r ∧ Q (.bl r) H
theorem op_eqNest {K : PySem.W.Frag} (hK : X.K = K) (hu : X.A.units + 64 < cLine) : OpR X (compareOp .Eq) (rEqNest K) := by
  subst hK
  intro pins s σ H x y v u Q I rx ry h
  obtain ⟨n, r, hn, h, q⟩ := h
  exact rcD_run I (A := X.A) (by omega) (eqD_run I n X.A.in1 (by show X.A.units + 1 + n < cLine; omega)) h rx ry _ _ _ _ ⟨.bl r, H, I, rfl, q⟩
/-- x != y, two lists whose items are equal -/
def rNeNest (K : PySem.W.Frag) : R2 := fun x y H Q => ∃ n a b xs ys, n ≤ 60 ∧ x = .ref a ∧ y = .ref b ∧ SqL K H a xs ∧ SqL K H b ys ∧ xs.length = ys.length ∧ (∀ (i : Nat) x y, xs[i]? = some x → ys[i]? = some y → EqNest K H n x y true) ∧ Q (.bl false) H
theorem op_neNest {K : PySem.W.Frag} (hK : X.K = K) (hu : X.A.units + 64 < cLine) : OpR X (compareOp .NotEq) (rNeNest K) := by
  subst hK
  intro pins s σ H x y v u Q I rx ry h
  obtain ⟨n, a, b, xs, ys, hn, rfl, rfl, ha, hb, hl, hi, q⟩ := h
  cases (show v = Value.ref a from rx)
  cases (show u = Value.ref b from ry)
  obtain ⟨us, r1, p1, _⟩ := I.list ha
  obtain ⟨ws, r2, p2, _⟩ := I.list hb
  have hsz : us.toArray.size = ws.toArray.size := by rw [List.size_toArray, List.size_toArray, ← r1.length, ← r2.length]; exact hl
  refine SeqAt.tw_ne_lists p1.isList p2.isList hsz (by omega) (fun i h1 h2 => ?_) _ _ ⟨.bl false, H, I, rfl, q⟩
  exact (items_at (e := fun _ => true) (eqD_run I n X.A.in1 (by show X.A.units + 1 + n < cLine; omega)) hi r1 r2 i h1 h2).eqP
end
end Tw


set_option Elab.async false
set_option linter.all false
set_option maxRecDepth 100000
set_option maxHeartbeats 4000000
/-! == with either answer, an own __eq__ asked inside tuples -/
namespace PySem.SeqAt
open AutoSeq1 (wpAny_loadPart')
open MeetsSeq MeetsSeq2 MeetsSeq3 SeqRoads2
section
variable {prog : Program} {w : World} {A : Around} {R : Result → Shared → Prop}
theorem tw_tuple_scan (l b : Addr) (items items2 : Array Value) (n n2 : Nat) (dd dd2 : Option Addr) (sl sl2 : Array (Option Value)) (J : List Value → List Value → Shared → Prop)
    (turn : ∀ u us v vs t, J (u :: us) (v :: vs) t → wpAny (model prog w) A.in1 (eqBool u v) (fun r t' => (r = true ∧ J us vs t') ∨ (r = false ∧ R (.ok (.ret (.bool false))) t')) (fun e t' => R (.error e) t') t)
    (fin : ∀ us vs t, us = [] ∨ vs = [] → J us vs t → R (.ok (.ret (.bool (us.length == vs.length)))) t) {s : Shared} (hl : s.heap.get? l = some { cls := .type "tuple", dict := dd, data := .seq items n, slots := sl }) (hb : s.heap.get? b = some { cls := .type "tuple", dict := dd2, data := .seq items2 n2, slots := sl2 })
    (h0 : J items.toList items2.toList s) : wpAny (model prog w) A.in1 (Builtin.«tuple.__eq__» ⟨[.ref l, .ref b], []⟩) (GQ.FinOf prog w A R) (fun e t => R (.error e) t) s := by
  have sub := AutoSeq1.sub_tuple_tuple
  obtain ⟨hp, g, d, tk, os⟩ := s
  wp_walk using wpAny_loadPart' hl, wpAny_loadPart' hb, wpAny_forIn_list _ (fun rest acc t => acc.1 = none ∧ ∃ k, rest = (items.toList.drop k).zip (items2.toList.drop k) ∧ k ≤ items.size ∧ k ≤ items2.size ∧ J (items.toList.drop k) (items2.toList.drop k) t) _
  case turn =>
    rintro ⟨y, x⟩ rest acc t ⟨hacc, k, hz, k1, k2, hJ⟩
    cases e1 : items.toList.drop k with
    | nil => rw [e1] at hz; cases hz
    | cons u us =>
      cases e2 : items2.toList.drop k with
      | nil => rw [e1, e2] at hz; cases hz
      | cons v vs =>
        rw [e1, e2] at hz hJ
        rw [List.zip_cons_cons] at hz
        injection hz with ha hr
        injection ha with hy hx
        subst hy hx
        have d1 : items.toList.drop (k + 1) = us := by rw [← List.tail_drop, e1]; rfl
        have d2 : items2.toList.drop (k + 1) = vs := by rw [← List.tail_drop, e2]; rfl
        have s1 : k < items.size := by
          have := congrArg List.length e1
          simp at this
          omega
        have s2 : k < items2.size := by
          have := congrArg List.length e2
          simp at this
          omega
        refine wpAny_bind (wpAny_mono (turn _ _ _ _ _ hJ) (fun r t' told => ?_) fun _ _ z => z)
        rcases told with ⟨rfl, q⟩ | ⟨rfl, q⟩
        · wp_walk
          exact ⟨rfl, k + 1, by rw [d1, d2]; exact hr, s1, s2, by rw [d1, d2]; exact q⟩
        · wp_walk
          exact q
  case fin =>
    rintro ⟨c1, c2⟩ t ⟨hacc, k, hz, k1, k2, hJ⟩
    simp only at hacc
    subst hacc
    have he : items.toList.drop k = [] ∨ items2.toList.drop k = [] := by
      cases e1 : items.toList.drop k with
      | nil => exact .inl rfl
      | cons u us =>
        cases e2 : items2.toList.drop k with
        | nil => exact .inr rfl
        | cons v vs => rw [e1, e2] at hz; cases hz
    have q := fin _ _ _ he hJ
    have e : ((items.toList.drop k).length == (items2.toList.drop k).length) = (items.size == items2.size) := by
      rw [List.length_drop, List.length_drop]
      simp only [Array.length_toList]
      by_cases h : items.size = items2.size
      · rw [h, beq_self_eq_true, beq_self_eq_true]
      · rw [beq_eq_false_iff_ne.mpr h, beq_eq_false_iff_ne.mpr (by omega)]
    rw [e] at q
    wp_walk
    simpa [Builtin.Tuple.tupleCompareSizes] using q
  case h =>
    exact ⟨rfl, 0, rfl, Nat.zero_le _, Nat.zero_le _, h0⟩
end
end PySem.SeqAt

namespace L2
open PySem PySem.Spec PyProof.Rows
/-- how == of two values answers, told over the heap -/
abbrev Eqb := V → V → Bool → Hp → Prop
def MonB (D : Eqb) : Prop := ∀ x y r H H', Ext H H' → D x y r H → D x y r H'
/-- == inside a list or a tuple -/
def AnsB (X : Cx) (n : Nat) (D : Eqb) : Prop :=
  ∀ (A : Around) (pins : List (Addr × Obj)) (s : Shared) (σ : St) (H : Hp) (x y : V) (r : Bool) (u v : Value), Sub X n A → Inv X pins σ H s → RelV x u → RelV y v → D x y r H →
    wpAny (model X.prog X.w) A (eqBool u v) (fun b t => b = r ∧ ∃ H', Inv X pins σ H' t ∧ Ext H H') X.xe s
/-- == as an expression -/
def RichB (X : Cx) (n : Nat) (D : Eqb) : Prop :=
  ∀ (A : Around) (pins : List (Addr × Obj)) (s : Shared) (σ : St) (H : Hp) (x y : V) (r : Bool) (u v : Value), Sub X n A → Inv X pins σ H s → RelV x u → RelV y v → D x y r H →
    wpAny (model X.prog X.w) A (richCompare .Eq u v) (fun b t => b = .bool r ∧ ∃ H', Inv X pins σ H' t ∧ Ext H H') X.xe s
/-- the items one by one, up to the first that differ -/
def Scan (D : Eqb) : List V → List V → Bool → Hp → Prop
  | [], [], r, _ => r = true
  | [], _ :: _, r, _ => r = false
  | _ :: _, [], r, _ => r = false
  | x :: xs, y :: ys, r, H => (D x y false H ∧ r = false) ∨ (D x y true H ∧ Scan D xs ys r H)
section
variable {X : Cx} {n m : Nat} {D D' : Eqb}
theorem AnsB.mono (h : AnsB X n D) (hn : n ≤ m) : AnsB X m D := fun A pins s σ H x y r u v sb => h A pins s σ H x y r u v (sb.mono hn)
theorem AnsB.or (h : AnsB X n D) (h' : AnsB X n D') : AnsB X n (fun x y r H => D x y r H ∨ D' x y r H) := fun A pins s σ H x y r u v sb I rx ry d => d.elim (h A pins s σ H x y r u v sb I rx ry) (h' A pins s σ H x y r u v sb I rx ry)
theorem MonB.or (h : MonB D) (h' : MonB D') : MonB (fun x y r H => D x y r H ∨ D' x y r H) := fun x y r H H' e d => d.elim (fun d => .inl (h x y r H H' e d)) fun d => .inr (h' x y r H H' e d)
def BFlat : Eqb := fun x y r _ => flatV x = true ∧ flatV y = true ∧ r = eqV x y
theorem monB_flat : MonB BFlat := fun _ _ _ _ _ _ d => d
theorem ansB_flat : AnsB X 0 BFlat := by
  intro A pins s σ H x y r u v sb I rx ry d
  obtain ⟨fx, fy, rfl⟩ := d
  exact eqAt_V (A := A) (s := s) rx ry fx fy X.prog X.w X.xe _ ⟨rfl, H, I, Ext.rfl'⟩
theorem scan_mono (hD : MonB D) : ∀ {xs ys : List V} {r : Bool} {H H' : Hp}, Ext H H' → Scan D xs ys r H → Scan D xs ys r H'
  | [], [], _, _, _, _, h => h
  | [], _ :: _, _, _, _, _, h => h
  | _ :: _, [], _, _, _, _, h => h
  | _ :: _, _ :: _, _, _, _, e, h => h.elim (fun h => .inl ⟨hD _ _ _ _ _ e h.1, h.2⟩) fun h => .inr ⟨hD _ _ _ _ _ e h.1, scan_mono hD e h.2⟩
def BTup (K : PySem.W.Frag) (D : Eqb) : Eqb := fun x y r H => ∃ a b xs ys, x = .ref a ∧ y = .ref b ∧ SqT K H a xs ∧ SqT K H b ys ∧ Scan D xs ys r H
theorem monB_tup {K : PySem.W.Frag} (hD : MonB D) : MonB (BTup K D) := fun x y r H H' e d => by
  obtain ⟨a, b, xs, ys, hx, hy, h1, h2, p⟩ := d
  exact ⟨a, b, xs, ys, hx, hy, SqT.ext h1 e, SqT.ext h2 e, scan_mono hD e p⟩
theorem richB_tup (hD : MonB D) (h : AnsB X n D) : RichB X (n + 1) (BTup X.K D) := by
  intro A pins s σ H x y r u v sb I rx ry d
  obtain ⟨a, b, xs, ys, rfl, rfl, ha, hb, p⟩ := d
  cases rx
  cases ry
  obtain ⟨us, r1, e1, z1⟩ := I.tuple ha
  obtain ⟨vs, r2, e2, z2⟩ := I.tuple hb
  obtain ⟨⟨cls, dd, data, sl⟩, ho, hc, c1, hd⟩ := id e1
  obtain ⟨⟨cls2, dd2, data2, sl2⟩, ho2, hc2, c2, hd2⟩ := id e2
  simp only at hc hd hc2 hd2
  subst hc hd hc2 hd2
  refine wpAny_richCompare_same_room (op := .Eq) ⟨_, ho, rfl⟩ ⟨_, ho2, rfl⟩ F.slot_tuple_eq (GQ.call_here F.slot_tuple_eq ⟨_, ho, rfl⟩ F.entry_tuple_eq (F.args_tuple_eq_2 _ _) ?_) sb.room.units0
  refine SeqAt.tw_tuple_scan a b us.toArray vs.toArray c1 c2 dd dd2 sl sl2 (fun us' vs' t => ∃ xs' ys' H', Vals xs' us' ∧ Vals ys' vs' ∧ Scan D xs' ys' r H' ∧ Inv X pins σ H' t ∧ Ext H H') ?_ ?_ ho ho2 ⟨xs, ys, H, by simpa using r1, by simpa using r2, p, I, Ext.rfl'⟩
  · rintro u us' v vs' t ⟨xs', ys', H', q1, q2, sc, J, ex⟩
    cases q1 with
    | @cons x' _ xr _ p1 p2 =>
      cases q2 with
      | @cons y' _ yr _ p3 p4 =>
        rcases sc with ⟨d, rfl⟩ | ⟨d, sc⟩
        · refine wpAny_mono (h A.in1 pins t σ H' _ _ _ u v sb.in1 J p1 p3 d) (fun b t' told => ?_) fun _ _ z => z
          obtain ⟨rfl, H2, J2, ex2⟩ := told
          exact .inr ⟨rfl, ⟨(fun z => nomatch z), rfl, H2, J2, ex.trans ex2⟩⟩
        · refine wpAny_mono (h A.in1 pins t σ H' _ _ _ u v sb.in1 J p1 p3 d) (fun b t' told => ?_) fun _ _ z => z
          obtain ⟨rfl, H2, J2, ex2⟩ := told
          exact .inl ⟨rfl, xr, yr, H2, p2, p4, scan_mono hD ex2 sc, J2, ex.trans ex2⟩
  · rintro us' vs' t he ⟨xs', ys', H', q1, q2, sc, J, ex⟩
    have er : r = (us'.length == vs'.length) := by
      rcases he with rfl | rfl
      · cases q1
        cases q2 with
        | nil => exact sc
        | cons _ _ => exact sc
      · cases q2
        cases q1 with
        | nil => exact sc
        | cons _ _ => exact sc
    exact ⟨(fun z => nomatch z), by rw [er], H', J, ex⟩
/-- instances of the class at C, by its own == -/
def BIns (C : Addr) (R : Addr → Addr → Bool → Hp → Prop) : Eqb := fun x y r H => ∃ a b dx dy fs gs, x = .ref a ∧ y = .ref b ∧ H a = some (.ins C dx fs) ∧ H b = some (.ins C dy gs) ∧ R a b r H
theorem monB_ins {C : Addr} {R : Addr → Addr → Bool → Hp → Prop} (hR : ∀ a b r H H', Ext H H' → R a b r H → R a b r H') : MonB (BIns C R) := fun x y r H H' e d => by
  obtain ⟨a, b, dx, dy, fs, gs, hx, hy, h1, h2, q⟩ := d
  exact ⟨a, b, dx, dy, fs, gs, hx, hy, e _ _ h1, e _ _ h2, hR a b r H H' e q⟩
def spEqb (R : Addr → Addr → Bool → Hp → Prop) : Sp := fun vs H Q _ => ∃ a b r, vs = [.ref a, .ref b] ∧ R a b r H ∧ ∀ H', Ext H H' → Q (.bl r) H'
theorem richB_ins {CX : CXT} {C f : Addr} {fd : FuncData} {ps : List Str} {R : Addr → Addr → Bool → Hp → Prop} {E : XK} {sp : Sp} (F : FnOk X.prog X.w X.K X.mg X.base CX n f fd ps sp) (hsp : ∀ vs H Q E, spEqb R vs H Q E → sp vs H Q E)
    (hs : PySem.W.findIn X.K (.ref C) "__eq__" = some (some (.ref f))) (hf : PySem.W.isFn X.K (.ref f) = true) (hb : Binds X.K fd ps []) (hx : Passes CX X E) : RichB X n (BIns C R) := by
  intro A pins s σ H x y r u v sb I rx ry d
  obtain ⟨a, b, dx, dy, fs, gs, rfl, rfl, ha, hb', hr⟩ := d
  cases rx
  cases ry
  obtain ⟨_, OA, _⟩ := ins_get I.hok ha
  obtain ⟨_, OB, _⟩ := ins_get I.hok hb'
  obtain ⟨oa, OA, _⟩ := OA.look
  obtain ⟨ob, OB, _⟩ := OB.look
  obtain ⟨m, fr⟩ := I.fr
  refine PySem.W.cmp_K (op := .Eq) (tb := .ref C) sb.room.units0 fr I.ok.mod.kin OA OB.type (by simp [PySem.W.notFirst]) hs hf ?_
  have asked : sp [.ref a, .ref b] H (fun v H' => v = .bl r ∧ Ext H H') E := hsp _ _ _ _ ⟨a, b, r, rfl, hr, fun H' e => ⟨rfl, e⟩⟩
  have e0 : Env0 X.prog X.w X.K X.mg X.base A X.stack s H := by
    have e := I.env0
    exact ⟨by rw [sb.fr]; exact e.frames, e.mod, e.bs, e.bsz, e.funs, e.frf, e.hok, e.bare⟩
  have vals : Vals [V.ref a, V.ref b] [Value.ref a, Value.ref b] := .cons rfl (.cons rfl .nil)
  have hl := F.len _ _ _ _ asked
  refine wpAny_call (codeAny_mono (F.run A X.stack s H ⟨[.ref a, .ref b], []⟩ [.ref a, .ref b] [.ref a, .ref b] _ E sb.room e0 (by
    have := hb s [.ref a, .ref b] I.kIn (by simpa using hl)
    simpa using this) vals asked) fun res t told => ?_)
  rcases res with e | fl
  · exact hx pins σ H s e t I told
  · rcases fl with _ | _ | _ | g
    case ret =>
      obtain ⟨z, H', I', rz, ez, ex⟩ := I.after told
      subst ez
      cases (show g = Value.bool r from rz)
      exact ⟨rfl, H', I', ex⟩
    all_goals exact False.elim told
/-- inside a container the same object is equal to itself -/
theorem RichB.ans (h : RichB X n D) (hr : ∀ x y r H, D x y r H → ∃ a b, x = .ref a ∧ y = .ref b ∧ (a = b → r = true)) : AnsB X n D := by
  intro A pins s σ H x y r u v sb I rx ry d
  obtain ⟨a, b, rfl, rfl, hs⟩ := hr _ _ _ _ d
  cases rx
  cases ry
  by_cases hab : a = b
  · subst hab
    rw [hs rfl]
    exact SeqAt.EqAt.same (A := A) (s := s) (.ref a) X.prog X.w X.xe _ ⟨rfl, H, I, Ext.rfl'⟩
  · refine GQ.eqBool_refG hab (wpAny_mono (h A pins s σ H (.ref a) (.ref b) r _ _ sb I rfl rfl d) (fun w t q => ?_) fun _ _ z => z)
    obtain ⟨rfl, q⟩ := q
    exact ⟨r, rfl, rfl, q⟩
def rEqb (D : Eqb) : R2 := fun x y H Q => ∃ r, D x y r H ∧ ∀ H', Ext H H' → Q (.bl r) H'
theorem op_eqb (h : RichB X n D) (hr : Room n X.A) : OpR X (compareOp .Eq) (rEqb D) := by
  intro pins s σ H x y v u Q I rx ry hq
  obtain ⟨r, d, q⟩ := hq
  show wpAny (model X.prog X.w) X.A (richCompare .Eq v u) (EP X pins σ Q) X.xe s
  refine wpAny_mono (h X.A pins s σ H x y r v u ⟨hr, rfl⟩ I rx ry d) (fun b t z => ?_) fun _ _ z => z
  obtain ⟨rfl, H', I', e⟩ := z
  exact ⟨.bl r, H', I', rfl, q H' e⟩
end
end L2
namespace Tw
open PySem L2 PySem.Spec
section
variable {P : Program} {w : World} {K : PySem.W.Frag} {mg : Str → Option Value} {base : Heap} {X : Cx} {C : Addr} {m j : Nat} {ps : List Str} {sp : Sp} {R : Addr → Addr → Bool → Hp → Prop}
/-- == of tuples of instances, by their own == -/
theorem op_eqTI (hR : ∀ a b r H H', Ext H H' → R a b r H → R a b r H') (hs : ∀ a r H, R a a r H → r = true) (D : DefM P w K mg base m C "__eq__" ps sp) (hsp : ∀ vs H Q E, spEqb R vs H Q E → sp vs H Q E) (h1 : X.prog = P) (h2 : X.w = w) (h3 : X.K = K) (h4 : X.mg = mg) (h5 : X.base = base) (hr : Room j X.A) (hj : m + 1 ≤ j) :
    OpR X (compareOp .Eq) (rEqb (BTup K (BIns C R))) := by
  subst h1 h2 h3 h4 h5
  obtain ⟨f, fd, F, hm, hb⟩ := D.ex
  refine op_eqb (richB_tup (monB_ins hR) (RichB.ans (richB_ins F hsp hm.at_ hm.fn hb pass0) fun x y r H d => ?_)) (hr.mono hj)
  obtain ⟨a, b, dx, dy, fs, gs, rfl, rfl, _, _, q⟩ := d
  exact ⟨a, b, rfl, rfl, fun e => by subst e; exact hs _ _ _ q⟩
end
end Tw

set_option Elab.async false
set_option linter.all false
set_option maxRecDepth 100000
set_option maxHeartbeats 4000000
/-! comprehensions whose items may let an own error out (by a call) -/
namespace L2
open PySem PySem.Spec PyProof.Rows
/-- what calls let out is taken -/
def TakesC (X : Cx) (W : WX) : Prop := ∀ σ, PassesAt (L2.CX X.prog X.w) X σ (WE W σ)
theorem takesC_of {X : Cx} {W : WX} (tk : Takes X W) : TakesC X W := fun σ => passAt tk σ
/-- an error that the def's own frame has noted, what is known of a call behind it -/
def HX (P : Program) (w : World) (st : List Env) (L : Addr) (H : Hp) (s : Shared) (E : XK) (u : Value) (s' : Shared) : Prop :=
  ∃ (a : Addr) (B : Heap) (H' : Hp) (cls : Value) (d : Option Addr), u = .ref a ∧ HandSPX.HeldZ B st a (Zc cls d) L s'.heap ∧ HOk P w H' B ∧ UB (frs st) H H' s.heap B s'.heap ∧ H' a = none ∧ s'.os = s.os ∧ AllBare s'.gens ∧ E cls d H'
section
variable {X : Cx} {pins : List (Addr × Obj)} {σ : St} {H : Hp} {s s' : Shared} {W : WX} {E : XK}
theorem XE.of_held (I : Inv X pins σ H s) (hW : ∀ cls d H', E cls d H' → W cls d σ H') {u : Value} (c : HX X.prog X.w X.stack X.env.locals H s E u s') : XE X W u s' := by
  obtain ⟨a, B, H', cls, d, rfl, hd, hok, ub, na, os, ag, hE⟩ := c
  obtain ⟨G, g1, g2⟩ := restrict s'.heap fun b => (B.get? b).isSome || decide (b ∈ frs X.stack)
  have gB : ∀ b o, B.get? b = some o → G.get? b = some o := fun b o e => (g1 b (by simp [e])).trans (hd.1 b o e)
  have og : ∀ b o, G.get? b = some o → s'.heap.get? b = some o ∧ ((B.get? b).isSome = true ∨ b ∈ frs X.stack) := fun b o e => by
    cases q : ((B.get? b).isSome || decide (b ∈ frs X.stack)) with
    | false => exact absurd e (by rw [g2 b q]; exact nofun)
    | true => exact ⟨(g1 b q).symm.trans e, by simpa [Bool.or_eq_true] using q⟩
  refine ⟨a, B, { s with heap := G, gens := s'.gens, drawn := s'.drawn, toks := s'.toks }, pins, σ, H', cls, d, rfl, ?_, fun b o e hb => ?_, Heap.UpToSlots.of_keeps fun b o e => (og b o e).1, .inr (.inr hd), na, os, ag, hW _ _ _ hE⟩
  · refine I.call (ch := []) ⟨fun b o e n hb _ => gB b o (ub.keep b o e n hb), fun b o e n hb _ => ?_, fun b o e n _ => ub.free b o e n, fun b o e _ => ?_, ub.tups, ub.frzs, ub.tbls⟩ (hok.kept gB) ag (fun _ z => nomatch z)
    · obtain ⟨sl, q⟩ := ub.slot b o e hb
      exact ⟨sl, (g1 b (by simp [hb])).trans q⟩
    · by_cases hb : b ∈ frs X.stack
      · obtain ⟨sl, q⟩ := ub.slot b o e hb
        exact ⟨_, (g1 b (by simp [hb])).trans q⟩
      · obtain ⟨o', q⟩ := ub.there b o e hb
        exact ⟨o', gB b o' q⟩
  · obtain ⟨e', h⟩ := og b o e
    rcases h with h | h
    · obtain ⟨o', q⟩ := Option.isSome_iff_exists.mp h
      have z := hd.1 b o' q
      rw [e'] at z
      cases z
      exact q
    · exact absurd h hb
theorem frames_less {h B B' : Heap} (k : ∀ b o, B'.get? b = some o → B.get? b = some o) : ∀ {l : List Env}, h.FunFrames B l → h.FunFrames B' l
  | [], _ => trivial
  | _ :: _, ⟨hk, ⟨L, o, hf, hb, ho, hd⟩, hr⟩ => ⟨hk, ⟨L, o, hf, (by
      cases q : B'.get? L with
      | none => rfl
      | some x => rw [k L x q] at hb; cases hb), ho, hd⟩, frames_less k hr⟩
theorem none_less {B B' : Heap} (k : ∀ b o, B'.get? b = some o → B.get? b = some o) {b : Addr} (h : B.get? b = none) : B'.get? b = none := by
  cases q : B'.get? b with
  | none => rfl
  | some x => rw [k b x q] at h; cases h
/-- an error that left a call in the block goes on in the def's frame, the block's names let go -/
theorem block_err (I : Inv X pins σ H s) (hst : X.stack = X.env :: X.outer) (hf : X.env.frame = some X.env.locals) (hA : X.A.frames = some X.stack) {ce : Env} (hce : ce.frame = X.env.frame) {C : Addr} (hcl : ce.locals = C) {m : Str → Option Value} (hn : s.heap.Ns C m) (f : FpOk X pins H C) (hC : C ∉ frs X.stack)
    (tk : Takes X W) (hW : ∀ cls d H', E cls d H' → W cls d σ H') {u : Value} (c : CX X.prog X.w X.stack H s E u s') :
    notedBy (model X.prog X.w) X.A ce (CompFails (model X.prog X.w) X.A X.xe ce) u s' := by
  subst hcl
  obtain ⟨a, B, H', cls, d, rfl, fl, hok, ub, na, os, ag, hE⟩ := c
  obtain ⟨oC, es, ep, hoC, hdC, hrC⟩ := hn
  obtain ⟨f0, f1, f2, f3, f4, f5⟩ := f
  have hBC : B.get? ce.locals = some oC := ub.keep _ _ hoC f0 hC
  have hHC : H' ce.locals = none := ub.free _ _ hoC f0
  have hsC : s'.heap.get? ce.locals = some oC := fl.1 _ _ hBC
  -- the ground without the block's names
  have bl : ∀ b o, (PySem.W.hideAll B [ce.locals]).get? b = some o → B.get? b = some o := fun b o e => PySem.W.of_hideAll _ e
  have bk : ∀ b o, B.get? b = some o → b ≠ ce.locals → (PySem.W.hideAll B [ce.locals]).get? b = some o := fun b o e n => PySem.W.hideAll_get _ e (by simpa using n)
  have bn : (PySem.W.hideAll B [ce.locals]).get? ce.locals = none := PySem.W.hideAll_none _ (by simp)
  generalize PySem.W.hideAll B [ce.locals] = B' at bl bk bn
  have bne : ∀ b o, B'.get? b = some o → b ≠ ce.locals := fun b o e z => by rw [z, bn] at e; cases e
  have sl : ∀ b o, (PySem.W.hideAll s.heap [ce.locals]).get? b = some o → s.heap.get? b = some o := fun b o e => PySem.W.of_hideAll _ e
  have sk : ∀ b o, b ≠ ce.locals → s.heap.get? b = some o → (PySem.W.hideAll s.heap [ce.locals]).get? b = some o := fun b o n e => PySem.W.hideAll_get _ e (by simpa using n)
  have sn : (PySem.W.hideAll s.heap [ce.locals]).get? ce.locals = none := PySem.W.hideAll_none _ (by simp)
  generalize PySem.W.hideAll s.heap [ce.locals] = hS at sl sk sn
  have sne : ∀ b o, hS.get? b = some o → b ≠ ce.locals := fun b o e z => by rw [z, sn] at e; cases e
  have I' : Inv X pins σ H { s with heap := hS, toks := s.toks } := I.turned (t' := s.toks) sk f0 f1 f3 f4 f5
  have hok' : HOk X.prog X.w H' B' := fun b o q => (hok b o q).stay (fun c v hc r => bk c v r (by
    rintro rfl
    rcases hc with z | z
    · rw [← z] at q
      rw [hHC] at q
      cases q
    · rw [hHC] at z
      cases z)) (fun _ q => q) fun _ _ q => q
  have fl' : HandSPX.FlyingZ B' X.stack a (Zc cls d) s'.heap := by
    obtain ⟨k1, k2, k3, oe, vs, T, oT, ts, he, hz, hd, h1, hnT, hTe, hT, hdT, h3⟩ := fl
    exact ⟨fun b o e => k1 b o (bl b o e), none_less bl k2, frames_less bl k3, oe, vs, T, oT, ts, he, hz, hd, h1, none_less bl hnT, hTe, hT, hdT, h3⟩
  have nC : ∀ {h : Heap} {m : Str → Option Value} {b : Addr} {o : Obj}, h.Ns ce.locals m → h.get? b = some o → (∃ vs, o.data = .fields vs) → b ≠ ce.locals := fun {h m b o} hn e ⟨vs, hd⟩ z => by
    obtain ⟨o', _, _, ho', hd', _⟩ := hn
    rw [z, ho'] at e
    cases e
    rw [hd'] at hd
    cases hd
  have hnf : ∀ vs, oC.data ≠ .fields vs := fun vs z => by rw [hdC] at z; cases z
  show wpAny _ _ (noteFrame (.ref a) ce) _ _ s'
  rw [noteFrame_env _ hce]
  rw [hst] at fl'
  refine HandSPX.looks_onZ Zc.steady (by rw [hA, hst]) hf fl' fun h1 hh1 up1 => ?_
  obtain ⟨sl1, e1⟩ := up1 _ _ hsC hnf
  have hn1 : h1.Ns ce.locals m := ⟨_, es, ep, e1, hdC, hrC⟩
  refine ⟨m, hn1, fun h2 m2 hn2 sb => ?_⟩
  have hh2 : HandSPX.HeldZ B' (X.env :: X.outer) a (Zc cls d) X.env.locals h2 := by
    obtain ⟨k1, k2, k3, oe, vs, T, oT, ts, he, hz, hd, h1', hnT, hTe, hT, hdT, h3⟩ := hh1
    exact ⟨fun b o e => (sb.2 b (bne b o e)).trans (k1 b o e), k2, Heap.FunFrames.sameBut sb hn2 k3, oe, vs, T, oT, ts, (sb.2 _ (nC hn1 he ⟨_, hd⟩)).trans he, hz, hd, h1', hnT, hTe, (sb.2 _ (nC hn1 hT ⟨_, hdT⟩)).trans hT, hdT, h3⟩
  obtain ⟨oe, vs, T, oT, ts, he, hz, hd, h1', hnT, hTe, hT, hdT, h3⟩ := hh2.2.2.2
  unfold PySem.passOn
  refine wpAny_bind (wpAny_field he hd h1' ?_)
  rw [if_neg (show ¬ ((Value.ref T == Value.none) = true) from by simp)]
  rw [hce, hf]
  refine wpAny_bind (HandSPX.setFlight_onZ hh2 fun h3 hh3 up3 => ?_)
  refine wpAny_throw (tk _ _ (XE.of_held I' hW ⟨a, B', H', cls, d, rfl, by rw [hst]; exact hh3, hok', ?_, na, os, ag, hE⟩))
  refine ⟨fun b o e n hb => bk b o (ub.keep b o (sl b o e) n hb) (sne b o e), fun b o e hb => ?_, fun b o e n => ub.free b o (sl b o e) n, fun b o e hb => ?_, ub.tups, ub.frzs, ub.tbls⟩
  · obtain ⟨sl0, e0⟩ := ub.slot b o (sl b o e) hb
    have hnf' : ∀ vs, o.data ≠ .fields vs := by
      obtain ⟨_, o₀, e₀, hnf⟩ := I'.stack.mem hb
      have e₀ : hS.get? b = some o₀ := e₀
      rw [e] at e₀
      cases e₀
      exact hnf
    obtain ⟨sl1, e1⟩ := up1 _ _ e0 hnf'
    have e2 : h2.get? b = _ := (sb.2 b (sne b o e)).trans e1
    obtain ⟨sl3, e3⟩ := up3 _ _ e2 hnf'
    exact ⟨sl3, e3⟩
  · obtain ⟨o', q⟩ := ub.there b o (sl b o e) hb
    exact ⟨o', bk b o' q (sne b o e)⟩
end
/-- a comprehension whose items may let errors out, told by the def's slots at its start -/
def tLcX (W : WX) (wi : TI) (g : TG) (tt : TT) (te : WX → TE) (vs : List Nat) : TE := fun σ H Q => tLc wi g tt (te fun cls d _ H' => W cls d σ H') vs σ H Q
section
variable {X : Cx} {W : WX}
theorem pe_lcX {elt tg iter : Expr} {ifs : List Expr} {scope : Scope} {own : List (Str × Nat)} {pos : Pos} {wi : TI} {g : TG} {tt : TT} {te : WX → TE} (tk : Takes X W) (hc : X.calm = true) (hst : X.stack = X.env :: X.outer) (hf : X.env.frame = some X.env.locals) (hN : X.N.Nodup)
    (hi : PI X tg iter wi) (ok : BlkOk X.N X.env.scope scope own)
    (hg : ∀ (s : Shared) (H : Hp) (C : Addr) (cl : List (Str × Addr)) (fp : List Addr), PG (X.blk s H scope (compEnvC scope cl C X.env) fp) tg g)
    (ht : ∀ (s : Shared) (H : Hp) (C : Addr) (cl : List (Str × Addr)) (fp : List Addr), PTs (X.blk s H scope (compEnvC scope cl C X.env) fp) ifs tt)
    (he : ∀ (W' : WX) (xe' : Value → Shared → Prop) (s : Shared) (H : Hp) (C : Addr) (cl : List (Str × Addr)) (fp : List Addr), TakesC ((X.blk s H scope (compEnvC scope cl C X.env) fp).wish xe') W' → PE ((X.blk s H scope (compEnvC scope cl C X.env) fp).wish xe') elt (te W'))
    (hs : ∀ x, foldedSetIterable iter X.env x = pure x := by intro _; rfl) : PE X (.ListComp elt [⟨tg, iter, ifs, 0⟩] scope pos) (tLcX W wi g tt te (own.map (·.2))) := by
  refine ⟨fun pins s σ H Q I h => ?_⟩
  have hA : X.A.frames = some X.stack := I.ok.frames
  rw [eval_ListComp]
  have hfree : ∀ y ∈ scope.names, y.2 = .free → ∃ c, X.env.cells.lookup y.1 = some c := fun y hy e => (ok.free y hy e).elim (fun k => I.ok.has _ (.inl k)) fun k => I.ok.has _ (.inr k)
  refine comprehension_at (use := none) rfl hs (closure_ok hfree) ok.kind (fun y hy e => by rw [ok.uniq y hy, e]) (thn (hi.run pins s σ H _ I h) fun xv s1 hx => thn hx fun itv s2 h2 => ?_)
  obtain ⟨it, fp, tn, J, H2, e, I2, T, st2, f2, q⟩ := h2
  subst e
  refine wpAny_newObj_type (newEnv_comp ?_) (by show 0 ≤ sizeLine; decide)
  generalize hD : s2.heap.objs.size = D
  have hDn : H2 D = none := I2.hok.fresh (Nat.le_of_eq hD)
  obtain ⟨Wf, ⟨m0, w0⟩, turn⟩ := q D hDn
  generalize hs3 : ({ s2 with heap := s2.heap.push { cls := .type "list", data := .seq ([] : List Value).toArray } } : Shared) = s3
  have h3 : s3.heap = s2.heap.push { cls := .type "list", data := .seq ([] : List Value).toArray } := by rw [← hs3]
  have I3 : Inv X pins σ (upd H2 D (.lst [])) s3 := by
    rw [← hs3]
    refine I2.laid (t' := s2.toks) (fun b o e => Heap.get?_push_of_some _ e) (Nat.le_of_eq hD) ⟨Nat.zero_le _, [], 0, .nil, ?_⟩
    rw [← hD]
    exact Heap.get?_push_size _ rfl
  have f3 : ∀ b ∈ fp, FpOk X pins (upd H2 D (.lst [])) b ∧ b < s3.heap.objs.size := fun b hb => by
    obtain ⟨o, e, _⟩ := T.obj _ _ st2 b hb
    have hlt := Heap.lt_size e
    refine ⟨⟨?_, (f2 b hb).2⟩, by rw [h3, Heap.size_push]; exact Nat.lt_succ_of_lt hlt⟩
    rw [upd_ne (by rw [← hD]; exact Nat.ne_of_lt hlt)]
    exact (f2 b hb).1
  have st3 : tn 0 s3.heap := T.keep _ _ _ st2 fun b _ o e => by rw [h3]; exact Heap.get?_push_of_some _ e
  have I4 := block_start I3 ok hN f3
  have pg := hg s3 (upd H2 D (.lst [])) s3.heap.objs.size (cellsFrom (s3.heap.objs.size + 1) scope.names (cloFrom X.env.cells scope.names [])) fp
  have pt := ht s3 (upd H2 D (.lst [])) s3.heap.objs.size (cellsFrom (s3.heap.objs.size + 1) scope.names (cloFrom X.env.cells scope.names [])) fp
  have pe := fun xe' => he (fun cls d _ H' => W cls d σ H') xe' s3 (upd H2 D (.lst [])) s3.heap.objs.size (cellsFrom (s3.heap.objs.size + 1) scope.names (cloFrom X.env.cells scope.names [])) fp
  show codeAny _ _ (.compStart (.ListComp elt [⟨tg, iter, ifs, 0⟩] scope pos) 0 (.ref it) (.ref D) (compEnvC scope (cellsFrom (s3.heap.objs.size + 1) scope.names (cloFrom X.env.cells scope.names [])) s3.heap.objs.size X.env)) (compEnds (model X.prog X.w) X.A X.xe none _ (.ref D) (compEnvC scope (cellsFrom (s3.heap.objs.size + 1) scope.names (cloFrom X.env.cells scope.names [])) s3.heap.objs.size X.env)) { s3 with heap := pushCells (s3.heap.push { cls := .type "dict", data := .dict #[] }) scope.names }
  have nfp : ∀ b ∈ fp, (upd H2 D (.lst [])) b = none := fun b hb => (f3 b hb).1.1
  have cF : (compEnvC scope (cellsFrom (s3.heap.objs.size + 1) scope.names (cloFrom X.env.cells scope.names [])) s3.heap.objs.size X.env).frame = X.env.frame := rfl
  generalize hce : compEnvC scope (cellsFrom (s3.heap.objs.size + 1) scope.names (cloFrom X.env.cells scope.names [])) s3.heap.objs.size X.env = ce at I4 pg pt pe cF ⊢
  have cL : ce.locals = s3.heap.objs.size := by subst hce; rfl
  generalize hH3 : upd H2 D (.lst []) = H3 at I3 I4 pg pt pe w0 nfp f3
  generalize hs4 : ({ s3 with heap := pushCells (s3.heap.push { cls := .type "dict", data := .dict #[] }) scope.names } : Shared) = s4 at I4 ⊢
  have st4 : tn 0 s4.heap := T.keep _ _ _ st3 fun b _ o e => by rw [← hs4]; exact pushCells_keeps _ _ _ _ (Heap.get?_push_of_some _ e)
  have stat : ∀ {σ' : St} {H' : Hp} {s' : Shared}, Inv (X.blk s3 H3 scope ce fp) [] σ' H' s' → (∀ b ∈ fp, H' b = none) → ∀ b ∈ fp, FpOk (X.blk s3 H3 scope ce fp) [] H' b := fun {σ' H' s'} I' hn b hb =>
    ⟨hn b hb, (I'.ok.exf b hb).1, I'.ok.exfs b hb, .inl hb, fun x c e => (I'.ok.exf b hb).2 x c e, fun p hp => absurd (show p ∈ ([] : List (Addr × Obj)) ++ [] from hp) (by simp)⟩
  -- a state of the block, seen from the def
  have out : ∀ {pins' : List (Addr × Obj)} {σ' : St} {H' : Hp} {s' : Shared}, Inv (X.blk s3 H3 scope ce fp) pins' σ' H' s' → Inv X pins σ H' s' ∧ FpOk X pins H' ce.locals ∧ ce.locals ∉ frs X.stack ∧ ∃ m, s'.heap.Ns ce.locals m := fun {pins' σ' H' s'} I' => by
    obtain ⟨m, hn, _⟩ := I'.loc
    have hn : s'.heap.Ns ce.locals m := hn
    have nC : H' ce.locals = none := I'.free
    refine ⟨I3.call' (ch := fp) I'.os I'.base I'.hok I'.bare fun b hb => ⟨(f3 b hb).1.2.2.2.1, (f3 b hb).1.2.1, (f3 b hb).1.2.2.2.2.1, (f3 b hb).1.2.2.2.2.2⟩, I3.fpOk (by rw [cL]; exact Nat.le_refl _) nC, fun hm => ?_, m, hn⟩
    obtain ⟨_, o₀, e₀, _⟩ := I3.stack.mem hm
    have := Heap.lt_size e₀
    rw [cL] at this
    exact absurd this (Nat.lt_irrefl _)
  have loop : codeAny (model X.prog X.w) X.A (.compLoop (.ListComp elt [⟨tg, iter, ifs, 0⟩] scope pos) 0 (.ref it) (.ref D) ce) (compEnds (model X.prog X.w) X.A X.xe none (EP X pins σ Q) (.ref D) ce) s4 := by
    refine compLoop_any (fun n s' => ∃ i H', Inv (X.blk s3 H3 scope ce fp) [] (wipe σ (own.map (·.2))) H' s' ∧ tn i s'.heap ∧ (∀ b ∈ fp, H' b = none) ∧ Wf i n H') ?_ m0 ⟨0, H3, I4, st4, nfp, w0⟩
    rintro n s5 ⟨i, H5, I5, st5, n5, w5⟩
    rcases turn i n H5 w5 with ⟨stop, qq⟩ | ⟨go, Nx, hNx, step⟩
    · have td := T.done (X.blk s3 H3 scope ce fp) rfl rfl rfl hc i [] s5 _ H5 (fun _ _ => False) I5 (stat I5 n5) st5 stop
      refine thnF td fun r s6 ⟨hr, I6⟩ => ?_
      subst hr
      obtain ⟨I7, f7, _, m, hn⟩ := out I6
      refine ⟨m, hn, fun h'' sb => ?_⟩
      obtain ⟨f0, f1, f2, f3, f4, f5⟩ := f7
      exact ⟨.ref D, H5, I7.turned (t' := s6.toks) (fun b o hb e => (sb.2 b hb).trans e) f0 f1 f3 f4 f5, rfl, qq⟩
    · have ti := T.item (X.blk s3 H3 scope ce fp) rfl rfl rfl hc i [] s5 _ H5 (fun _ _ => False) I5 (stat I5 n5) st5 go
      refine thnF ti fun r s6 ⟨u, hr, h6⟩ => ?_
      subst hr
      refine thnF h6 fun _ s7 ⟨x, H7, I7, r7, y7, st7, n7⟩ => ?_
      have I7' := I7.pinned (stat I7 n7) (T.obj _ _ st7)
      refine thnF (pg.run _ s7 _ H7 x u _ I7' r7 (step x H7 y7)) fun _ s8 ⟨σ8, H8, I8, hw8, q8⟩ => ?_
      refine thnF (pt.run _ s8 σ8 H8 _ I8 q8) fun b s9 ⟨H9, I9, q9⟩ => ?_
      have fin : ∀ {s' : Shared} {H' : Hp}, Inv (X.blk s3 H3 scope ce fp) ([] ++ pinsAt fp s7.heap) σ8 H' s' → Nx H' → ∃ m, m < n ∧ ∃ i H', Inv (X.blk s3 H3 scope ce fp) [] (wipe σ (own.map (·.2))) H' s' ∧ tn i s'.heap ∧ (∀ b ∈ fp, H' b = none) ∧ Wf i m H' := fun {s' H'} I' nx => by
        obtain ⟨m', hm, w'⟩ := hNx H' nx
        have pin' : ∀ b ∈ fp, ∀ o, s7.heap.get? b = some o → s'.heap.get? b = some o ∧ H' b = none := fun b hb o e =>
          let z := I'.pin (b, o) (List.mem_append_right _ (List.mem_append_right _ (mem_pinsAt hb e)))
          ⟨z.1, z.2.1⟩
        have hl : (wipe σ (own.map (·.2))).length = σ8.length := by rw [← hw8, wipe_length]
        refine ⟨m', hm, i + 1, H', (I'.unpinned (pins := [])).weak hl (fun j v e => ?_), T.keep _ _ _ st7 fun b hb o e => (pin' b hb o e).1, fun b hb => ?_, w'⟩
        · rw [← hw8] at e
          exact (wipe_some e).1
        · obtain ⟨o, e, _⟩ := T.obj _ _ st7 b hb
          exact (pin' b hb o e).2
      cases b with
      | false =>
        simp only [Bool.false_eq_true, if_false] at q9 ⊢
        exact fin I9 q9
      | true =>
        simp only [if_true] at q9 ⊢
        -- an error behind a call of the item
        let XN : Value → Shared → Prop := fun u s' => ∃ (E : XK) (pins' : List (Addr × Obj)) (σ' : St) (H' : Hp) (sc : Shared), Inv (X.blk s3 H3 scope ce fp) pins' σ' H' sc ∧ CX X.prog X.w X.stack H' sc E u s' ∧ ∀ cls d H'', E cls d H'' → W cls d σ H''
        have tkc : TakesC ((X.blk s3 H3 scope ce fp).wish XN) (fun cls d _ H' => W cls d σ H') := fun σ' pins' H' sc u s' I' c => ⟨_, pins', σ', H', sc, I'.unwish, c, fun _ _ _ h => h⟩
        refine wpAny_mono ((pe XN tkc).run _ s9 σ8 H9 _ (I9.wish XN) q9) (fun z s10 told => ?_) fun u s' err => ?_
        · obtain ⟨yv, H10, I10, r10, acc, hD10, hz10, nx⟩ := told
          exact app_ok (X := X.blk s3 H3 scope ce fp) I10.unwish hD10 hz10 r10 fun s11 I11 => fin I11 nx
        · obtain ⟨E, pins', σ', H', sc, I', c, hW⟩ := err
          obtain ⟨Id, fd, nm, m, hn⟩ := out I'
          exact block_err Id hst hf hA cF rfl hn fd nm tk hW c
  exact codeAny_compStart_list loop (T.self X.A 0 _ _ _ st4 loop)
end
end L2
namespace Tw
open PySem L2 PySem.Spec
section
variable {X : Cx} {k j : Nat} {C : Addr} {x m : Str} {p pos apos : Pos} {o e : Expr} {es : List Expr} {ps : List Str} {sp : Sp} {t : TA} {W : WX} {σ : L2.St} {H : Hp} {Q : VK}
/-- a call of a def that may let an error out, where calls' errors are taken -/
theorem pe_defXC (tk : TakesC X W) (D : DefX X.prog X.w X.K X.mg X.base k x ps sp) (hr : Room j X.A) (hg : Gl X x) (ha : PA X (e :: es) t) (hk : k ≤ j := by decide) (hdb : (x == ("__debug__" : Str)) = false := by decide)
    (he : starEach (e :: es) X.env = (false, eval e X.env) :: starEach es X.env := by rfl) (hpl : (backTo pos (starEach es X.env)).any (·.1) = false := by rfl) : PE X (.Call (.Name x p) (e :: es) [] pos) (tCallS sp (WE W) t) := by
  obtain ⟨f, fd, F, hm, hkp, hb⟩ := D.ex
  exact pe_callS F (hr.mono hk) hg hm hkp hb tk ha hdb he hpl
theorem g_lcX {wi : TI} {g : TG} {tt : TT} {te : WX → TE} {vs : List Nat} (q : tLc wi g tt (te fun cls d _ H' => W cls d σ H') vs σ H Q) : tLcX W wi g tt te vs σ H Q := q
/-- d.get(y, x) -/
theorem pe_dget2X {a b c : Expr} {ta tb tc : TE} (hu : X.A.units + 1 < cLine) (ho : PE X a ta) (he : PE X b tb) (hf : PE X c tc) (h1 : attributeBase a "get" X.env (eval a X.env) = eval a X.env := by rfl)
    (h2 : ((backTo pos (starEach [b, c] X.env)).all (fun x => !x.1) && (backToKw pos (keywordEach [] X.env)).all (fun x => x.1.isSome) && decide (([b, c] : List Expr).length + ([] : List Keyword).length + (if ([] : List Keyword).isEmpty then 0 else 1) < 30)) = true := by rfl)
    (h3 : (apos.endLine == pos.line) = true := by rfl) (h4 : backTo pos (starEach [b, c] X.env) = [(false, eval b X.env), (false, eval c X.env)] := by rfl) : PE X (.Call (.Attribute a "get" apos) [b, c] [] pos) (tDGet2 ta tb tc) := pe_dget2 hu ho he hf ⟨h1, h2, h3, h4⟩
theorem g_dget2 {td ty tx : TE} (q : td σ H fun x H1 => ∃ a, x = .ref a ∧ IsD H1 a ∧ ty σ H1 fun y H2 => tx σ H2 fun z H3 => ∃ o, DGet H3 a y o ∧ Q (o.getD z) H3) : tDGet2 td ty tx σ H Q := q
end
end Tw


set_option Elab.async false
set_option linter.all false
set_option maxRecDepth 100000
set_option maxHeartbeats 4000000
namespace L
open PySem L2 Tw
local macro_rules | `(tactic| walk_at "hp") => `(tactic| first
  | assumption
  | with_reducible exact upd_same
  | (with_reducible refine Eq.trans (upd_ne ?hn) ?hr; (case hn => first | assumption | exact Ne.symm (by assumption)); (case hr => walk_at "hp")))
local macro_rules | `(tactic| walk_at "g1") => `(tactic| first
  | with_reducible refine g_nx ?_
  | with_reducible refine g_rt ?_
  | with_reducible refine g_seq ?_
  | with_reducible refine g_ret ?_
  | with_reducible refine g_if ?_
  | with_reducible refine g_asg ?_
  | with_reducible refine g_drop ?_
  | with_reducible refine g_asgSub ?_
  | with_reducible refine g_next ?_
  | with_reducible refine g_op ?_
  | ((with_reducible refine g_var0 ?_); refine ⟨_, rfl, ?_⟩)
  | with_reducible refine g_c ?_
  | with_reducible refine g_cons ?_
  | with_reducible refine g_nil ?_
  | with_reducible refine g_def ?_
  | with_reducible refine g_cb ?_
  | with_reducible refine g_test ?_
  | with_reducible refine g_B ?_
  | with_reducible refine g_bl ?_
  | with_reducible refine g_sl ?_
  | with_reducible refine g_name ?_
  | with_reducible refine g_lc ?_
  | with_reducible refine g_rng1 ?_
  | with_reducible refine g_for ?_
  | with_reducible refine g_yes ?_
  | with_reducible refine g_ilist ?_
  | ((with_reducible refine g_m1 ?_))
  | with_reducible refine g_m0 ?_
  | with_reducible refine g_noPart ?_
  | with_reducible refine g_part ?_
  | with_reducible refine g_int ?_
  | with_reducible refine g_tand ?_
  | with_reducible refine g_tor ?_
  | with_reducible refine g_tnot ?_
  | with_reducible refine g_vand ?_
  | with_reducible refine g_vor ?_
  | with_reducible refine g_vnot ?_
  | with_reducible refine g_eif ?_
  | with_reducible refine g_un ?_
  | with_reducible refine g_addI ?_
  | with_reducible refine g_subI ?_
  | with_reducible refine g_negI ?_
  | with_reducible refine g_ltI ?_
  | with_reducible refine g_ltS ?_
  | with_reducible refine g_leI ?_
  | with_reducible refine g_geS ?_
  | with_reducible refine g_inS ?_
  | with_reducible refine g_notInS ?_
  | with_reducible refine g_max2 ?_
  | ((with_reducible refine g_isiR0 ?_); refine ⟨by assumption, by decide, ?_⟩)
  | with_reducible refine g_isBl_tt ?_
  | with_reducible refine g_notBl_tt ?_
  | with_reducible refine g_isBl_tf ?_
  | with_reducible refine g_notBl_tf ?_
  | with_reducible refine g_isBl_ft ?_
  | with_reducible refine g_notBl_ft ?_
  | with_reducible refine g_isBl_ff ?_
  | with_reducible refine g_notBl_ff ?_
  | with_reducible refine g_isBl ?_
  | with_reducible refine g_notBl ?_
  | with_reducible refine g_istr ?_
  | with_reducible refine g_str1 ?_
  | with_reducible refine g_strE ?_
  | with_reducible refine g_gtI ?_
  | with_reducible refine g_geI ?_
  | with_reducible refine g_isN_non ?_
  | with_reducible refine g_isN_int ?_
  | with_reducible refine g_isN_str ?_
  | with_reducible refine g_isN_bl ?_
  | with_reducible refine g_isN_ref ?_
  | with_reducible refine g_notN_non ?_
  | with_reducible refine g_notN_int ?_
  | with_reducible refine g_notN_str ?_
  | with_reducible refine g_notN_bl ?_
  | with_reducible refine g_notN_ref ?_
  | with_reducible refine g_isN ?_
  | with_reducible refine g_notN ?_
  | with_reducible refine g_isiI kb_ii ?_
  | with_reducible refine g_isiI kb_is ?_
  | with_reducible refine g_isiI kb_ib ?_
  | with_reducible refine g_isiS kb_si ?_
  | with_reducible refine g_isiS kb_ss ?_
  | with_reducible refine g_isiS kb_sb ?_
  | with_reducible refine g_isiB kb_bi ?_
  | with_reducible refine g_isiB kb_bs ?_
  | with_reducible refine g_isiB kb_bb ?_
  | with_reducible refine g_isiN kb_ni ?_
  | with_reducible refine g_isiN kb_ns ?_
  | with_reducible refine g_isiN kb_nb ?_
  | with_reducible refine g_eqI ?_
  | with_reducible refine g_eqS ?_
  | with_reducible refine g_eqB ?_
  | with_reducible refine g_neI ?_
  | with_reducible refine g_neS ?_
  | with_reducible refine g_int1 ?_
  | with_reducible refine g_int1B ?_
  | with_reducible refine g_bool1B ?_
  | with_reducible refine g_bool1I ?_
  | ((with_reducible refine g_modI ?gm ?_); (case gm => first | assumption | decide | omega))
  | ((with_reducible refine g_mulI ?gm ?_); (case gm => first | exact Or.inl ⟨by decide, by decide⟩ | exact Or.inr ⟨by decide, by decide⟩ | (unfold CMul; omega)))
  | with_reducible refine g_tup ?_
  | with_reducible refine g_lst ?_
  | with_reducible refine g_bm ?_
  | ((with_reducible refine g_tyL ?_); refine ⟨⟨_, by walk_at "hp"⟩, ?_⟩)
  | ((with_reducible refine g_app0 ?_); (refine' ⟨_, ?ga, ?gb, ?_⟩; (case ga => walk_at "hp"); (case gb => first | assumption | (simp only [List.length_map, List.length_append, List.length_cons, List.length_nil]; omega) | omega)))
  | ((with_reducible refine g_ixL0 ?_); (refine' ⟨_, _, ?ga, ?gb, ?_⟩; (case ga => walk_at "hp"); (case gb => exact rfl)))
  | ((with_reducible refine g_ixL0 ?_); (refine' ⟨_, _, ?ga, atI_map ?gb, ?_⟩; (case ga => walk_at "hp"); (case gb => omega)))
  | ((with_reducible refine g_powI ?gm ?_); (case gm => first | exact ⟨by decide, by decide +kernel⟩ | exact cpow_small (by decide) (by decide) (by omega) (by omega)))
  | ((with_reducible refine g_fdI ?gm ?_); (case gm => first | exact ⟨by assumption, by assumption⟩ | exact ⟨by decide, by decide +kernel⟩))
  | ((with_reducible refine g_lenL0 ?_); (refine' ⟨_, ?ga, ?_⟩; (case ga => walk_at "hp")))
  | ((with_reducible refine g_setL0 ?_); (refine' ⟨_, _, ?ga, ?gb, ?_⟩; (case ga => walk_at "hp"); (case gb => exact rfl)))
  | with_reducible refine g_itup ?_
  | with_reducible refine g_lc2 ?_
  | with_reducible refine g_sortedSet ?_
  | with_reducible refine g_dget ?_
  | with_reducible refine g_din ?_
  | with_reducible refine g_dnotin ?_
  | with_reducible refine g_neB ?_
  | with_reducible refine g_opW ?_
  | with_reducible refine g_unW ?_
  | with_reducible refine g_callS ?_
  | with_reducible refine g_meX ?_
  | with_reducible refine g_me ?_
  | with_reducible refine g_new ?_
  | with_reducible refine g_sfld ?_
  | with_reducible refine g_fld ?_
  | with_reducible refine g_T ?_
  | with_reducible refine g_F ?_
  | with_reducible refine g_Tn ?_
  | with_reducible refine g_Fn ?_
  | with_reducible refine g_bk ?_
  | with_reducible refine g_ct ?_
  | with_reducible refine g_ctS ?_
  | with_reducible refine g_bkS ?_)
local macro_rules | `(tactic| walk_at "g") => `(tactic| repeat walk_at "g1")
local macro_rules | `(tactic| walk_at "G") => `(tactic| (walk_at "g"; try ((first | with_reducible refine g_dec (fun _ => ?_) (fun _ => ?_) | with_reducible refine g_ndec (fun _ => ?_) (fun _ => ?_)) <;> walk_at "G")))
local macro_rules | `(tactic| walk_at "g1") => `(tactic| first
  | with_reducible refine g_lcX ?_
  | with_reducible refine g_dget2 ?_)
def C_SIGNS : Str := Str.ofString " !\"#$&'()*+,-./0123456789:;<=>?@ABCDEFGHIJKLMNOPQRSTUVWXYZ[\\]^_`abcdefghijklmnopqrstuvwxyz{|}~"
def C_LETTERS : Str := Str.ofString "abcdefghijklmnopqrstuvwxyz"
def C_WORDS : List V := [.str "and", .str "or", .str "not", .str "sure", .str "in", .str "is", .str "empty", .str "begins", .str "always", .str "never"]
def C_NAME_SIGNS : Str := Str.ofString "abcdefghijklmnopqrstuvwxyz0123456789"
def C_OPS : List V := [.str "<", .str "<=", .str "==", .str "!=", .str ">", .str ">="]
def top (i : Nat) : Stmt := PySem.Challenge.pw_tworows_k08_equal_and_renamed.main.body.getD i (.Pass ⟨0, 0, 0, 0⟩)
abbrev S_is_integer : Stmt := top 10
abbrev N_is_integer : List Str := ["thing"]
theorem sc_is_integer : FnScope N_is_integer ["thing"] (defScope S_is_integer) := ⟨rfl, rfl, rfl, by decide +kernel, rfl, by decide +kernel, by decide +kernel⟩
abbrev S_is_sequence : Stmt := top 11
abbrev N_is_sequence : List Str := ["thing"]
theorem sc_is_sequence : FnScope N_is_sequence ["thing"] (defScope S_is_sequence) := ⟨rfl, rfl, rfl, by decide +kernel, rfl, by decide +kernel, by decide +kernel⟩
abbrev S_is_text : Stmt := top 12
abbrev N_is_text : List Str := ["thing", "sign"]
theorem sc_is_text : FnScope N_is_text ["thing"] (defScope S_is_text) := ⟨rfl, rfl, rfl, by decide +kernel, rfl, by decide +kernel, by decide +kernel⟩
abbrev S_is_name : Stmt := top 13
abbrev N_is_name : List Str := ["thing", "sign"]
theorem sc_is_name : FnScope N_is_name ["thing"] (defScope S_is_name) := ⟨rfl, rfl, rfl, by decide +kernel, rfl, by decide +kernel, by decide +kernel⟩
abbrev S_kind_of : Stmt := top 14
abbrev N_kind_of : List Str := ["value"]
theorem sc_kind_of : FnScope N_kind_of ["value"] (defScope S_kind_of) := ⟨rfl, rfl, rfl, by decide +kernel, rfl, by decide +kernel, by decide +kernel⟩
abbrev S_Test_init : Stmt := inClass (top 20) 0
abbrev N_Test_init : List Str := ["self", "word", "inner", "fields", "terms"]
theorem sc_Test_init : FnScope N_Test_init ["self", "word", "inner", "fields", "terms"] (defScope S_Test_init) := ⟨rfl, rfl, rfl, by decide +kernel, rfl, by decide +kernel, by decide +kernel⟩
abbrev S_Test_atoms : Stmt := inClass (top 20) 3
abbrev N_Test_atoms : List Str := ["self", "part", "atom"]
theorem sc_Test_atoms : FnScope N_Test_atoms ["self"] (defScope S_Test_atoms) := ⟨rfl, rfl, rfl, by decide +kernel, rfl, by decide +kernel, by decide +kernel⟩
abbrev S_Test_names : Stmt := inClass (top 20) 4
abbrev N_Test_names : List Str := ["self", "names", "atom", "name"]
theorem sc_Test_names : FnScope N_Test_names ["self"] (defScope S_Test_names) := ⟨rfl, rfl, rfl, by decide +kernel, rfl, by decide +kernel, by decide +kernel⟩
abbrev S_Test_renamed : Stmt := inClass (top 20) 6
abbrev N_Test_renamed : List Str := ["self", "mapping"]
theorem sc_Test_renamed : FnScope N_Test_renamed ["self", "mapping"] (defScope S_Test_renamed) := ⟨rfl, rfl, rfl, by decide +kernel, rfl, by decide +kernel, by decide +kernel⟩
abbrev S_Test_truth : Stmt := inClass (top 20) 7
abbrev N_Test_truth : List Str := ["self", "row", "name"]
theorem sc_Test_truth : FnScope N_Test_truth ["self", "row"] (defScope S_Test_truth) := ⟨rfl, rfl, rfl, by decide +kernel, rfl, by decide +kernel, by decide +kernel⟩
abbrev S_Test_and : Stmt := inClass (top 20) 8
abbrev N_Test_and : List Str := ["self", "other"]
theorem sc_Test_and : FnScope N_Test_and ["self", "other"] (defScope S_Test_and) := ⟨rfl, rfl, rfl, by decide +kernel, rfl, by decide +kernel, by decide +kernel⟩
abbrev S_Test_or : Stmt := inClass (top 20) 9
abbrev N_Test_or : List Str := ["self", "other"]
theorem sc_Test_or : FnScope N_Test_or ["self", "other"] (defScope S_Test_or) := ⟨rfl, rfl, rfl, by decide +kernel, rfl, by decide +kernel, by decide +kernel⟩
abbrev S_Test_invert : Stmt := inClass (top 20) 10
abbrev N_Test_invert : List Str := ["self"]
theorem sc_Test_invert : FnScope N_Test_invert ["self"] (defScope S_Test_invert) := ⟨rfl, rfl, rfl, by decide +kernel, rfl, by decide +kernel, by decide +kernel⟩
abbrev S_Test_eq : Stmt := inClass (top 20) 11
abbrev N_Test_eq : List Str := ["self", "other"]
theorem sc_Test_eq : FnScope N_Test_eq ["self", "other"] (defScope S_Test_eq) := ⟨rfl, rfl, rfl, by decide +kernel, rfl, by decide +kernel, by decide +kernel⟩
abbrev S_size_of : Stmt := top 21
abbrev N_size_of : List Str := ["inner", "part"]
theorem sc_size_of : FnScope N_size_of ["inner"] (defScope S_size_of) := ⟨rfl, rfl, rfl, by decide +kernel, rfl, by decide +kernel, by decide +kernel⟩
abbrev S_depth_of : Stmt := top 22
abbrev N_depth_of : List Str := ["inner", "depth", "part"]
theorem sc_depth_of : FnScope N_depth_of ["inner"] (defScope S_depth_of) := ⟨rfl, rfl, rfl, by decide +kernel, rfl, by decide +kernel, by decide +kernel⟩
abbrev S_combined : Stmt := top 23
abbrev N_combined : List Str := ["word", "inner", "test"]
theorem sc_combined : FnScope N_combined ["word", "inner"] (defScope S_combined) := ⟨rfl, rfl, rfl, by decide +kernel, rfl, by decide +kernel, by decide +kernel⟩
abbrev S_need_column : Stmt := top 24
abbrev N_need_column : List Str := ["thing"]
theorem sc_need_column : FnScope N_need_column ["thing"] (defScope S_need_column) := ⟨rfl, rfl, rfl, by decide +kernel, rfl, by decide +kernel, by decide +kernel⟩
abbrev S_need_op : Stmt := top 25
abbrev N_need_op : List Str := ["thing"]
theorem sc_need_op : FnScope N_need_op ["thing"] (defScope S_need_op) := ⟨rfl, rfl, rfl, by decide +kernel, rfl, by decide +kernel, by decide +kernel⟩
abbrev S_need_values : Stmt := top 26
abbrev N_need_values : List Str := ["thing", "value"]
theorem sc_need_values : FnScope N_need_values ["thing"] (defScope S_need_values) := ⟨rfl, rfl, rfl, by decide +kernel, rfl, by decide +kernel, by decide +kernel⟩
abbrev S_compare : Stmt := top 27
abbrev N_compare : List Str := ["column", "op", "value"]
theorem sc_compare : FnScope N_compare ["column", "op", "value"] (defScope S_compare) := ⟨rfl, rfl, rfl, by decide +kernel, rfl, by decide +kernel, by decide +kernel⟩
abbrev S_against : Stmt := top 28
abbrev N_against : List Str := ["column", "op", "other", "more"]
theorem sc_against : FnScope N_against ["column", "op", "other", "more"] (defScope S_against) := ⟨rfl, rfl, rfl, by decide +kernel, rfl, by decide +kernel, by decide +kernel⟩
abbrev S_among : Stmt := top 29
abbrev N_among : List Str := ["column", "values"]
theorem sc_among : FnScope N_among ["column", "values"] (defScope S_among) := ⟨rfl, rfl, rfl, by decide +kernel, rfl, by decide +kernel, by decide +kernel⟩
abbrev S_begins : Stmt := top 30
abbrev N_begins : List Str := ["column", "prefix"]
theorem sc_begins : FnScope N_begins ["column", "prefix"] (defScope S_begins) := ⟨rfl, rfl, rfl, by decide +kernel, rfl, by decide +kernel, by decide +kernel⟩
abbrev S_empty : Stmt := top 31
abbrev N_empty : List Str := ["column"]
theorem sc_empty : FnScope N_empty ["column"] (defScope S_empty) := ⟨rfl, rfl, rfl, by decide +kernel, rfl, by decide +kernel, by decide +kernel⟩
abbrev S_always : Stmt := top 32
abbrev N_always : List Str := []
theorem sc_always : FnScope N_always [] (defScope S_always) := ⟨rfl, rfl, rfl, by decide +kernel, rfl, by decide +kernel, by decide +kernel⟩
abbrev S_never : Stmt := top 33
abbrev N_never : List Str := []
theorem sc_never : FnScope N_never [] (defScope S_never) := ⟨rfl, rfl, rfl, by decide +kernel, rfl, by decide +kernel, by decide +kernel⟩
abbrev S_sure : Stmt := top 34
abbrev N_sure : List Str := ["test"]
theorem sc_sure : FnScope N_sure ["test"] (defScope S_sure) := ⟨rfl, rfl, rfl, by decide +kernel, rfl, by decide +kernel, by decide +kernel⟩
abbrev S_renamed_by : Stmt := top 35
abbrev N_renamed_by : List Str := ["test", "mapping", "inner", "fields", "name", "part"]
theorem sc_renamed_by : FnScope N_renamed_by ["test", "mapping"] (defScope S_renamed_by) := ⟨rfl, rfl, rfl, by decide +kernel, rfl, by decide +kernel, by decide +kernel⟩
abbrev S_and_truth : Stmt := top 36
abbrev N_and_truth : List Str := ["one", "other"]
theorem sc_and_truth : FnScope N_and_truth ["one", "other"] (defScope S_and_truth) := ⟨rfl, rfl, rfl, by decide +kernel, rfl, by decide +kernel, by decide +kernel⟩
abbrev S_or_truth : Stmt := top 37
abbrev N_or_truth : List Str := ["one", "other"]
theorem sc_or_truth : FnScope N_or_truth ["one", "other"] (defScope S_or_truth) := ⟨rfl, rfl, rfl, by decide +kernel, rfl, by decide +kernel, by decide +kernel⟩
abbrev S_not_truth : Stmt := top 38
abbrev N_not_truth : List Str := ["one"]
theorem sc_not_truth : FnScope N_not_truth ["one"] (defScope S_not_truth) := ⟨rfl, rfl, rfl, by decide +kernel, rfl, by decide +kernel, by decide +kernel⟩
abbrev S_combined_truth : Stmt := top 39
abbrev N_combined_truth : List Str := ["word", "truths"]
theorem sc_combined_truth : FnScope N_combined_truth ["word", "truths"] (defScope S_combined_truth) := ⟨rfl, rfl, rfl, by decide +kernel, rfl, by decide +kernel, by decide +kernel⟩
abbrev S_truth_at : Stmt := top 40
abbrev N_truth_at : List Str := ["test", "row", "part"]
theorem sc_truth_at : FnScope N_truth_at ["test", "row"] (defScope S_truth_at) := ⟨rfl, rfl, rfl, by decide +kernel, rfl, by decide +kernel, by decide +kernel⟩
abbrev S_atom_truth : Stmt := top 41
abbrev N_atom_truth : List Str := ["atom", "row", "held", "value", "name"]
theorem sc_atom_truth : FnScope N_atom_truth ["atom", "row"] (defScope S_atom_truth) := ⟨rfl, rfl, rfl, by decide +kernel, rfl, by decide +kernel, by decide +kernel⟩
abbrev S_values_truth : Stmt := top 42
abbrev N_values_truth : List Str := ["atom", "held"]
theorem sc_values_truth : FnScope N_values_truth ["atom", "held"] (defScope S_values_truth) := ⟨rfl, rfl, rfl, by decide +kernel, rfl, by decide +kernel, by decide +kernel⟩
abbrev S_moved : Stmt := top 43
abbrev N_moved : List Str := ["value", "more"]
theorem sc_moved : FnScope N_moved ["value", "more"] (defScope S_moved) := ⟨rfl, rfl, rfl, by decide +kernel, rfl, by decide +kernel, by decide +kernel⟩
abbrev S_related : Stmt := top 44
abbrev N_related : List Str := ["one", "op", "other"]
theorem sc_related : FnScope N_related ["one", "op", "other"] (defScope S_related) := ⟨rfl, rfl, rfl, by decide +kernel, rfl, by decide +kernel, by decide +kernel⟩
abbrev S__law_begin : Stmt := top 52
abbrev N__law_begin : List Str := ["_law_script"]
theorem sc__law_begin : FnScope N__law_begin ["_law_script"] (defScope S__law_begin) := ⟨rfl, rfl, rfl, by decide +kernel, rfl, by decide +kernel, by decide +kernel⟩
abbrev S__law_take : Stmt := top 53
abbrev N__law_take : List Str := ["_law_draw", "_law_many", "_law_cell", "_law_digit", "_law_mixed"]
theorem sc__law_take : FnScope N__law_take ["_law_draw", "_law_many"] (defScope S__law_take) := ⟨rfl, rfl, rfl, by decide +kernel, rfl, by decide +kernel, by decide +kernel⟩
abbrev S__law_is_truth : Stmt := top 54
abbrev N__law_is_truth : List Str := ["_law_thing_here"]
theorem sc__law_is_truth : FnScope N__law_is_truth ["_law_thing_here"] (defScope S__law_is_truth) := ⟨rfl, rfl, rfl, by decide +kernel, rfl, by decide +kernel, by decide +kernel⟩
abbrev S__law_chars : Stmt := top 55
abbrev N__law_chars : List Str := ["_law_chars_here"]
theorem sc__law_chars : FnScope N__law_chars [] (defScope S__law_chars) := ⟨rfl, rfl, rfl, by decide +kernel, rfl, by decide +kernel, by decide +kernel⟩
abbrev S__law_number : Stmt := top 56
abbrev N__law_number : List Str := ["_law_draw", "_law_choice"]
theorem sc__law_number : FnScope N__law_number ["_law_draw"] (defScope S__law_number) := ⟨rfl, rfl, rfl, by decide +kernel, rfl, by decide +kernel, by decide +kernel⟩
abbrev S__law_text : Stmt := top 57
abbrev N__law_text : List Str := ["_law_draw", "_law_chars_here", "_law_size", "_law_k"]
theorem sc__law_text : FnScope N__law_text ["_law_draw"] (defScope S__law_text) := ⟨rfl, rfl, rfl, by decide +kernel, rfl, by decide +kernel, by decide +kernel⟩
abbrev S__law_value : Stmt := top 58
abbrev N__law_value : List Str := ["_law_draw", "_law_kind"]
theorem sc__law_value : FnScope N__law_value ["_law_draw", "_law_kind"] (defScope S__law_value) := ⟨rfl, rfl, rfl, by decide +kernel, rfl, by decide +kernel, by decide +kernel⟩
abbrev S__law_name : Stmt := top 59
abbrev N__law_name : List Str := ["_law_draw", "_law_taken", "_law_letters", "_law_signs", "_law_name_here", "_law_k", "_law_kept"]
theorem sc__law_name : FnScope N__law_name ["_law_draw", "_law_taken"] (defScope S__law_name) := ⟨rfl, rfl, rfl, by decide +kernel, rfl, by decide +kernel, by decide +kernel⟩
abbrev S__law_columns : Stmt := top 60
abbrev N__law_columns : List Str := ["_law_draw", "_law_most", "_law_names_here", "_law_columns_here", "_law_k", "_law_name_here", "_law_kind"]
theorem sc__law_columns : FnScope N__law_columns ["_law_draw", "_law_most"] (defScope S__law_columns) := ⟨rfl, rfl, rfl, by decide +kernel, rfl, by decide +kernel, by decide +kernel⟩
abbrev S__law_atom : Stmt := top 61
abbrev N__law_atom : List Str := ["_law_draw", "_law_columns_here", "_law_column", "_law_name_here", "_law_kind", "_law_op_here", "_law_choice", "_law_others", "_law_added", "_law_one", "_law_k"]
theorem sc__law_atom : FnScope N__law_atom ["_law_draw", "_law_columns_here"] (defScope S__law_atom) := ⟨rfl, rfl, rfl, by decide +kernel, rfl, by decide +kernel, by decide +kernel⟩
abbrev S__law_wrapped : Stmt := top 62
abbrev N__law_wrapped : List Str := ["_law_form_here", "_law_choice"]
theorem sc__law_wrapped : FnScope N__law_wrapped ["_law_form_here", "_law_choice"] (defScope S__law_wrapped) := ⟨rfl, rfl, rfl, by decide +kernel, rfl, by decide +kernel, by decide +kernel⟩
abbrev S__law_form : Stmt := top 63
abbrev N__law_form : List Str := ["_law_draw", "_law_columns_here", "_law_most", "_law_pool", "_law_k", "_law_at", "_law_word", "_law_linked"]
theorem sc__law_form : FnScope N__law_form ["_law_draw", "_law_columns_here", "_law_most"] (defScope S__law_form) := ⟨rfl, rfl, rfl, by decide +kernel, rfl, by decide +kernel, by decide +kernel⟩
abbrev S__law_make : Stmt := top 64
abbrev N__law_make : List Str := ["_law_form_here", "_law_word"]
theorem sc__law_make : FnScope N__law_make ["_law_form_here"] (defScope S__law_make) := ⟨rfl, rfl, rfl, by decide +kernel, rfl, by decide +kernel, by decide +kernel⟩
abbrev S__law_compared : Stmt := top 65
abbrev N__law_compared : List Str := ["_law_one", "_law_op_here", "_law_other"]
theorem sc__law_compared : FnScope N__law_compared ["_law_one", "_law_op_here", "_law_other"] (defScope S__law_compared) := ⟨rfl, rfl, rfl, by decide +kernel, rfl, by decide +kernel, by decide +kernel⟩
abbrev S__law_atom_truth : Stmt := top 66
abbrev N__law_atom_truth : List Str := ["_law_form_here", "_law_row_here", "_law_word", "_law_place", "_law_other"]
theorem sc__law_atom_truth : FnScope N__law_atom_truth ["_law_form_here", "_law_row_here"] (defScope S__law_atom_truth) := ⟨rfl, rfl, rfl, by decide +kernel, rfl, by decide +kernel, by decide +kernel⟩
abbrev S__law_joined : Stmt := top 67
abbrev N__law_joined : List Str := ["_law_word", "_law_one", "_law_other"]
theorem sc__law_joined : FnScope N__law_joined ["_law_word", "_law_one", "_law_other"] (defScope S__law_joined) := ⟨rfl, rfl, rfl, by decide +kernel, rfl, by decide +kernel, by decide +kernel⟩
abbrev S__law_truth : Stmt := top 68
abbrev N__law_truth : List Str := ["_law_form_here", "_law_row_here", "_law_word", "_law_inner"]
theorem sc__law_truth : FnScope N__law_truth ["_law_form_here", "_law_row_here"] (defScope S__law_truth) := ⟨rfl, rfl, rfl, by decide +kernel, rfl, by decide +kernel, by decide +kernel⟩
abbrev S__law_atoms : Stmt := top 69
abbrev N__law_atoms : List Str := ["_law_form_here"]
theorem sc__law_atoms : FnScope N__law_atoms ["_law_form_here"] (defScope S__law_atoms) := ⟨rfl, rfl, rfl, by decide +kernel, rfl, by decide +kernel, by decide +kernel⟩
abbrev S__law_atom_names : Stmt := top 70
abbrev N__law_atom_names : List Str := ["_law_atom_here"]
theorem sc__law_atom_names : FnScope N__law_atom_names ["_law_atom_here"] (defScope S__law_atom_names) := ⟨rfl, rfl, rfl, by decide +kernel, rfl, by decide +kernel, by decide +kernel⟩
abbrev S__law_names : Stmt := top 71
abbrev N__law_names : List Str := ["_law_form_here", "_law_names_here", "_law_atom_here", "_law_name_here"]
theorem sc__law_names : FnScope N__law_names ["_law_form_here"] (defScope S__law_names) := ⟨rfl, rfl, rfl, by decide +kernel, rfl, by decide +kernel, by decide +kernel⟩
abbrev S__law_row : Stmt := top 72
abbrev N__law_row : List Str := ["_law_draw", "_law_columns_here", "_law_row_here", "_law_column"]
theorem sc__law_row : FnScope N__law_row ["_law_draw", "_law_columns_here"] (defScope S__law_row) := ⟨rfl, rfl, rfl, by decide +kernel, rfl, by decide +kernel, by decide +kernel⟩
abbrev S__law_thing : Stmt := top 73
abbrev N__law_thing : List Str := ["_law_draw", "_law_choice"]
theorem sc__law_thing : FnScope N__law_thing ["_law_draw"] (defScope S__law_thing) := ⟨rfl, rfl, rfl, by decide +kernel, rfl, by decide +kernel, by decide +kernel⟩
abbrev S__law_op : Stmt := top 74
abbrev N__law_op : List Str := ["_law_draw"]
theorem sc__law_op : FnScope N__law_op ["_law_draw"] (defScope S__law_op) := ⟨rfl, rfl, rfl, by decide +kernel, rfl, by decide +kernel, by decide +kernel⟩
abbrev S__law_flag : Stmt := top 75
abbrev N__law_flag : List Str := ["_law_thing_here", "_law_due"]
theorem sc__law_flag : FnScope N__law_flag ["_law_thing_here", "_law_due"] (defScope S__law_flag) := ⟨rfl, rfl, rfl, by decide +kernel, rfl, by decide +kernel, by decide +kernel⟩
abbrev S__law_replaced : Stmt := top 76
abbrev N__law_replaced : List Str := ["_law_draw", "_law_form_here", "_law_columns_here"]
theorem sc__law_replaced : FnScope N__law_replaced ["_law_draw", "_law_form_here", "_law_columns_here"] (defScope S__law_replaced) := ⟨rfl, rfl, rfl, by decide +kernel, rfl, by decide +kernel, by decide +kernel⟩
abbrev S__law_second : Stmt := top 77
abbrev N__law_second : List Str := ["_law_draw", "_law_form_here", "_law_columns_here", "_law_choice"]
theorem sc__law_second : FnScope N__law_second ["_law_draw", "_law_form_here", "_law_columns_here"] (defScope S__law_second) := ⟨rfl, rfl, rfl, by decide +kernel, rfl, by decide +kernel, by decide +kernel⟩
abbrev S__law_moved : Stmt := top 78
abbrev N__law_moved : List Str := ["_law_form_here", "_law_mapping", "_law_word", "_law_name_here"]
theorem sc__law_moved : FnScope N__law_moved ["_law_form_here", "_law_mapping"] (defScope S__law_moved) := ⟨rfl, rfl, rfl, by decide +kernel, rfl, by decide +kernel, by decide +kernel⟩
abbrev S__law_refuses : Stmt := top 79
abbrev N__law_refuses : List Str := ["_law_test", "_law_mapping", "_law_refused", "e"]
theorem sc__law_refuses : FnScope N__law_refuses ["_law_test", "_law_mapping"] (defScope S__law_refuses) := ⟨rfl, rfl, rfl, by decide +kernel, rfl, by decide +kernel, by decide +kernel⟩
abbrev S_law : Stmt := top 80
abbrev N_law : List Str := ["_law_script", "_law_draw", "_law_columns_here", "_law_form_here", "_law_second_here", "_law_test", "_law_taken", "_law_mapping", "_law_back", "_law_row_here", "_law_moved_row", "_law_column", "_law_name_here", "_law_before", "_law_fresh", "_law_truth_here", "_law_names_here", "_law_swap", "_law_at", "_law_around", "_law_turned_row", "_law_bad", "_law_atom_here"]
theorem sc_law : FnScope N_law ["_law_script"] (defScope S_law) := ⟨rfl, rfl, rfl, by decide +kernel, rfl, by decide +kernel, by decide +kernel⟩
structure Txt (K : PySem.W.Frag) (mg : Str → Option Value) : Prop where
  h_isinstance : mg "isinstance" = none
  h_int : mg "int" = none
  h_bool : mg "bool" = none
  h_list : mg "list" = none
  h_tuple : mg "tuple" = none
  h_all : mg "all" = none
  h_str : mg "str" = none
  h_len : mg "len" = none
  h_sorted : mg "sorted" = none
  h_set : mg "set" = none
  h_dict : mg "dict" = none
  h_sum : mg "sum" = none
  h_range : mg "range" = none
  d_is_integer : ∃ f fd, Here K mg "is_integer" S_is_integer ["thing"] f fd
  d_is_sequence : ∃ f fd, Here K mg "is_sequence" S_is_sequence ["thing"] f fd
  d_is_text : ∃ f fd, Here K mg "is_text" S_is_text ["thing"] f fd
  d_is_name : ∃ f fd, Here K mg "is_name" S_is_name ["thing"] f fd
  d_kind_of : ∃ f fd, Here K mg "kind_of" S_kind_of ["value"] f fd
  d_Test_init : ∃ f fd, HereC K (cadr mg "Test") "Test.__init__" S_Test_init ["self", "word", "inner", "fields", "terms"] f fd
  d_Test_atoms : ∃ f fd, HereM K (cadr mg "Test") "atoms" "Test.atoms" S_Test_atoms ["self"] f fd
  d_Test_names : ∃ f fd, HereM K (cadr mg "Test") "names" "Test.names" S_Test_names ["self"] f fd
  d_Test_renamed : ∃ f fd, HereM K (cadr mg "Test") "renamed" "Test.renamed" S_Test_renamed ["self", "mapping"] f fd
  d_Test_truth : ∃ f fd, HereM K (cadr mg "Test") "truth" "Test.truth" S_Test_truth ["self", "row"] f fd
  d_Test_and : ∃ f fd, HereM K (cadr mg "Test") "__and__" "Test.__and__" S_Test_and ["self", "other"] f fd
  d_Test_or : ∃ f fd, HereM K (cadr mg "Test") "__or__" "Test.__or__" S_Test_or ["self", "other"] f fd
  d_Test_invert : ∃ f fd, HereM K (cadr mg "Test") "__invert__" "Test.__invert__" S_Test_invert ["self"] f fd
  d_Test_eq : ∃ f fd, HereM K (cadr mg "Test") "__eq__" "Test.__eq__" S_Test_eq ["self", "other"] f fd
  d_size_of : ∃ f fd, Here K mg "size_of" S_size_of ["inner"] f fd
  d_depth_of : ∃ f fd, Here K mg "depth_of" S_depth_of ["inner"] f fd
  d_combined : ∃ f fd, Here K mg "combined" S_combined ["word", "inner"] f fd
  d_need_column : ∃ f fd, Here K mg "need_column" S_need_column ["thing"] f fd
  d_need_op : ∃ f fd, Here K mg "need_op" S_need_op ["thing"] f fd
  d_need_values : ∃ f fd, Here K mg "need_values" S_need_values ["thing"] f fd
  d_compare : ∃ f fd, Here K mg "compare" S_compare ["column", "op", "value"] f fd
  d_against : ∃ f fd, HereKw K mg "against" S_against ["column", "op", "other", "more"] 3 "more" (.int 0) f fd
  d_among : ∃ f fd, Here K mg "among" S_among ["column", "values"] f fd
  d_begins : ∃ f fd, Here K mg "begins" S_begins ["column", "prefix"] f fd
  d_empty : ∃ f fd, Here K mg "empty" S_empty ["column"] f fd
  d_always : ∃ f fd, Here K mg "always" S_always [] f fd
  d_never : ∃ f fd, Here K mg "never" S_never [] f fd
  d_sure : ∃ f fd, Here K mg "sure" S_sure ["test"] f fd
  d_renamed_by : ∃ f fd, Here K mg "renamed_by" S_renamed_by ["test", "mapping"] f fd
  d_and_truth : ∃ f fd, Here K mg "and_truth" S_and_truth ["one", "other"] f fd
  d_or_truth : ∃ f fd, Here K mg "or_truth" S_or_truth ["one", "other"] f fd
  d_not_truth : ∃ f fd, Here K mg "not_truth" S_not_truth ["one"] f fd
  d_combined_truth : ∃ f fd, Here K mg "combined_truth" S_combined_truth ["word", "truths"] f fd
  d_truth_at : ∃ f fd, Here K mg "truth_at" S_truth_at ["test", "row"] f fd
  d_atom_truth : ∃ f fd, Here K mg "atom_truth" S_atom_truth ["atom", "row"] f fd
  d_values_truth : ∃ f fd, Here K mg "values_truth" S_values_truth ["atom", "held"] f fd
  d_moved : ∃ f fd, Here K mg "moved" S_moved ["value", "more"] f fd
  d_related : ∃ f fd, Here K mg "related" S_related ["one", "op", "other"] f fd
  d__law_begin : ∃ f fd, Here K mg "_law_begin" S__law_begin ["_law_script"] f fd
  d__law_take : ∃ f fd, Here K mg "_law_take" S__law_take ["_law_draw", "_law_many"] f fd
  d__law_is_truth : ∃ f fd, Here K mg "_law_is_truth" S__law_is_truth ["_law_thing_here"] f fd
  d__law_chars : ∃ f fd, Here K mg "_law_chars" S__law_chars [] f fd
  d__law_number : ∃ f fd, Here K mg "_law_number" S__law_number ["_law_draw"] f fd
  d__law_text : ∃ f fd, Here K mg "_law_text" S__law_text ["_law_draw"] f fd
  d__law_value : ∃ f fd, Here K mg "_law_value" S__law_value ["_law_draw", "_law_kind"] f fd
  d__law_name : ∃ f fd, Here K mg "_law_name" S__law_name ["_law_draw", "_law_taken"] f fd
  d__law_columns : ∃ f fd, Here K mg "_law_columns" S__law_columns ["_law_draw", "_law_most"] f fd
  d__law_atom : ∃ f fd, Here K mg "_law_atom" S__law_atom ["_law_draw", "_law_columns_here"] f fd
  d__law_wrapped : ∃ f fd, Here K mg "_law_wrapped" S__law_wrapped ["_law_form_here", "_law_choice"] f fd
  d__law_form : ∃ f fd, Here K mg "_law_form" S__law_form ["_law_draw", "_law_columns_here", "_law_most"] f fd
  d__law_make : ∃ f fd, Here K mg "_law_make" S__law_make ["_law_form_here"] f fd
  d__law_compared : ∃ f fd, Here K mg "_law_compared" S__law_compared ["_law_one", "_law_op_here", "_law_other"] f fd
  d__law_atom_truth : ∃ f fd, Here K mg "_law_atom_truth" S__law_atom_truth ["_law_form_here", "_law_row_here"] f fd
  d__law_joined : ∃ f fd, Here K mg "_law_joined" S__law_joined ["_law_word", "_law_one", "_law_other"] f fd
  d__law_truth : ∃ f fd, Here K mg "_law_truth" S__law_truth ["_law_form_here", "_law_row_here"] f fd
  d__law_atoms : ∃ f fd, Here K mg "_law_atoms" S__law_atoms ["_law_form_here"] f fd
  d__law_atom_names : ∃ f fd, Here K mg "_law_atom_names" S__law_atom_names ["_law_atom_here"] f fd
  d__law_names : ∃ f fd, Here K mg "_law_names" S__law_names ["_law_form_here"] f fd
  d__law_row : ∃ f fd, Here K mg "_law_row" S__law_row ["_law_draw", "_law_columns_here"] f fd
  d__law_thing : ∃ f fd, Here K mg "_law_thing" S__law_thing ["_law_draw"] f fd
  d__law_op : ∃ f fd, Here K mg "_law_op" S__law_op ["_law_draw"] f fd
  d__law_flag : ∃ f fd, Here K mg "_law_flag" S__law_flag ["_law_thing_here", "_law_due"] f fd
  d__law_replaced : ∃ f fd, Here K mg "_law_replaced" S__law_replaced ["_law_draw", "_law_form_here", "_law_columns_here"] f fd
  d__law_second : ∃ f fd, Here K mg "_law_second" S__law_second ["_law_draw", "_law_form_here", "_law_columns_here"] f fd
  d__law_moved : ∃ f fd, Here K mg "_law_moved" S__law_moved ["_law_form_here", "_law_mapping"] f fd
  d__law_refuses : ∃ f fd, Here K mg "_law_refuses" S__law_refuses ["_law_test", "_law_mapping"] f fd
  x_BadRow : ∃ fI, PySem.ErBadRow.Err K mg (cadr mg "BadRow") fI
  x_BadTest : ∃ fI, PySem.ErBadTest.Err K mg (cadr mg "BadTest") fI
  is_Test : OwnIs K (cadr mg "Test")
  sf_Test : PySem.W.selfFirst K (cadr mg "Test") = true
  nr_Test_and : PySem.W.findIn K (.ref (cadr mg "Test")) (dunderR "and") = some none
  nr_Test_or : PySem.W.findIn K (.ref (cadr mg "Test")) (dunderR "or") = some none
  e_Test : mg "Test" = some (.ref (cadr mg "Test"))
  ne_Test : OwnNe K (cadr mg "Test")
  cl_Test : Cls K (cadr mg "Test")
  n_Test_word : NoAttr K (cadr mg "Test") "word"
  n_Test_inner : NoAttr K (cadr mg "Test") "inner"
  n_Test_fields : NoAttr K (cadr mg "Test") "fields"
  n_Test_terms : NoAttr K (cadr mg "Test") "terms"
  n_Test_size : NoAttr K (cadr mg "Test") "size"
  n_Test_depth : NoAttr K (cadr mg "Test") "depth"
  k_SIGNS : ∃ t, mg "SIGNS" = some (.str C_SIGNS t)
  k_LONGEST_NAME : ∃ t, mg "LONGEST_NAME" = some (.int 8 t)
  k_LETTERS : ∃ t, mg "LETTERS" = some (.str C_LETTERS t)
  k_WORDS : ∃ a, mg "WORDS" = some (.ref a) ∧ ∀ H : Hp, SqT K H a C_WORDS
  k_NAME_SIGNS : ∃ t, mg "NAME_SIGNS" = some (.str C_NAME_SIGNS t)
  k_MOST_ATOMS : ∃ t, mg "MOST_ATOMS" = some (.int 24 t)
  k_MOST_LEVELS : ∃ t, mg "MOST_LEVELS" = some (.int 12 t)
  k_OPS : ∃ a, mg "OPS" = some (.ref a) ∧ ∀ H : Hp, SqT K H a C_OPS
  k_MOST_VALUES : ∃ t, mg "MOST_VALUES" = some (.int 8 t)
def signs : Str := Str.ofString " !\"#$&'()*+,-./0123456789:;<=>?@ABCDEFGHIJKLMNOPQRSTUVWXYZ[\\]^_`abcdefghijklmnopqrstuvwxyz{|}~"
/-! an atomic test -/
/-- what stands in a test, in the order in which it was put there -/
def tf (w : Str) (i f t : Addr) (n d : Int) : List (Str × V) := [("word", .str w), ("inner", .ref i), ("fields", .ref f), ("terms", .ref t), ("size", .int n), ("depth", .int d)]
theorem putF_new : ∀ {l : List (Str × V)} {k : Str} {v : V} (ks : List Str), l.map (·.1) = ks → k ∉ ks → putF k v l = l ++ [(k, v)]
  | [], k, v, _, _, _ => rfl
  | (a, b) :: r, k, v, _, rfl, hk => by
    have h1 : ¬ a = k := fun e => hk (by rw [e]; exact List.mem_cons_self)
    have h2 := putF_new (l := r) (k := k) (v := v) _ rfl (fun e => hk (List.mem_cons_of_mem _ e))
    show (if a = k then (a, v) :: r else (a, b) :: putF k v r) = _
    rw [if_neg h1, h2]
    rfl
theorem lt_put : ∀ {l : List (Str × V)} {k : Str} {v : V} {n : Nat}, l.length < n → (putF k v l).length < n + 1
  | [], k, v, n, h => Nat.succ_lt_succ h
  | (a, b) :: r, k, v, n, h => by
    show (if a = k then (a, v) :: r else (a, b) :: putF k v r).length < n + 1
    split
    · exact Nat.lt_succ_of_lt h
    · cases n with
      | zero => exact absurd h (Nat.not_lt_zero _)
      | succ n => exact Nat.succ_lt_succ (lt_put (Nat.lt_of_succ_lt_succ h))
structure AtomAt (C : Addr) (H : Hp) (p : Addr) (w : Str) (fs : List Str) (ts : List V) : Prop where
  ex : ∃ dx i f t, H p = some (.ins C dx (tf w i f t 1 0)) ∧ H i = some (.tup []) ∧ H f = some (.tup (fs.map V.str)) ∧ H t = some (.tup ts)
theorem AtomAt.keep {C : Addr} {H H' : Hp} {p : Addr} {w : Str} {fs : List Str} {ts : List V} (A : AtomAt C H p w fs ts) (k : ∀ q o, H q = some o → H' q = some o) : AtomAt C H' p w fs ts := by
  obtain ⟨dx, i, f, t, a, b, c, d⟩ := A.ex
  exact ⟨dx, i, f, t, k _ _ a, k _ _ b, k _ _ c, k _ _ d⟩
theorem tf_word {w : Str} {i f t : Addr} {n d : Int} : (tf w i f t n d).lookup ("word" : Str) = some (.str w) := by rfl
theorem tf_inner {w : Str} {i f t : Addr} {n d : Int} : (tf w i f t n d).lookup ("inner" : Str) = some (.ref i) := by rfl
theorem tf_fields {w : Str} {i f t : Addr} {n d : Int} : (tf w i f t n d).lookup ("fields" : Str) = some (.ref f) := by rfl
theorem tf_terms {w : Str} {i f t : Addr} {n d : Int} : (tf w i f t n d).lookup ("terms" : Str) = some (.ref t) := by rfl
theorem tf_size {w : Str} {i f t : Addr} {n d : Int} : (tf w i f t n d).lookup ("size" : Str) = some (.int n) := by rfl
theorem tf_depth {w : Str} {i f t : Addr} {n d : Int} : (tf w i f t n d).lookup ("depth" : Str) = some (.int d) := by rfl
theorem tf_atoms {w : Str} {i f t : Addr} {n d : Int} : (tf w i f t n d).lookup ("atoms" : Str) = none := by rfl
theorem tf_names {w : Str} {i f t : Addr} {n d : Int} : (tf w i f t n d).lookup ("names" : Str) = none := by rfl
theorem tf_truth {w : Str} {i f t : Addr} {n d : Int} : (tf w i f t n d).lookup ("truth" : Str) = none := by rfl
theorem upd2 {H : Hp} {p : Addr} {a b : HO} : upd (upd H p a) p b = upd H p b := by
  funext q
  by_cases h : q = p
  · subst h; rw [upd_same, upd_same]
  · rw [upd_ne h, upd_ne h, upd_ne h]
/-! tests as trees -/
inductive Ts where
  | at (w : Str) (fs : List Str) (ts : List V)
  | un (w : Str) (a : Ts)
  | bi (w : Str) (a b : Ts)
namespace Ts
def word : Ts → Str
  | .at w _ _ => w
  | .un w _ => w
  | .bi w _ _ => w
def kids : Ts → List Ts
  | .at _ _ _ => []
  | .un _ a => [a]
  | .bi _ a b => [a, b]
def flds : Ts → List Str
  | .at _ fs _ => fs
  | _ => []
def trms : Ts → List V
  | .at _ _ ts => ts
  | _ => []
def size : Ts → Nat
  | .at _ _ _ => 1
  | .un _ a => a.size
  | .bi _ a b => a.size + b.size
def depth : Ts → Nat
  | .at _ _ _ => 0
  | .un _ a => a.depth + 1
  | .bi _ a b => max a.depth b.depth + 1
def atoms : Ts → List Ts
  | .at w fs ts => [.at w fs ts]
  | .un _ a => a.atoms
  | .bi _ a b => a.atoms ++ b.atoms
theorem size_pos : ∀ t : Ts, 0 < t.size
  | .at _ _ _ => Nat.one_pos
  | .un _ a => a.size_pos
  | .bi _ a b => Nat.add_pos_left a.size_pos _
theorem atoms_len : ∀ t : Ts, t.atoms.length = t.size
  | .at _ _ _ => rfl
  | .un _ a => a.atoms_len
  | .bi _ a b => by
    show (a.atoms ++ b.atoms).length = a.size + b.size
    rw [List.length_append, a.atoms_len, b.atoms_len]
theorem kids_depth {t k : Ts} (h : k ∈ t.kids) : k.depth < t.depth := by
  cases t with
  | «at» w fs ts => exact nomatch h
  | un w a =>
    obtain rfl : k = a := by simpa [kids] using h
    exact Nat.lt_succ_self _
  | bi w a b =>
    have h : k = a ∨ k = b := by simpa [kids] using h
    show k.depth < max a.depth b.depth + 1
    rcases h with rfl | rfl <;> omega
theorem atoms_kids {t : Ts} (h : t.kids ≠ []) : t.atoms = t.kids.flatMap atoms := by
  cases t with
  | «at» w fs ts => exact absurd rfl h
  | un w a => simp [kids, atoms]
  | bi w a b => simp [kids, atoms]
theorem size_kids {t : Ts} (h : t.kids ≠ []) : t.size = (t.kids.map size).sum := by
  cases t with
  | «at» w fs ts => exact absurd rfl h
  | un w a => simp [kids, size]
  | bi w a b => simp [kids, size]
theorem kids_len (t : Ts) : t.kids.length ≤ 2 := by cases t <;> simp [kids]
end Ts
/-- the tests ts stand at the places qs, one by one -/
inductive Row (R : Ts → Addr → Prop) : List Ts → List Addr → Prop
  | nil : Row R [] []
  | cons {t : Ts} {q : Addr} {ts : List Ts} {qs : List Addr} (h : R t q) (r : Row R ts qs) : Row R (t :: ts) (q :: qs)
theorem Row.mono {R S : Ts → Addr → Prop} (h : ∀ t q, R t q → S t q) : ∀ {ts : List Ts} {qs : List Addr}, Row R ts qs → Row S ts qs
  | _, _, .nil => .nil
  | _, _, .cons a r => .cons (h _ _ a) (r.mono h)
theorem Row.len {R : Ts → Addr → Prop} : ∀ {ts : List Ts} {qs : List Addr}, Row R ts qs → qs.length = ts.length
  | _, _, .nil => rfl
  | _, _, .cons _ r => congrArg (· + 1) r.len
theorem Row.app {R : Ts → Addr → Prop} : ∀ {ts us : List Ts} {qs ps : List Addr}, Row R ts qs → Row R us ps → Row R (ts ++ us) (qs ++ ps)
  | _, _, _, _, .nil, s => s
  | _, _, _, _, .cons a r, s => .cons a (r.app s)
theorem Row.get {R : Ts → Addr → Prop} : ∀ {ts : List Ts} {qs : List Addr} {i : Nat} {q : Addr}, Row R ts qs → qs[i]? = some q → ∃ t, ts[i]? = some t ∧ R t q
  | _, _, i, _, .nil, h => by simp at h
  | _, _, 0, _, .cons a r, h => by
    simp at h
    subst h
    exact ⟨_, rfl, a⟩
  | _, _, i + 1, _, .cons a r, h => by
    simp at h
    obtain ⟨t, e, x⟩ := r.get h
    exact ⟨t, by simpa using e, x⟩
/-- a test stands at p -/
def TestAt (C : Addr) (H : Hp) : Ts → Addr → Prop
  | .at w fs ts, p => AtomAt C H p w fs ts
  | .un w a, p => ∃ dx i f t q, H p = some (.ins C dx (tf w i f t a.size (a.depth + 1 : Nat))) ∧ H i = some (.tup [.ref q]) ∧ H f = some (.tup []) ∧ H t = some (.tup []) ∧ TestAt C H a q
  | .bi w a b, p => ∃ dx i f t q r, H p = some (.ins C dx (tf w i f t (a.size + b.size : Nat) (max a.depth b.depth + 1 : Nat))) ∧ H i = some (.tup [.ref q, .ref r]) ∧ H f = some (.tup []) ∧ H t = some (.tup []) ∧ TestAt C H a q ∧ TestAt C H b r
theorem TestAt.keep {C : Addr} {H H' : Hp} (k : ∀ q o, H q = some o → H' q = some o) : ∀ {t : Ts} {p : Addr}, TestAt C H t p → TestAt C H' t p
  | .at _ _ _, _, h => AtomAt.keep h k
  | .un _ a, _, ⟨dx, i, f, t, q, h1, h2, h3, h4, h5⟩ => ⟨dx, i, f, t, q, k _ _ h1, k _ _ h2, k _ _ h3, k _ _ h4, TestAt.keep k h5⟩
  | .bi _ a b, _, ⟨dx, i, f, t, q, r, h1, h2, h3, h4, h5, h6⟩ => ⟨dx, i, f, t, q, r, k _ _ h1, k _ _ h2, k _ _ h3, k _ _ h4, TestAt.keep k h5, TestAt.keep k h6⟩
theorem tf_ne {w : Str} {i f t : Addr} {n d : Int} : tf w i f t n d ≠ [] := by unfold tf; exact List.cons_ne_nil _ _
theorem AtomAt.keepN {C : Addr} {H H' : Hp} {p q : Addr} {w : Str} {fs : List Str} {ts : List V} (k : ∀ b o, b ≠ p → H b = some o → H' b = some o) (n : ∀ o, H p = some o → (∀ dx l, o = .ins C dx l → l = []) ∧ ∀ l, o ≠ .tup l) (A : AtomAt C H q w fs ts) : AtomAt C H' q w fs ts := by
  obtain ⟨dx, i, f, t, a, b, c, d⟩ := A.ex
  have nt : ∀ {b : Addr} {l : List V}, H b = some (.tup l) → b ≠ p := fun h z => (n _ (by rw [← z]; exact h)).2 _ rfl
  exact ⟨dx, i, f, t, k _ _ (fun z => tf_ne ((n _ (by rw [← z]; exact a)).1 _ _ rfl)) a, k _ _ (nt b) b, k _ _ (nt c) c, k _ _ (nt d) d⟩
/-- a change at a place at which no test and no tuple stands -/
theorem TestAt.keepN {C : Addr} {H H' : Hp} {p : Addr} (k : ∀ b o, b ≠ p → H b = some o → H' b = some o) (n : ∀ o, H p = some o → (∀ dx l, o = .ins C dx l → l = []) ∧ ∀ l, o ≠ .tup l) : ∀ {t : Ts} {q : Addr}, TestAt C H t q → TestAt C H' t q
  | .at _ _ _, _, h => AtomAt.keepN k n h
  | .un _ a, _, ⟨dx, i, f, t, q, h1, h2, h3, h4, h5⟩ =>
    have nt : ∀ {b : Addr} {l : List V}, H b = some (.tup l) → b ≠ p := fun h z => (n _ (by rw [← z]; exact h)).2 _ rfl
    ⟨dx, i, f, t, q, k _ _ (fun z => tf_ne ((n _ (by rw [← z]; exact h1)).1 _ _ rfl)) h1, k _ _ (nt h2) h2, k _ _ (nt h3) h3, k _ _ (nt h4) h4, TestAt.keepN k n h5⟩
  | .bi _ a b, _, ⟨dx, i, f, t, q, r, h1, h2, h3, h4, h5, h6⟩ =>
    have nt : ∀ {b : Addr} {l : List V}, H b = some (.tup l) → b ≠ p := fun h z => (n _ (by rw [← z]; exact h)).2 _ rfl
    ⟨dx, i, f, t, q, r, k _ _ (fun z => tf_ne ((n _ (by rw [← z]; exact h1)).1 _ _ rfl)) h1, k _ _ (nt h2) h2, k _ _ (nt h3) h3, k _ _ (nt h4) h4, TestAt.keepN k n h5, TestAt.keepN k n h6⟩
/-- what stands at a test, of whatever form it is -/
theorem TestAt.node {C : Addr} {H : Hp} : ∀ {t : Ts} {p : Addr}, TestAt C H t p → ∃ dx i f u qs, H p = some (.ins C dx (tf t.word i f u t.size t.depth)) ∧ H i = some (.tup (qs.map V.ref)) ∧ H f = some (.tup (t.flds.map V.str)) ∧ H u = some (.tup t.trms) ∧ Row (TestAt C H) t.kids qs
  | .at _ _ _, _, h => by
    obtain ⟨dx, i, f, u, h1, h2, h3, h4⟩ := AtomAt.ex h
    exact ⟨dx, i, f, u, [], h1, h2, h3, h4, .nil⟩
  | .un _ a, _, ⟨dx, i, f, u, q, h1, h2, h3, h4, h5⟩ => ⟨dx, i, f, u, [q], h1, h2, h3, h4, .cons h5 .nil⟩
  | .bi _ a b, _, ⟨dx, i, f, u, q, r, h1, h2, h3, h4, h5, h6⟩ => ⟨dx, i, f, u, [q, r], h1, h2, h3, h4, .cons h5 (.cons h6 .nil)⟩
/-- the test of a word and its parts -/
def mkT (w : Str) (fs : List Str) (ts : List V) : List Ts → Ts
  | [] => .at w fs ts
  | [a] => .un w a
  | a :: b :: _ => .bi w a b
def sizeK (ks : List Ts) : Nat := if ks = [] then 1 else (ks.map Ts.size).sum
def depthK (ks : List Ts) : Nat := ks.foldl (fun d k => if d ≤ k.depth then k.depth + 1 else d) 0
def spSizeK (C : Addr) : Sp := fun vs H Q _ => ∃ (i : Addr) (ks : List Ts) (qs : List Addr), vs = [.ref i] ∧ H i = some (.tup (qs.map V.ref)) ∧ Row (TestAt C H) ks qs ∧ ks.length ≤ 1000 ∧ ∀ H', (∀ q o, H q = some o → H' q = some o) → Q (.int (sizeK ks : Nat)) H'
def spDepthK (C : Addr) : Sp := fun vs H Q _ => ∃ (i : Addr) (ks : List Ts) (qs : List Addr), vs = [.ref i] ∧ H i = some (.tup (qs.map V.ref)) ∧ Row (TestAt C H) ks qs ∧ Q (.int (depthK ks : Nat)) H
section
variable {P : Program} {w : World} {K : PySem.W.Frag} {mg : Str → Option Value} {base : Heap}
theorem ok_size_of (T : Txt K mg) : Def P w K mg base 1 "size_of" ["inner"] (spSizeK (cadr mg "Test")) := by
  obtain ⟨f, fd, h⟩ := T.d_size_of
  refine h.def (Fun.okM h.fn sc_size_of (fun vs H Q E h => ?_) (fun cdv A outer s H vs Q E hr h => ?_))
  · obtain ⟨i, ks, qs, rfl, _⟩ := h
    rfl
  · obtain ⟨i, ks, qs, rfl, hi, hR, hl, k⟩ := h
    refine ⟨_, (pss_cons (ps_if (pt_cmpR op_eq (pe_callB (call_lenG (K := K) rfl) (by rfl) T.h_len (by decide +kernel) (pa_cons (pv 0) pa_nil)) pe_int (nomark _))
  (pss_one (ps_ret pe_int))
  pss_nil)
  (pss_one (ps_ret (pe_callB (cr_sum rfl) (by rfl) T.h_sum (by decide +kernel) (pa_cons (pe_lc (own := [("part", 1)]) rfl sc_size_of.nd (pi_tupG (K := K) rfl (pv 0)) (blkOk_by (N := N_size_of) (sc := defScope S_size_of) (by decide +kernel)) (fun _ _ _ _ _ => pg_name (i := 1) sc_size_of.nd rfl (Or.inl rfl)) (fun _ _ _ _ _ => pts_nil) (fun _ _ _ _ _ => (pe_fldG (K := K) rfl (pv 1) rfl))) pa_nil))))), ?_⟩
    have hlen := hR.len
    walk_at "g"
    refine g_lenT (SqT.of hi) ?_
    walk_at "g"
    refine g_dec (fun h0 => ?_) (fun h0 => ?_)
    · walk_at "g"
      have e : ks = [] := List.length_eq_zero_iff.mp (by rw [List.length_map] at h0; omega)
      have := k H fun _ _ h => h
      rw [show (sizeK ks : Nat) = 1 by unfold sizeK; rw [if_pos e]] at this
      exact this
    · walk_at "g"
      have ne : ks ≠ [] := fun e => h0 (by rw [e] at hlen; rw [List.length_map, hlen]; rfl)
      refine ⟨i, rfl, ⟨_, SqT.of hi⟩, fun D hD => ?_⟩
      refine lc_tup (K := K) (a := i) (xs := qs.map V.ref) (fun j H' => H' D = some (.lst ((((ks.take j).map Ts.size).map fun n : Nat => (n : Int)).map V.int)) ∧ ∀ q o, H q = some o → H' q = some o) ⟨upd_same, fun q o h => by rw [upd_ne (ne_of_none h hD)]; exact h⟩ (fun j H' _ p => SqT.of (p.2 _ _ hi)) ?_ ?_
      · rintro j x H2 hj ⟨hD2, k2⟩
        have hj2 : j < ks.length := by
          have := (List.getElem?_eq_some_iff.mp hj).1
          rw [List.length_map] at this; omega
        rw [List.getElem?_map] at hj
        obtain ⟨q, hq, rfl⟩ := Option.map_eq_some_iff.mp hj
        obtain ⟨t, ht, A⟩ := hR.get hq
        obtain ⟨dx, i1, f1, u1, qs1, hp, _⟩ := A.node
        walk_at "g"
        refine ⟨rfl, ?_⟩
        walk_at "g"
        refine ⟨q, _, dx, _, _, rfl, k2 _ _ hp, T.cl_Test, T.n_Test_size, tf_size, ?_⟩
        refine ⟨_, hD2, ?_, ?_, fun q o h => by rw [upd_ne (ne_of_none h hD)]; exact k2 q o h⟩
        · rw [List.length_map, List.length_map, List.length_map, List.length_take, sizeLine_eq]; omega
        · rw [upd_same, List.take_succ, ht, List.map_append, List.map_append, List.map_append]; rfl
      · rintro H2 ⟨hD2, k2⟩
        walk_at "g"
        rw [List.length_map, hlen, List.take_length] at hD2
        refine ⟨D, _, rfl, SqL.of hD2, ?_⟩
        have hsum : (((ks.map Ts.size).map fun n : Nat => (n : Int))).sum = ((sizeK ks : Nat) : Int) := by
          unfold sizeK
          rw [if_neg ne]
          generalize ks.map Ts.size = l
          induction l with
          | nil => rfl
          | cons a l ih => rw [List.map_cons, List.sum_cons, List.sum_cons, ih]; omega
        rw [hsum]
        walk_at "g"
        exact k _ k2
theorem ok_depth_of (T : Txt K mg) : Def P w K mg base 1 "depth_of" ["inner"] (spDepthK (cadr mg "Test")) := by
  obtain ⟨f, fd, h⟩ := T.d_depth_of
  refine h.def (Fun.okM h.fn sc_depth_of (fun vs H Q E h => ?_) (fun cdv A outer s H vs Q E hr h => ?_))
  · obtain ⟨i, ks, qs, rfl, _⟩ := h
    rfl
  · obtain ⟨i, ks, qs, rfl, hi, hR, k⟩ := h
    refine ⟨_, (pss_cons (ps_set (i := 1) sc_depth_of.nd rfl (Or.inl rfl) pe_int)
  (pss_cons (ps_for PassesOwn.never rfl (pi_tupG (K := K) rfl (pv 0)) (pg_name (i := 2) sc_depth_of.nd rfl (Or.inl rfl))
  (pss_one (ps_if (pt_cmpR op_geG (pe_fldG (K := K) rfl (pv 2) rfl) (pv 1) (nomark _))
  (pss_one (ps_set (i := 1) sc_depth_of.nd rfl (Or.inl rfl) (pe_op op_addG (pe_fldG (K := K) rfl (pv 2) rfl) pe_int)))
  pss_nil)))
  (pss_one (ps_ret (pv 1))))), ?_⟩
    have hlen := hR.len
    walk_at "g"
    refine ⟨i, rfl, ⟨_, SqT.of hi⟩, for_tupA (xs := qs.map V.ref) (fun j σ' H' => H' = H ∧ ∃ v, σ' = [some (.ref i), some (.int (depthK (ks.take j) : Nat)), v]) ⟨rfl, none, rfl⟩ (fun _ _ _ _ e => by rw [e.1]; exact SqT.of hi) ?_ ?_⟩
    · rintro j x σ' H2 D' hj ⟨rfl, v, rfl⟩ hnx hct hbk hrt
      rw [List.getElem?_map] at hj
      obtain ⟨q, hq, rfl⟩ := Option.map_eq_some_iff.mp hj
      obtain ⟨t, ht, A⟩ := hR.get hq
      obtain ⟨dx, i1, f1, u1, qs1, hp, _⟩ := A.node
      have e1 : depthK (ks.take (j + 1)) = if depthK (ks.take j) ≤ t.depth then t.depth + 1 else depthK (ks.take j) := by
        unfold depthK
        rw [List.take_succ, ht, List.foldl_append]
        rfl
      walk_at "g"
      refine ⟨q, _, dx, _, _, rfl, hp, T.cl_Test, T.n_Test_depth, tf_depth, ?_⟩
      walk_at "g"
      refine g_dec (fun hle => ?_) (fun hle => ?_)
      · walk_at "g"
        refine ⟨q, _, dx, _, _, rfl, hp, T.cl_Test, T.n_Test_depth, tf_depth, ?_⟩
        walk_at "g"
        refine hnx _ _ ⟨rfl, some (.ref q), ?_⟩
        rw [e1, if_pos (by omega)]
        rfl
      · walk_at "g"
        refine hnx _ _ ⟨rfl, some (.ref q), ?_⟩
        rw [e1, if_neg (by omega)]
        rfl
    · rintro σ' H2 ⟨rfl, v, rfl⟩
      walk_at "g"
      rw [List.length_map, hlen, List.take_length]
      exact k
/-- the maker of a test: word, parts, columns, terms -/
theorem ok_Test_init (T : Txt K mg) : DefC P w K mg base 2 (cadr mg "Test") ["self", "word", "inner", "fields", "terms"] (fun vs H Q _ => ∃ (p dx i f t : Addr) (w : Str) (ks : List Ts) (qs : List Addr), vs = [.ref p, .str w, .ref i, .ref f, .ref t] ∧ H p = some (.ins (cadr mg "Test") dx []) ∧
    H i = some (.tup (qs.map V.ref)) ∧ Row (TestAt (cadr mg "Test") H) ks qs ∧ ks.length ≤ 1000 ∧
    ∀ H', (∀ q o, q ≠ p → H q = some o → H' q = some o) → H' p = some (.ins (cadr mg "Test") dx (tf w i f t (sizeK ks : Nat) (depthK ks : Nat))) → Q .non H') := by
  obtain ⟨f, fd, h⟩ := T.d_Test_init
  refine h.def (Fun.okM h.fn sc_Test_init (fun vs H Q E h => ?_) (fun cdv A outer s H vs Q E hr h => ?_))
  · obtain ⟨p, dx, i, f, t, w, ks, qs, rfl, _⟩ := h
    rfl
  · obtain ⟨p, dx, i, f, t, w, ks, qs, rfl, hp, hi, hR, hl, k⟩ := h
    refine ⟨_, (pss_cons (ps_fld (pv 0) (pv 1) rfl)
  (pss_cons (ps_fld (pv 0) (pv 2) rfl)
  (pss_cons (ps_fld (pv 0) (pv 3) rfl)
  (pss_cons (ps_fld (pv 0) (pv 4) rfl)
  (pss_cons (ps_fld (pv 0) (pe_def (ok_size_of T) hr rfl (pa_cons (pv 2) pa_nil)) rfl)
  (pss_one (ps_fld (pv 0) (pe_def (ok_depth_of T) hr rfl (pa_cons (pv 2) pa_nil)) rfl))))))), ?_⟩
    have hip : i ≠ p := ne_of hi hp (by intro z; cases z)
    -- none of the tests that stand is the one that is made
    have other : ∀ {l : List (Str × V)} {u : Ts} {q : Addr}, TestAt (cadr mg "Test") H u q → TestAt (cadr mg "Test") (upd H p (.ins (cadr mg "Test") dx l)) u q := fun {l u q} h => by
      refine TestAt.keepN (p := p) (fun b o hb e => by rw [upd_ne hb]; exact e) (fun o e => ?_) h
      rw [hp] at e
      injection e with e
      subst e
      exact ⟨fun _ l z => by injection z with _ _ z; exact z.symm, fun l z => nomatch z⟩
    walk_at "g"
    refine ⟨p, _, dx, _, rfl, hp, T.cl_Test, T.n_Test_word, (by repeat (first | (with_reducible refine lt_put ?_) | decide)), ?_⟩
    walk_at "g"
    refine ⟨p, _, dx, _, rfl, upd_same, T.cl_Test, T.n_Test_inner, (by repeat (first | (with_reducible refine lt_put ?_) | decide)), ?_⟩
    rw [upd2]
    walk_at "g"
    refine ⟨p, _, dx, _, rfl, upd_same, T.cl_Test, T.n_Test_fields, (by repeat (first | (with_reducible refine lt_put ?_) | decide)), ?_⟩
    rw [upd2]
    walk_at "g"
    refine ⟨p, _, dx, _, rfl, upd_same, T.cl_Test, T.n_Test_terms, (by repeat (first | (with_reducible refine lt_put ?_) | decide)), ?_⟩
    rw [upd2]
    walk_at "g"
    refine ⟨i, ks, qs, rfl, by rw [upd_ne hip]; exact hi, hR.mono fun _ _ h => other h, hl, fun H2 k2 => ?_⟩
    have hp2 := k2 _ _ upd_same
    walk_at "g"
    refine ⟨p, _, dx, _, rfl, hp2, T.cl_Test, T.n_Test_size, (by repeat (first | (with_reducible refine lt_put ?_) | decide)), ?_⟩
    walk_at "g"
    have keepP : ∀ {l : List (Str × V)} {u : Ts} {q : Addr}, TestAt (cadr mg "Test") H u q → TestAt (cadr mg "Test") (upd H2 p (.ins (cadr mg "Test") dx l)) u q := fun {l u q} h => by
      refine TestAt.keepN (p := p) (fun b o hb e => by rw [upd_ne hb]; exact k2 _ _ (by rw [upd_ne hb]; exact e)) (fun o e => ?_) h
      rw [hp] at e
      injection e with e
      subst e
      exact ⟨fun _ l z => by injection z with _ _ z; exact z.symm, fun l z => nomatch z⟩
    refine ⟨i, ks, qs, rfl, ?_, hR.mono fun _ _ h => keepP h, ?_⟩
    · rw [upd_ne hip]
      exact k2 _ _ (by rw [upd_ne hip]; exact hi)
    walk_at "g"
    refine ⟨p, _, dx, _, rfl, upd_same, T.cl_Test, T.n_Test_depth, (by repeat (first | (with_reducible refine lt_put ?_) | decide)), ?_⟩
    rw [upd2]
    walk_at "g"
    refine k _ (fun q o hq e => ?_) upd_same
    rw [upd_ne hq]
    exact k2 _ _ (by rw [upd_ne hq]; exact e)
end
/-- the places of the atomic tests of a test, from the left -/
def TestAs (C : Addr) (H : Hp) : Ts → Addr → List Addr → Prop
  | .at w fs ts, p, as => AtomAt C H p w fs ts ∧ as = [p]
  | .un w a, p, as => ∃ dx i f t q, H p = some (.ins C dx (tf w i f t a.size (a.depth + 1 : Nat))) ∧ H i = some (.tup [.ref q]) ∧ H f = some (.tup []) ∧ H t = some (.tup []) ∧ TestAs C H a q as
  | .bi w a b, p, as => ∃ dx i f t q r xs ys, H p = some (.ins C dx (tf w i f t (a.size + b.size : Nat) (max a.depth b.depth + 1 : Nat))) ∧ H i = some (.tup [.ref q, .ref r]) ∧ H f = some (.tup []) ∧ H t = some (.tup []) ∧ TestAs C H a q xs ∧ TestAs C H b r ys ∧ as = xs ++ ys
theorem TestAs.keep {C : Addr} {H H' : Hp} (k : ∀ q o, H q = some o → H' q = some o) : ∀ {t : Ts} {p : Addr} {as : List Addr}, TestAs C H t p as → TestAs C H' t p as
  | .at _ _ _, _, _, h => ⟨AtomAt.keep h.1 k, h.2⟩
  | .un _ a, _, _, ⟨dx, i, f, t, q, h1, h2, h3, h4, h5⟩ => ⟨dx, i, f, t, q, k _ _ h1, k _ _ h2, k _ _ h3, k _ _ h4, TestAs.keep k h5⟩
  | .bi _ a b, _, _, ⟨dx, i, f, t, q, r, xs, ys, h1, h2, h3, h4, h5, h6, e⟩ => ⟨dx, i, f, t, q, r, xs, ys, k _ _ h1, k _ _ h2, k _ _ h3, k _ _ h4, TestAs.keep k h5, TestAs.keep k h6, e⟩
theorem TestAt.as {C : Addr} {H : Hp} : ∀ {t : Ts} {p : Addr}, TestAt C H t p → ∃ as, TestAs C H t p as
  | .at _ _ _, p, h => ⟨[p], h, rfl⟩
  | .un _ a, _, ⟨dx, i, f, t, q, h1, h2, h3, h4, h5⟩ =>
    let ⟨as, h⟩ := TestAt.as h5
    ⟨as, dx, i, f, t, q, h1, h2, h3, h4, h⟩
  | .bi _ a b, _, ⟨dx, i, f, t, q, r, h1, h2, h3, h4, h5, h6⟩ =>
    let ⟨xs, x⟩ := TestAt.as h5
    let ⟨ys, y⟩ := TestAt.as h6
    ⟨xs ++ ys, dx, i, f, t, q, r, xs, ys, h1, h2, h3, h4, x, y, rfl⟩
theorem TestAs.row {C : Addr} {H : Hp} : ∀ {t : Ts} {p : Addr} {as : List Addr}, TestAs C H t p as → Row (TestAt C H) t.atoms as
  | .at _ _ _, _, _, ⟨h, e⟩ => by subst e; exact .cons h .nil
  | .un _ a, _, _, h => by
    obtain ⟨_, _, _, _, _, _, _, _, _, h5⟩ := h
    exact TestAs.row (t := a) h5
  | .bi _ a b, _, _, h => by
    obtain ⟨_, _, _, _, _, _, _, _, _, _, _, _, h5, h6, e⟩ := h
    subst e
    exact (TestAs.row (t := a) h5).app (TestAs.row (t := b) h6)
/-- parts, their places, the places of their atomic tests -/
inductive Row3 (R : Ts → Addr → List Addr → Prop) : List Ts → List Addr → List (List Addr) → Prop
  | nil : Row3 R [] [] []
  | cons {t : Ts} {q : Addr} {as : List Addr} {ts : List Ts} {qs : List Addr} {ass : List (List Addr)} (h : R t q as) (r : Row3 R ts qs ass) : Row3 R (t :: ts) (q :: qs) (as :: ass)
theorem Row3.len {R : Ts → Addr → List Addr → Prop} : ∀ {ts : List Ts} {qs : List Addr} {ass : List (List Addr)}, Row3 R ts qs ass → qs.length = ts.length ∧ ass.length = ts.length
  | _, _, _, .nil => ⟨rfl, rfl⟩
  | _, _, _, .cons _ r => ⟨congrArg (· + 1) r.len.1, congrArg (· + 1) r.len.2⟩
theorem Row3.get {R : Ts → Addr → List Addr → Prop} : ∀ {ts : List Ts} {qs : List Addr} {ass : List (List Addr)} {i : Nat} {q : Addr}, Row3 R ts qs ass → qs[i]? = some q → ∃ t as, ts[i]? = some t ∧ ass[i]? = some as ∧ R t q as
  | _, _, _, i, _, .nil, h => by simp at h
  | _, _, _, 0, _, .cons a r, h => by
    simp at h
    subst h
    exact ⟨_, _, rfl, rfl, a⟩
  | _, _, _, i + 1, _, .cons a r, h => by
    simp at h
    obtain ⟨t, as, e1, e2, x⟩ := r.get h
    exact ⟨t, as, by simpa using e1, by simpa using e2, x⟩
theorem TestAs.node {C : Addr} {H : Hp} : ∀ {t : Ts} {p : Addr} {as : List Addr}, TestAs C H t p as → ∃ dx i f u qs ass, H p = some (.ins C dx (tf t.word i f u t.size t.depth)) ∧ H i = some (.tup (qs.map V.ref)) ∧ H f = some (.tup (t.flds.map V.str)) ∧ H u = some (.tup t.trms) ∧
    Row3 (TestAs C H) t.kids qs ass ∧ (t.kids = [] → as = [p]) ∧ (t.kids ≠ [] → as = ass.flatten)
  | .at _ _ _, _, _, ⟨h, e⟩ => by
    obtain ⟨dx, i, f, u, h1, h2, h3, h4⟩ := h.ex
    exact ⟨dx, i, f, u, [], [], h1, h2, h3, h4, .nil, fun _ => e, fun n => absurd rfl n⟩
  | .un _ a, _, as, ⟨dx, i, f, u, q, h1, h2, h3, h4, h5⟩ => ⟨dx, i, f, u, [q], [as], h1, h2, h3, h4, .cons h5 .nil, (fun e => nomatch e), fun _ => by simp⟩
  | .bi _ a b, _, as, ⟨dx, i, f, u, q, r, xs, ys, h1, h2, h3, h4, h5, h6, e⟩ => ⟨dx, i, f, u, [q, r], [xs, ys], h1, h2, h3, h4, .cons h5 (.cons h6 .nil), (fun e => nomatch e), fun _ => by simp [e]⟩
def spAtoms (C : Addr) (n : Nat) : Sp := fun vs H Q _ => ∃ (p : Addr) (t : Ts) (as : List Addr), vs = [.ref p] ∧ TestAs C H t p as ∧ t.depth ≤ n ∧ t.size ≤ 1000 ∧ ∀ l H', H l = none → (∀ q o, H q = some o → H' q = some o) → H' l = some (.lst (as.map V.ref)) → Q (.ref l) H'
theorem kid_size {t k : Ts} (h : k ∈ t.kids) : k.size ≤ t.size := by
  cases t with
  | «at» w fs ts => exact nomatch h
  | un w a =>
    obtain rfl : k = a := by simpa [Ts.kids] using h
    exact Nat.le_refl _
  | bi w a b =>
    have h : k = a ∨ k = b := by simpa [Ts.kids] using h
    show k.size ≤ a.size + b.size
    rcases h with rfl | rfl <;> omega
section
variable {P : Program} {w : World} {K : PySem.W.Frag} {mg : Str → Option Value} {base : Heap}
theorem ok_atomsN (T : Txt K mg) : ∀ n, DefM P w K mg base (n + 1) (cadr mg "Test") "atoms" ["self"] (spAtoms (cadr mg "Test") n) := by
  intro n
  induction n with
  | zero =>
    obtain ⟨f, fd, h⟩ := T.d_Test_atoms
    refine h.def (Fun.okM h.fn sc_Test_atoms (fun vs H Q E h => ?_) (fun cdv A outer s H vs Q E hr h => ?_))
    · obtain ⟨p, t, as, rfl, _⟩ := h
      rfl
    · obtain ⟨p, t, as, rfl, A1, hd, hz, k⟩ := h
      obtain ⟨dx, i, f, u, qs, ass, hp, hi, hf, hu, hR, e0, e1⟩ := A1.node
      refine ⟨_, (pss_cons (ps_if (pt_cmpR op_eq (pe_callB (call_lenG (K := K) rfl) (by rfl) T.h_len (by decide +kernel) (pa_cons (pe_fldG (K := K) rfl (pv 0) rfl) pa_nil)) pe_int (nomark _))
  (pss_one (ps_ret (pe_lst (pa_cons (pv 0) pa_nil))))
  pss_nil)
  (pss_one ps_never)), ?_⟩
      have hk : t.kids = [] := by
        cases t with
        | «at» => rfl
        | un w a => exact absurd hd (by show ¬ a.depth + 1 ≤ 0; omega)
        | bi w a b => exact absurd hd (by show ¬ max a.depth b.depth + 1 ≤ 0; omega)
      have hq : qs = [] := List.length_eq_zero_iff.mp (by rw [hR.len.1, hk]; rfl)
      subst hq
      walk_at "g"
      refine ⟨p, _, dx, _, _, rfl, hp, T.cl_Test, T.n_Test_inner, tf_inner, ?_⟩
      walk_at "g"
      refine g_lenT (SqT.of hi) ?_
      walk_at "g"
      refine g_T ?_
      walk_at "g"
      refine ⟨by show 1 ≤ sizeLine; decide, fun l hl => ?_⟩
      walk_at "g"
      refine k l _ hl (fun q o h => by rw [upd_ne (ne_of_none h hl)]; exact h) ?_
      rw [e0 hk]
      exact upd_same
  | succ n ih =>
    have ok_Test_atoms : Txt K mg → DefM P w K mg base (n + 1) (cadr mg "Test") "atoms" ["self"] (spAtoms (cadr mg "Test") n) := fun _ => ih
    obtain ⟨f, fd, h⟩ := T.d_Test_atoms
    refine h.def (Fun.okM h.fn sc_Test_atoms (fun vs H Q E h => ?_) (fun cdv A outer s H vs Q E hr h => ?_))
    · obtain ⟨p, t, as, rfl, _⟩ := h
      rfl
    · obtain ⟨p, t, as, rfl, A1, hd, hz, k⟩ := h
      obtain ⟨dx, i, f, u, qs, ass, hp, hi, hf, hu, hR, e0, e1⟩ := A1.node
      refine ⟨_, (pss_cons (ps_if (pt_cmpR op_eq (pe_callB (call_lenG (K := K) rfl) (by rfl) T.h_len (by decide +kernel) (pa_cons (pe_fldG (K := K) rfl (pv 0) rfl) pa_nil)) pe_int (nomark _))
  (pss_one (ps_ret (pe_lst (pa_cons (pv 0) pa_nil))))
  pss_nil)
  (pss_one (ps_ret (pe_lc2 (own := [("part", 1), ("atom", 2)]) (vs1 := [2]) rfl sc_Test_atoms.nd (pi_tupG (K := K) rfl (pe_fldG (K := K) rfl (pv 0) rfl)) (blkOk_by (N := N_Test_atoms) (sc := defScope S_Test_atoms) (by decide +kernel)) (by decide) (fun _ _ _ _ _ => pg_name (i := 1) sc_Test_atoms.nd rfl (Or.inl rfl)) (fun _ _ _ _ _ => pts_nil) (fun _ _ _ _ _ => (pi_listG (K := K) rfl (pe_me0 (pv 1) T.cl_Test (ok_Test_atoms T) hr (hk := by omega)))) (fun _ _ _ _ _ => pg_name (i := 2) sc_Test_atoms.nd rfl (Or.inl rfl)) (fun _ _ _ _ _ => pts_nil) (fun _ _ _ _ _ => (pv 2)))))), ?_⟩
      obtain ⟨hl1, hl2⟩ := hR.len
      walk_at "g"
      refine ⟨p, _, dx, _, _, rfl, hp, T.cl_Test, T.n_Test_inner, tf_inner, ?_⟩
      walk_at "g"
      refine g_lenT (SqT.of hi) ?_
      walk_at "g"
      refine g_dec (fun h0 => ?_) (fun h0 => ?_)
      · have hk : t.kids = [] := List.length_eq_zero_iff.mp (by rw [List.length_map] at h0; omega)
        walk_at "g"
        refine ⟨by show 1 ≤ sizeLine; decide, fun l hl => ?_⟩
        walk_at "g"
        refine k l _ hl (fun q o h => by rw [upd_ne (ne_of_none h hl)]; exact h) ?_
        rw [e0 hk]
        exact upd_same
      · have hk : t.kids ≠ [] := fun e => h0 (by rw [List.length_map, hl1, e]; rfl)
        walk_at "g"
        refine ⟨p, _, dx, _, _, rfl, hp, T.cl_Test, T.n_Test_inner, tf_inner, ?_⟩
        refine ⟨i, rfl, ⟨_, SqT.of hi⟩, fun D hD => ?_⟩
        have hfl : (List.range (qs.map V.ref).length).flatMap (fun j => (ass.getD j []).map V.ref) = as.map V.ref := by
          rw [e1 hk, List.length_map, hl1, ← hl2]
          clear e1 e0 hR hl2 A1 k
          induction ass with
          | nil => rfl
          | cons a r ih => rw [List.length_cons, List.range_succ_eq_map, List.flatMap_cons, List.flatMap_map, List.flatten_cons, List.map_append, ← ih]; rfl
        refine lc2_flatI (qs.map V.ref) (fun j => (ass.getD j []).map V.ref) hD (fun H2 k2 => fits_t (SqT.of (k2 _ _ hi))) ?_ (fun j x Hh R S hx hDn kh turn => ?_) (fun H2 k2 h2 => ?_)
        · rw [hfl, List.length_map, A1.row.len, Ts.atoms_len]; omega
        · rw [List.getElem?_map] at hx
          obtain ⟨q, hq, rfl⟩ := Option.map_eq_some_iff.mp hx
          obtain ⟨s1, a1, hs1, ha1, B⟩ := hR.get hq
          have hm := List.mem_of_getElem? hs1
          obtain ⟨dx2, i2, f2, u2, qs2, ass2, hp2, _⟩ := B.node
          walk_at "g"
          refine ⟨rfl, ?_⟩
          walk_at "g"
          refine ⟨q, dx2, _, rfl, kh _ _ hp2, tf_atoms, ?_⟩
          walk_at "g"
          have hsd := Ts.kids_depth hm
          have hsz := kid_size hm
          refine ⟨q, s1, a1, rfl, B.keep kh, by omega, by omega, fun l H3 hl3 k3 h3 => ?_⟩
          refine ⟨l, rfl, ⟨_, SqL.of h3⟩, turn _ _ _ k3 (fun H4 k4 => ?_) fun y Hk R1 S1 hy r => ?_⟩
          · have hlD : l ≠ D := fun z => hDn (by rw [← z]; exact hl3)
            have e : ass.getD j [] = a1 := by rw [List.getD_eq_getElem?_getD, ha1]; rfl
            rw [e]
            exact fits_l (SqL.of (k4 _ _ hlD h3))
          · walk_at "g"
            refine ⟨rfl, ?_⟩
            walk_at "g"
            exact r
        · walk_at "g"
          exact k D H2 hD k2 (by rw [h2, hfl])
end
theorem mkT_size {w : Str} {ks : List Ts} (h : ks.length ≤ 2) : (mkT w [] [] ks).size = sizeK ks := by
  match ks, h with
  | [], _ => rfl
  | [a], _ => simp [mkT, sizeK, Ts.size]
  | [a, b], _ => simp [mkT, sizeK, Ts.size]
theorem mkT_depth {w : Str} {ks : List Ts} (h : ks.length ≤ 2) : (mkT w [] [] ks).depth = depthK ks := by
  match ks, h with
  | [], _ => rfl
  | [a], _ => simp [mkT, depthK, Ts.depth]
  | [a, b], _ =>
    show max a.depth b.depth + 1 = _
    simp only [depthK, List.foldl_cons, List.foldl_nil, Nat.zero_le, if_true]
    split <;> omega
/-- a test stands where its word, its parts and their places do -/
theorem TestAt.made {C : Addr} {H : Hp} {p dx i f u : Addr} {w : Str} {ks : List Ts} {qs : List Addr} (hl : ks.length ≤ 2) (hp : H p = some (.ins C dx (tf w i f u (sizeK ks : Nat) (depthK ks : Nat)))) (hi : H i = some (.tup (qs.map V.ref))) (hf : H f = some (.tup [])) (hu : H u = some (.tup [])) (hR : Row (TestAt C H) ks qs) : TestAt C H (mkT w [] [] ks) p := by
  match ks, qs, hl, hR with
  | [], [], _, _ => exact ⟨dx, i, f, u, hp, hi, hf, hu⟩
  | [a], [q], _, .cons ha .nil => exact ⟨dx, i, f, u, q, by rw [hp]; simp [sizeK, depthK], hi, hf, hu, ha⟩
  | [a, b], [q, r], hl, .cons ha (.cons hb .nil) =>
    have e1 := mkT_size (w := w) hl
    have e2 := mkT_depth (w := w) hl
    refine ⟨dx, i, f, u, q, r, ?_, hi, hf, hu, ha, hb⟩
    rw [hp, ← e1, ← e2]
    rfl
/-- a thing's kind -/
inductive TyOf7 (H : Hp) : V → String → Prop
  | non : TyOf7 H .non "NoneType"
  | bl (b : Bool) : TyOf7 H (.bl b) "bool"
  | int (i : Int) : TyOf7 H (.int i) "int"
  | str (z : Str) : TyOf7 H (.str z) "str"
  | lst {p : Addr} {xs : List V} (h : H p = some (.lst xs)) : TyOf7 H (.ref p) "list"
  | tup {p : Addr} {xs : List V} (h : H p = some (.tup xs)) : TyOf7 H (.ref p) "tuple"
  | dct {p : Addr} {kvs : List (Key × V)} (h : H p = some (.dK kvs)) : TyOf7 H (.ref p) "dict"
theorem TyOf7.x {H : Hp} {v : V} {T : String} (h : TyOf7 H v T) (K : PySem.W.Frag) : TyX K H v (.type T) := by
  cases h with
  | non => exact .base .non
  | bl b => exact .base (.bl b)
  | int i => exact .base (.int i)
  | str z => exact .base (.str z)
  | lst h => exact .base (.lst h)
  | tup h => exact .base (.tup h)
  | dct h => exact .base (.dK h)
def xwhy (s : Str) : HO := .xd [(("why" : Str), .str s)]
/-- what combined, and what leads to it, does: a test, or one of two errors -/
def Outc (C CB : Addr) (t : Ts) (H : Hp) (Q : VK) (E : XK) : Prop :=
  (24 < t.size → ∀ d H', (∀ q o, H q = some o → H' q = some o) → H' d = some (xwhy "large") → E (.ref CB) (some d) H') ∧
  (t.size ≤ 24 → 12 < t.depth → ∀ d H', (∀ q o, H q = some o → H' q = some o) → H' d = some (xwhy "deep") → E (.ref CB) (some d) H') ∧
  (t.size ≤ 24 → t.depth ≤ 12 → ∀ p H', (∀ q o, H q = some o → H' q = some o) → TestAt C H' t p → Q (.ref p) H')
def spComb (C CB : Addr) : Sp := fun vs H Q E => ∃ (w : Str) (i : Addr) (ks : List Ts) (qs : List Addr), vs = [.str w, .ref i] ∧ H i = some (.tup (qs.map V.ref)) ∧ Row (TestAt C H) ks qs ∧ ks.length ≤ 2 ∧ Outc C CB (mkT w [] [] ks) H Q E
section
variable {P : Program} {w : World} {K : PySem.W.Frag} {mg : Str → Option Value} {base : Heap}
theorem ok_combined (T : Txt K mg) : DefX P w K mg base 4 "combined" ["word", "inner"] (spComb (cadr mg "Test") (cadr mg "BadTest")) := by
  obtain ⟨f, fd, h⟩ := T.d_combined
  obtain ⟨t_MOST_ATOMS, G_MOST_ATOMS⟩ := T.k_MOST_ATOMS
  obtain ⟨t_MOST_LEVELS, G_MOST_LEVELS⟩ := T.k_MOST_LEVELS
  obtain ⟨fE_BadTest, EB_BadTest⟩ := T.x_BadTest
  refine h.defX (Fun.okMX h.fn sc_combined (fun vs H Q E h => ?_) (fun cdv A outer s H vs Q E hr h => ?_))
  · obtain ⟨w, i, ks, qs, rfl, _⟩ := h
    rfl
  · obtain ⟨w, i, ks, qs, rfl, hi, hR, hl, kL, kD, kO⟩ := h
    refine ⟨_, (pss_cons (ps_set (i := 2) sc_combined.nd rfl (Or.inl rfl) (pe_new (ok_Test_init T) hr rfl T.e_Test (pa_cons (pv 0) (pa_cons (pv 1) (pa_cons (pe_tup pa_nil) (pa_cons (pe_tup pa_nil) pa_nil))))))
  (pss_cons (ps_if (pt_cmpR op_gtG (pe_fldG (K := K) rfl (pv 2) rfl) (pe_glob (v := .int 24) rfl G_MOST_ATOMS ⟨_, rfl⟩) (nomark _))
  (pss_one (ps_raiseBadTest rfl EB_BadTest hr (takes_of rfl rfl rfl rfl) (pa_cons pe_str pa_nil)))
  pss_nil)
  (pss_cons (ps_if (pt_cmpR op_gtG (pe_fldG (K := K) rfl (pv 2) rfl) (pe_glob (v := .int 12) rfl G_MOST_LEVELS ⟨_, rfl⟩) (nomark _))
  (pss_one (ps_raiseBadTest rfl EB_BadTest hr (takes_of rfl rfl rfl rfl) (pa_cons pe_str pa_nil)))
  pss_nil)
  (pss_one (ps_ret (pv 2)))))), ?_⟩
    walk_at "g"
    refine ⟨Nat.zero_le _, fun f hf => ?_⟩
    walk_at "g"
    refine ⟨Nat.zero_le _, fun u hu => ?_⟩
    walk_at "g"
    intro x dx hx hdx hne
    have kf : ∀ q o, H q = some o → (upd H f (.tup [])) q = some o := fun q o h => by rw [upd_ne (ne_of_none h hf)]; exact h
    have ku : ∀ q o, (upd H f (.tup [])) q = some o → (upd (upd H f (.tup [])) u (.tup [])) q = some o := fun q o h => by rw [upd_ne (ne_of_none h hu)]; exact h
    have kx : ∀ q o, (upd (upd H f (.tup [])) u (.tup [])) q = some o → (upd (upd (upd (upd H f (.tup [])) u (.tup [])) dx (.own x)) x (.ins (cadr mg "Test") dx [])) q = some o := fun q o h => by
      rw [upd_ne (ne_of_none h hx), upd_ne (ne_of_none h hdx)]; exact h
    have k0 : ∀ q o, H q = some o → (upd (upd (upd (upd H f (.tup [])) u (.tup [])) dx (.own x)) x (.ins (cadr mg "Test") dx [])) q = some o := fun q o h => kx _ _ (ku _ _ (kf _ _ h))
    refine ⟨x, dx, i, f, u, w, ks, qs, rfl, upd_same, k0 _ _ hi, hR.mono fun _ _ h => h.keep k0, by omega, fun H2 k2 h2 => ⟨rfl, ?_⟩⟩
    have hHx : H x = none := by
      cases e : H x with
      | none => rfl
      | some o => rw [ku _ _ (kf _ _ e)] at hx; cases hx
    have kk : ∀ q o, H q = some o → H2 q = some o := fun q o h => k2 _ _ (ne_of_none h hHx) (k0 _ _ h)
    have hf2 : H2 f = some (.tup []) := k2 _ _ (fun z => by rw [← z, ku _ _ upd_same] at hx; cases hx) (kx _ _ (ku _ _ upd_same))
    have hu2 : H2 u = some (.tup []) := k2 _ _ (fun z => by rw [← z, upd_same] at hx; cases hx) (kx _ _ upd_same)
    have A2 : TestAt (cadr mg "Test") H2 (mkT w [] [] ks) x := TestAt.made hl h2 (kk _ _ hi) hf2 hu2 (hR.mono fun _ _ h => h.keep kk)
    have es := mkT_size (w := w) hl
    have ed := mkT_depth (w := w) hl
    walk_at "g"
    refine ⟨x, _, dx, _, _, rfl, h2, T.cl_Test, T.n_Test_size, tf_size, ?_⟩
    walk_at "g"
    refine g_dec (fun h24 => ?_) (fun h24 => ?_)
    · walk_at "g"
      exact ⟨_, rfl, fun d hd => kL (by omega) d _ (fun q o h => by rw [upd_ne (ne_of_none (kk q o h) hd)]; exact kk q o h) upd_same⟩
    · walk_at "g"
      refine ⟨x, _, dx, _, _, rfl, h2, T.cl_Test, T.n_Test_depth, tf_depth, ?_⟩
      walk_at "g"
      refine g_dec (fun h12 => ?_) (fun h12 => ?_)
      · walk_at "g"
        exact ⟨_, rfl, fun d hd => kD (by omega) (by omega) d _ (fun q o h => by rw [upd_ne (ne_of_none (kk q o h) hd)]; exact kk q o h) upd_same⟩
      · walk_at "g"
        exact kO (by omega) (by omega) x H2 kk A2
/-- a & b, a | b: a thing that is no test is refused -/
def spOp (C CB : Addr) (w : Str) : Sp := fun vs H Q E => ∃ (p : Addr) (a : Ts) (y : V), vs = [.ref p, y] ∧ TestAt C H a p ∧
  ((∃ (q : Addr) (b : Ts), y = .ref q ∧ TestAt C H b q ∧ Outc C CB (.bi w a b) H Q E) ∨ ((∃ T, T ∈ kinds7 ∧ TyOf7 H y T) ∧ ∀ d H', (∀ q o, H q = some o → H' q = some o) → H' d = some (xwhy "part") → E (.ref CB) (some d) H'))
theorem ok_Test_and (T : Txt K mg) : DefMX P w K mg base 5 (cadr mg "Test") "__and__" ["self", "other"] (spOp (cadr mg "Test") (cadr mg "BadTest") "and") := by
  obtain ⟨f, fd, h⟩ := T.d_Test_and
  obtain ⟨fE_BadTest, EB_BadTest⟩ := T.x_BadTest
  refine h.defX (Fun.okMX h.fn sc_Test_and (fun vs H Q E h => ?_) (fun cdv A outer s H vs Q E hr h => ?_))
  · obtain ⟨p, a, y, rfl, _⟩ := h
    rfl
  · obtain ⟨p, a, y, rfl, ha, h⟩ := h
    obtain ⟨dx, i1, f1, u1, qs1, hp, _⟩ := ha.node
    refine ⟨_, (pss_cons (ps_if (pt_not (pt_val (pe_callB (call_isiG (K := K) rfl) (by rfl) T.h_isinstance (by decide +kernel) (pa_cons (pv 1) (pa_cons (pe_cls rfl T.e_Test) pa_nil)))))
  (pss_one (ps_raiseBadTest rfl EB_BadTest hr (takes_of rfl rfl rfl rfl) (pa_cons pe_str pa_nil)))
  pss_nil)
  (pss_one (ps_ret (pe_defX (takes_of rfl rfl rfl rfl) (ok_combined T) hr rfl (pa_cons pe_str (pa_cons (pe_tup (pa_cons (pv 0) (pa_cons (pv 1) pa_nil))) pa_nil)))))), ?_⟩
    rcases h with ⟨q, b, rfl, hb, hO⟩ | ⟨⟨Tn, hT, ty⟩, hE⟩
    · obtain ⟨dx2, i2, f2, u2, qs2, hq, _⟩ := hb.node
      walk_at "g"
      refine g_isOwn T.is_Test T.cl_Test hq ?_
      walk_at "g"
      refine ⟨by show 2 ≤ sizeLine; decide, fun t ht => ?_⟩
      have kt : ∀ r o, H r = some o → (upd H t (.tup [.ref p, .ref q])) r = some o := fun r o h => by rw [upd_ne (ne_of_none h ht)]; exact h
      walk_at "g"
      refine ⟨"and", t, [a, b], [p, q], rfl, upd_same, .cons (ha.keep kt) (.cons (hb.keep kt) .nil), Nat.le_refl _, fun h d H' k e => hO.1 h d H' (fun r o h => k r o (kt r o h)) e, fun h1 h2 d H' k e => hO.2.1 h1 h2 d H' (fun r o h => k r o (kt r o h)) e, fun h1 h2 r H' k A => ?_⟩
      walk_at "g"
      exact hO.2.2 h1 h2 r H' (fun r o h => k r o (kt r o h)) A
    · walk_at "g"
      refine g_isNot T.is_Test (ty.x K) hT ?_
      walk_at "g"
      exact ⟨_, rfl, fun d hd => hE d _ (fun q o h => by rw [upd_ne (ne_of_none h hd)]; exact h) upd_same⟩
end
section
variable {P : Program} {w : World} {K : PySem.W.Frag} {mg : Str → Option Value} {base : Heap}
theorem ok_Test_or (T : Txt K mg) : DefMX P w K mg base 5 (cadr mg "Test") "__or__" ["self", "other"] (spOp (cadr mg "Test") (cadr mg "BadTest") "or") := by
  obtain ⟨f, fd, h⟩ := T.d_Test_or
  obtain ⟨fE_BadTest, EB_BadTest⟩ := T.x_BadTest
  refine h.defX (Fun.okMX h.fn sc_Test_or (fun vs H Q E h => ?_) (fun cdv A outer s H vs Q E hr h => ?_))
  · obtain ⟨p, a, y, rfl, _⟩ := h
    rfl
  · obtain ⟨p, a, y, rfl, ha, h⟩ := h
    obtain ⟨dx, i1, f1, u1, qs1, hp, _⟩ := ha.node
    refine ⟨_, (pss_cons (ps_if (pt_not (pt_val (pe_callB (call_isiG (K := K) rfl) (by rfl) T.h_isinstance (by decide +kernel) (pa_cons (pv 1) (pa_cons (pe_cls rfl T.e_Test) pa_nil)))))
  (pss_one (ps_raiseBadTest rfl EB_BadTest hr (takes_of rfl rfl rfl rfl) (pa_cons pe_str pa_nil)))
  pss_nil)
  (pss_one (ps_ret (pe_defX (takes_of rfl rfl rfl rfl) (ok_combined T) hr rfl (pa_cons pe_str (pa_cons (pe_tup (pa_cons (pv 0) (pa_cons (pv 1) pa_nil))) pa_nil)))))), ?_⟩
    rcases h with ⟨q, b, rfl, hb, hO⟩ | ⟨⟨Tn, hT, ty⟩, hE⟩
    · obtain ⟨dx2, i2, f2, u2, qs2, hq, _⟩ := hb.node
      walk_at "g"
      refine g_isOwn T.is_Test T.cl_Test hq ?_
      walk_at "g"
      refine ⟨by show 2 ≤ sizeLine; decide, fun t ht => ?_⟩
      have kt : ∀ r o, H r = some o → (upd H t (.tup [.ref p, .ref q])) r = some o := fun r o h => by rw [upd_ne (ne_of_none h ht)]; exact h
      walk_at "g"
      refine ⟨"or", t, [a, b], [p, q], rfl, upd_same, .cons (ha.keep kt) (.cons (hb.keep kt) .nil), Nat.le_refl _, fun h d H' k e => hO.1 h d H' (fun r o h => k r o (kt r o h)) e, fun h1 h2 d H' k e => hO.2.1 h1 h2 d H' (fun r o h => k r o (kt r o h)) e, fun h1 h2 r H' k A => ?_⟩
      walk_at "g"
      exact hO.2.2 h1 h2 r H' (fun r o h => k r o (kt r o h)) A
    · walk_at "g"
      refine g_isNot T.is_Test (ty.x K) hT ?_
      walk_at "g"
      exact ⟨_, rfl, fun d hd => hE d _ (fun q o h => by rw [upd_ne (ne_of_none h hd)]; exact h) upd_same⟩
/-- ~a, sure(a) -/
def spUn (C CB : Addr) (w : Str) : Sp := fun vs H Q E => ∃ (p : Addr) (a : Ts), vs = [.ref p] ∧ TestAt C H a p ∧ Outc C CB (.un w a) H Q E
theorem ok_Test_invert (T : Txt K mg) : DefMX P w K mg base 5 (cadr mg "Test") "__invert__" ["self"] (spUn (cadr mg "Test") (cadr mg "BadTest") "not") := by
  obtain ⟨f, fd, h⟩ := T.d_Test_invert
  refine h.defX (Fun.okMX h.fn sc_Test_invert (fun vs H Q E h => ?_) (fun cdv A outer s H vs Q E hr h => ?_))
  · obtain ⟨p, a, rfl, _⟩ := h
    rfl
  · obtain ⟨p, a, rfl, ha, hO⟩ := h
    refine ⟨_, (pss_one (ps_ret (pe_defX (takes_of rfl rfl rfl rfl) (ok_combined T) hr rfl (pa_cons pe_str (pa_cons (pe_tup (pa_cons (pv 0) pa_nil)) pa_nil))))), ?_⟩
    walk_at "g"
    refine ⟨by show 1 ≤ sizeLine; decide, fun t ht => ?_⟩
    have kt : ∀ r o, H r = some o → (upd H t (.tup [.ref p])) r = some o := fun r o h => by rw [upd_ne (ne_of_none h ht)]; exact h
    walk_at "g"
    refine ⟨"not", t, [a], [p], rfl, upd_same, .cons (ha.keep kt) .nil, by show 1 ≤ 2; decide, fun h d H' k e => hO.1 h d H' (fun r o h => k r o (kt r o h)) e, fun h1 h2 d H' k e => hO.2.1 h1 h2 d H' (fun r o h => k r o (kt r o h)) e, fun h1 h2 r H' k A => ?_⟩
    walk_at "g"
    exact hO.2.2 h1 h2 r H' (fun r o h => k r o (kt r o h)) A
theorem ok_sure (T : Txt K mg) : DefX P w K mg base 5 "sure" ["test"] (spUn (cadr mg "Test") (cadr mg "BadTest") "sure") := by
  obtain ⟨f, fd, h⟩ := T.d_sure
  obtain ⟨fE_BadTest, EB_BadTest⟩ := T.x_BadTest
  refine h.defX (Fun.okMX h.fn sc_sure (fun vs H Q E h => ?_) (fun cdv A outer s H vs Q E hr h => ?_))
  · obtain ⟨p, a, rfl, _⟩ := h
    rfl
  · obtain ⟨p, a, rfl, ha, hO⟩ := h
    obtain ⟨dx, i1, f1, u1, qs1, hp, _⟩ := ha.node
    refine ⟨_, (pss_cons (ps_if (pt_not (pt_val (pe_callB (call_isiG (K := K) rfl) (by rfl) T.h_isinstance (by decide +kernel) (pa_cons (pv 0) (pa_cons (pe_cls rfl T.e_Test) pa_nil)))))
  (pss_one (ps_raiseBadTest rfl EB_BadTest hr (takes_of rfl rfl rfl rfl) (pa_cons pe_str pa_nil)))
  pss_nil)
  (pss_one (ps_ret (pe_defX (takes_of rfl rfl rfl rfl) (ok_combined T) hr rfl (pa_cons pe_str (pa_cons (pe_tup (pa_cons (pv 0) pa_nil)) pa_nil)))))), ?_⟩
    walk_at "g"
    refine g_isOwn T.is_Test T.cl_Test hp ?_
    walk_at "g"
    refine ⟨by show 1 ≤ sizeLine; decide, fun t ht => ?_⟩
    have kt : ∀ r o, H r = some o → (upd H t (.tup [.ref p])) r = some o := fun r o h => by rw [upd_ne (ne_of_none h ht)]; exact h
    walk_at "g"
    refine ⟨"sure", t, [a], [p], rfl, upd_same, .cons (ha.keep kt) .nil, by show 1 ≤ 2; decide, fun h d H' k e => hO.1 h d H' (fun r o h => k r o (kt r o h)) e, fun h1 h2 d H' k e => hO.2.1 h1 h2 d H' (fun r o h => k r o (kt r o h)) e, fun h1 h2 r H' k A => ?_⟩
    walk_at "g"
    exact hO.2.2 h1 h2 r H' (fun r o h => k r o (kt r o h)) A
end
/-! texts of the 94 signs -/
def txtB (z : Str) : Bool := z.cps.toList.all fun c => decide (c ∈ signs.cps.toList)
def isTxtB : V → Bool
  | .str z => txtB z
  | _ => false
theorem none_bad {l : List Nat} {p : Nat → Bool} {f : Nat → V} : decide ((((l.filter fun n => !p n).map f).length : Int) = 0) = l.all p := by
  rw [List.length_map, Bool.eq_iff_iff, decide_eq_true_eq, List.all_eq_true]
  constructor
  · intro h c hc
    have h' : (l.filter fun n => !p n) = [] := List.length_eq_zero_iff.mp (by omega)
    have := (List.filter_eq_nil_iff.mp h') c hc
    simpa using this
  · intro h
    have h' : (l.filter fun n => !p n) = [] := List.filter_eq_nil_iff.mpr fun c hc => by
      have := h c hc
      simpa using this
    rw [h']
    rfl
def spThingB (F : V → Bool) : Sp := fun vs H Q _ => ∃ v, vs = [v] ∧ thing H v ∧ ∀ H', (∀ p o, H p = some o → H' p = some o) → Q (.bl (F v)) H'
def letters : List Nat := (Str.ofString "abcdefghijklmnopqrstuvwxyz").cps.toList
def nameSigns : List Nat := (Str.ofString "abcdefghijklmnopqrstuvwxyz0123456789").cps.toList
def keptWords : List Str := ["and", "or", "not", "sure", "in", "is", "empty", "begins", "always", "never"]
def nameP (z : Str) : Prop := z.length ≠ 0 ∧ z.length ≤ 8 ∧ (∀ c r, z.cps.toList = c :: r → c ∈ letters) ∧ z ∉ keptWords ∧ ∀ c ∈ z.cps.toList, c ∈ nameSigns
noncomputable def nameB : V → Bool
  | .str z => @decide (nameP z) (Classical.propDecidable _)
  | _ => false
theorem nameB_str {z : Str} : nameB (.str z) = true ↔ nameP z := by
  unfold nameB
  exact @decide_eq_true_iff _ (Classical.propDecidable _)
theorem nameB_no {z : Str} (h : ¬ nameP z) : nameB (.str z) = false := by
  cases e : nameB (.str z) with
  | false => rfl
  | true => exact absurd (nameB_str.mp e) h
theorem nameB_is {z : Str} {b : Bool} (h : nameP z ↔ b = true) : nameB (.str z) = b := by
  cases b with
  | true => exact nameB_str.mpr (h.mpr rfl)
  | false => exact nameB_no fun z => absurd (h.mp z) Bool.false_ne_true
def kindV : V → V
  | .int _ => .str (Str.ofString "number")
  | .str z => if txtB z = true then .str (Str.ofString "text") else .non
  | _ => .non
section
variable {P : Program} {w : World} {K : PySem.W.Frag} {mg : Str → Option Value} {base : Heap}
theorem ok_is_integer (T : Txt K mg) : Def P w K mg base 1 "is_integer" ["thing"] (spThingB isIntB) := by
  obtain ⟨f, fd, h⟩ := T.d_is_integer
  refine h.def (Fun.okM h.fn sc_is_integer (fun vs H Q E h => ?_) (fun cdv A outer s H vs Q E hr h => ?_))
  · obtain ⟨x, rfl, _⟩ := h
    rfl
  · obtain ⟨x, rfl, hx, k⟩ := h
    have k' := k H fun _ _ h => h
    refine ⟨_, (pss_one (ps_ret (pe_and (pe_callB (call_isiG (K := K) rfl) (by rfl) T.h_isinstance (by decide +kernel) (pa_cons (pv 0) (pa_cons (pe_bltn (v := .ty "int") (by rfl) T.h_int (by decide +kernel) rfl) pa_nil))) (pe_one (pe_not (pe_callB (call_isiG (K := K) rfl) (by rfl) T.h_isinstance (by decide +kernel) (pa_cons (pv 0) (pa_cons (pe_bltn (v := .ty "bool") (by rfl) T.h_bool (by decide +kernel) rfl) pa_nil)))))))), ?_⟩
    rcases hx with rfl | ⟨b, rfl⟩ | ⟨i, rfl⟩ | ⟨z, rfl, hz⟩ | ⟨p, rfl, hp⟩ <;> walk_at "g" <;> exact k'
end
section
variable {P : Program} {w : World} {K : PySem.W.Frag} {mg : Str → Option Value} {base : Heap}
theorem ok_is_text (T : Txt K mg) : Def P w K mg base 1 "is_text" ["thing"] (spThingB isTxtB) := by
  obtain ⟨f, fd, h⟩ := T.d_is_text
  obtain ⟨t_SIGNS, G_SIGNS⟩ := T.k_SIGNS
  refine h.def (Fun.okM h.fn sc_is_text (fun vs H Q E h => ?_) (fun cdv A outer s H vs Q E hr h => ?_))
  · obtain ⟨x, rfl, _⟩ := h
    rfl
  · obtain ⟨x, rfl, hx, k⟩ := h
    have k' := k H fun _ _ h => h
    refine ⟨_, (pss_cons (ps_if (pt_not (pt_val (pe_callB (call_isiG (K := K) rfl) (by rfl) T.h_isinstance (by decide +kernel) (pa_cons (pv 0) (pa_cons (pe_bltn (v := .ty "str") (by rfl) T.h_str (by decide +kernel) rfl) pa_nil)))))
  (pss_one (ps_ret pe_bl))
  pss_nil)
  (pss_one (ps_ret (pe_callB (cr_all rfl) (by rfl) T.h_all (by decide +kernel) (pa_cons (pe_lc (own := [("sign", 1)]) rfl sc_is_text.nd (pi_str (pv 0)) (blkOk_by (N := N_is_text) (sc := defScope S_is_text) (by decide +kernel)) (fun _ _ _ _ _ => pg_name (i := 1) sc_is_text.nd rfl (Or.inl rfl)) (fun _ _ _ _ _ => pts_nil) (fun _ _ _ _ _ => (pe_cmpR (op_inG (K := K) rfl) (pv 1) (pe_glob (v := .str C_SIGNS) rfl G_SIGNS ⟨_, rfl⟩) (by rfl)))) pa_nil))))), ?_⟩
    rcases hx with rfl | ⟨b, rfl⟩ | ⟨i, rfl⟩ | ⟨z, rfl, hz⟩ | ⟨p, rfl, hp⟩
    case inr.inr.inr.inl =>
      walk_at "g"
      refine fun L hL => ?_
      refine lc_text (fun _ => true) (fun n => .bl (decide (n ∈ signs.cps.toList))) (by omega) (fun n Hh R S hn hK hR hS => ?_) (fun H2 hK hL2 => ?_)
      · walk_at "g"
        refine ⟨rfl, ?_⟩
        walk_at "g"
        exact hR rfl
      · walk_at "g"
        refine ⟨L, z.cps.toList.map fun n => decide (n ∈ signs.cps.toList), rfl, SqL.of ?_, ?_⟩
        · rw [hL2, List.filter_eq_self.mpr (fun _ _ => rfl), List.map_map]; rfl
        · walk_at "g"
          have e : (z.cps.toList.map fun n => decide (n ∈ signs.cps.toList)).all id = isTxtB (.str z) := by
            show _ = txtB z
            unfold txtB
            rw [List.all_map]; rfl
          rw [e]
          exact k _ fun p o h => hK p o (ne_of_none h hL) h
    all_goals (walk_at "g"; exact k')
end
section
variable {P : Program} {w : World} {K : PySem.W.Frag} {mg : Str → Option Value} {base : Heap}
theorem ok_is_name (T : Txt K mg) : Def P w K mg base 1 "is_name" ["thing"] (spThingB nameB) := by
  obtain ⟨f, fd, h⟩ := T.d_is_name
  obtain ⟨t_LONGEST_NAME, G_LONGEST_NAME⟩ := T.k_LONGEST_NAME
  obtain ⟨t_LETTERS, G_LETTERS⟩ := T.k_LETTERS
  obtain ⟨t_WORDS, G_WORDS, Q_WORDS⟩ := T.k_WORDS
  obtain ⟨t_NAME_SIGNS, G_NAME_SIGNS⟩ := T.k_NAME_SIGNS
  refine h.def (Fun.okM h.fn sc_is_name (fun vs H Q E h => ?_) (fun cdv A outer s H vs Q E hr h => ?_))
  · obtain ⟨x, rfl, _⟩ := h
    rfl
  · obtain ⟨x, rfl, hx, k⟩ := h
    have k' := k H fun _ _ h => h
    refine ⟨_, (pss_cons (ps_if (pt_not (pt_val (pe_callB (call_isiG (K := K) rfl) (by rfl) T.h_isinstance (by decide +kernel) (pa_cons (pv 0) (pa_cons (pe_bltn (v := .ty "str") (by rfl) T.h_str (by decide +kernel) rfl) pa_nil)))))
  (pss_one (ps_ret pe_bl))
  pss_nil)
  (pss_cons (ps_if (PW.pt (pw_or (pt_cmpR op_eq (pe_callB (call_lenG (K := K) rfl) (by rfl) T.h_len (by decide +kernel) (pa_cons (pv 0) pa_nil)) pe_int (nomark _)) (pw_or1 (pt_cmpR op_gtG (pe_callB (call_lenG (K := K) rfl) (by rfl) T.h_len (by decide +kernel) (pa_cons (pv 0) pa_nil)) (pe_glob (v := .int 8) rfl G_LONGEST_NAME ⟨_, rfl⟩) (nomark _)))))
  (pss_one (ps_ret pe_bl))
  pss_nil)
  (pss_cons (ps_if (PW.pt (pw_or (pt_cmpR (op_notInG (K := K) rfl) (pe_ix (ix_seqG (K := K) rfl) (pv 0) pe_int (fun _ _ => rfl)) (pe_glob (v := .str C_LETTERS) rfl G_LETTERS ⟨_, rfl⟩) (by rfl)) (pw_or1 (pt_cmpR (op_inG (K := K) rfl) (pv 0) (pe_glob (v := .ref t_WORDS) rfl G_WORDS rfl) (by rfl)))))
  (pss_one (ps_ret pe_bl))
  pss_nil)
  (pss_one (ps_ret (pe_callB (cr_all rfl) (by rfl) T.h_all (by decide +kernel) (pa_cons (pe_lc (own := [("sign", 1)]) rfl sc_is_name.nd (pi_str (pv 0)) (blkOk_by (N := N_is_name) (sc := defScope S_is_name) (by decide +kernel)) (fun _ _ _ _ _ => pg_name (i := 1) sc_is_name.nd rfl (Or.inl rfl)) (fun _ _ _ _ _ => pts_nil) (fun _ _ _ _ _ => (pe_cmpR (op_inG (K := K) rfl) (pv 1) (pe_glob (v := .str C_NAME_SIGNS) rfl G_NAME_SIGNS ⟨_, rfl⟩) (by rfl)))) pa_nil))))))), ?_⟩
    rcases hx with rfl | ⟨b, rfl⟩ | ⟨i, rfl⟩ | ⟨z, rfl, hz⟩ | ⟨p, rfl, hp⟩
    case inr.inr.inr.inl =>
      walk_at "g"
      refine g_lenS (by rw [sizeLine_eq]; omega) ?_
      have no : ¬ nameP z → Q (.bl false) H := fun h => by rw [← nameB_no h]; exact k'
      walk_at "g"
      refine g_dec (fun h0 => ?_) (fun h0 => ?_)
      · walk_at "g"
        exact no fun n => n.1 (by omega)
      walk_at "g"
      refine g_lenS (by rw [sizeLine_eq]; omega) ?_
      walk_at "g"
      refine g_dec (fun h8 => ?_) (fun h8 => ?_)
      · walk_at "g"
        exact no fun n => by have := n.2.1; omega
      walk_at "g"
      obtain ⟨c, r, hcr⟩ : ∃ c r, z.cps.toList = c :: r := by
        cases e : z.cps.toList with
        | nil => exact absurd (by have e2 : z.cps.toList.length = z.length := Array.length_toList
                                  rw [e] at e2; simpa using e2.symm) h0
        | cons c r => exact ⟨c, r, rfl⟩
      refine g_ixS (n := c) (by rw [sizeLine_eq]; omega) (atI_nat (j := 0) (by rw [hcr]; rfl)) ?_
      walk_at "g"
      refine g_ndec (fun hc => ?_) (fun hc => ?_)
      · walk_at "g"
        exact no fun n => hc (n.2.2.1 c r hcr)
      walk_at "g"
      refine .inr ⟨_, keptWords.map V.str, rfl, .inr (Q_WORDS _), rfl, Tw.flat_strs _, ?_⟩
      walk_at "g"
      rw [if_neg Bool.false_ne_true, inV_strs]
      refine g_dec (fun hw => ?_) (fun hw => ?_)
      · walk_at "g"
        exact no fun n => n.2.2.2.1 hw
      walk_at "g"
      refine fun L hL => ?_
      refine lc_text (fun _ => true) (fun n => .bl (decide (n ∈ nameSigns))) (by omega) (fun n Hh R S hn hK hR hS => ?_) (fun H2 hK hL2 => ?_)
      · walk_at "g"
        refine ⟨rfl, ?_⟩
        walk_at "g"
        exact hR rfl
      · walk_at "g"
        refine ⟨L, z.cps.toList.map fun n => decide (n ∈ nameSigns), rfl, SqL.of ?_, ?_⟩
        · rw [hL2, List.filter_eq_self.mpr (fun _ _ => rfl), List.map_map]; rfl
        · walk_at "g"
          have e : nameB (.str z) = (z.cps.toList.map fun n => decide (n ∈ nameSigns)).all id := by
            refine nameB_is ?_
            rw [List.all_map, List.all_eq_true]
            constructor
            · intro n c hc
              exact decide_eq_true (n.2.2.2.2 c hc)
            · intro h
              exact ⟨by omega, by omega, fun c' r' e' => by rw [hcr] at e'; injection e' with e1 _; rw [← e1]; exact hc, hw, fun c hc => of_decide_eq_true (h c hc)⟩
          rw [← e]
          exact k _ fun p o h => hK p o (ne_of_none h hL) h
    all_goals (walk_at "g"; exact k')
end
section
variable {P : Program} {w : World} {K : PySem.W.Frag} {mg : Str → Option Value} {base : Heap}
def spKind : Sp := fun vs H Q _ => ∃ v, vs = [v] ∧ thing H v ∧ ∀ H', (∀ p o, H p = some o → H' p = some o) → Q (kindV v) H'
theorem ok_kind_of (T : Txt K mg) : Def P w K mg base 2 "kind_of" ["value"] spKind := by
  obtain ⟨f, fd, h⟩ := T.d_kind_of
  refine h.def (Fun.okM h.fn sc_kind_of (fun vs H Q E h => ?_) (fun cdv A outer s H vs Q E hr h => ?_))
  · obtain ⟨x, rfl, _⟩ := h
    rfl
  · obtain ⟨x, rfl, hx, k⟩ := h
    refine ⟨_, (pss_cons (ps_if (pt_val (pe_def (ok_is_integer T) hr rfl (pa_cons (pv 0) pa_nil)))
  (pss_one (ps_ret pe_str))
  pss_nil)
  (pss_cons (ps_if (pt_val (pe_def (ok_is_text T) hr rfl (pa_cons (pv 0) pa_nil)))
  (pss_one (ps_ret pe_str))
  pss_nil)
  (pss_one (ps_ret pe_non)))), ?_⟩
    walk_at "g"
    refine ⟨_, rfl, hx, fun H1 h1 => ?_⟩
    have hx1 := hx.keep h1
    rcases hx with rfl | ⟨b, rfl⟩ | ⟨i, rfl⟩ | ⟨z, rfl, hz⟩ | ⟨p, rfl, hp⟩
    case inr.inr.inl =>
      rw [show isIntB (.int i) = true from rfl]
      walk_at "g"
      exact k _ h1
    all_goals
      walk_at "g"
      refine g_split (fun z => absurd z Bool.false_ne_true) (fun _ => ?_)
      walk_at "g"
      refine ⟨_, rfl, hx1, fun H2 h2 => ?_⟩
      have k2 := k H2 fun p o h => h2 p o (h1 p o h)
    case inr.inr.inr.inl =>
      walk_at "g"
      refine g_split (fun e => ?_) (fun e => ?_)
      · walk_at "g"
        have e' : txtB z = true := e
        have k2 : Q (if txtB z = true then V.str (Str.ofString "text") else V.non) H2 := k2
        rw [if_pos e'] at k2
        exact k2
      · walk_at "g"
        have e' : txtB z = false := e
        have k2 : Q (if txtB z = true then V.str (Str.ofString "text") else V.non) H2 := k2
        rw [if_neg (by rw [e']; exact Bool.false_ne_true)] at k2
        exact k2
    all_goals
      walk_at "g"
      refine g_split (fun z => absurd z Bool.false_ne_true) (fun _ => ?_)
      walk_at "g"
      exact k2
end
theorem atom_made {C : Addr} {H H2 : Hp} {i f u x dx : Addr} {w : Str} (fs : List Str) (ts : List V) (hi : H i = none) (hf : (upd H i (.tup [])) f = none) (hu : (upd (upd H i (.tup [])) f (.tup (fs.map V.str))) u = none)
    (hx : (upd (upd (upd H i (.tup [])) f (.tup (fs.map V.str))) u (.tup ts)) x = none) (hdx : (upd (upd (upd H i (.tup [])) f (.tup (fs.map V.str))) u (.tup ts)) dx = none)
    (k2 : ∀ q o, q ≠ x → (upd (upd (upd (upd (upd H i (.tup [])) f (.tup (fs.map V.str))) u (.tup ts)) dx (.own x)) x (.ins C dx [])) q = some o → H2 q = some o)
    (h2 : H2 x = some (.ins C dx (tf w i f u (sizeK [] : Nat) (depthK [] : Nat)))) : (∀ q o, H q = some o → H2 q = some o) ∧ TestAt C H2 (.at w fs ts) x := by
  have ki : ∀ q o, H q = some o → (upd H i (.tup [])) q = some o := fun q o h => by rw [upd_ne (ne_of_none h hi)]; exact h
  have kf : ∀ q o, (upd H i (.tup [])) q = some o → (upd (upd H i (.tup [])) f (.tup (fs.map V.str))) q = some o := fun q o h => by rw [upd_ne (ne_of_none h hf)]; exact h
  have ku : ∀ q o, (upd (upd H i (.tup [])) f (.tup (fs.map V.str))) q = some o → (upd (upd (upd H i (.tup [])) f (.tup (fs.map V.str))) u (.tup ts)) q = some o := fun q o h => by rw [upd_ne (ne_of_none h hu)]; exact h
  have kx : ∀ q o, (upd (upd (upd H i (.tup [])) f (.tup (fs.map V.str))) u (.tup ts)) q = some o → H2 q = some o := fun q o h => k2 q o (ne_of_none h hx) (by rw [upd_ne (ne_of_none h hx), upd_ne (ne_of_none h hdx)]; exact h)
  refine ⟨fun q o h => kx _ _ (ku _ _ (kf _ _ (ki _ _ h))), dx, i, f, u, h2, kx _ _ (ku _ _ (kf _ _ upd_same)), kx _ _ (ku _ _ upd_same), kx _ _ upd_same⟩
def spNeed (G : V → Prop) : Sp := fun vs H Q _ => ∃ v, vs = [v] ∧ G v ∧ ∀ H', (∀ q o, H q = some o → H' q = some o) → Q .non H'
section
variable {P : Program} {w : World} {K : PySem.W.Frag} {mg : Str → Option Value} {base : Heap}
theorem ok_need_column (T : Txt K mg) : Def P w K mg base 2 "need_column" ["thing"] (spNeed fun v => ∃ c, v = .str c ∧ nameP c) := by
  obtain ⟨f, fd, h⟩ := T.d_need_column
  refine h.def (Fun.okM h.fn sc_need_column (fun vs H Q E h => ?_) (fun cdv A outer s H vs Q E hr h => ?_))
  · obtain ⟨v, rfl, _⟩ := h
    rfl
  · obtain ⟨v, rfl, ⟨c, rfl, hc⟩, k⟩ := h
    refine ⟨_, (pss_one (ps_if (pt_not (pt_val (pe_def (ok_is_name T) hr rfl (pa_cons (pv 0) pa_nil))))
  (pss_one ps_never)
  pss_nil)), ?_⟩
    walk_at "g"
    refine ⟨_, rfl, .inr (.inr (.inr (.inl ⟨c, rfl, Nat.le_trans hc.2.1 (by decide)⟩))), fun H1 k1 => ?_⟩
    rw [nameB_str.mpr hc]
    walk_at "g"
    exact k _ k1
end
def Ts.cols (t : Ts) : List Str := t.atoms.flatMap Ts.flds
def spNames (C : Addr) (n : Nat) : Sp := fun vs H Q _ => ∃ (p : Addr) (t : Ts), vs = [.ref p] ∧ TestAt C H t p ∧ t.depth ≤ n ∧ t.size ≤ 1000 ∧ t.cols.length ≤ 1000 ∧
  ∀ zs L H', H L = none → (∀ q o, H q = some o → H' q = some o) → H' L = some (.lst (zs.map V.str)) → PyProof.Rows.sortedS zs = true → zs.Nodup → (∀ k, k ∈ zs ↔ k ∈ t.cols) → Q (.ref L) H'
section
variable {P : Program} {w : World} {K : PySem.W.Frag} {mg : Str → Option Value} {base : Heap}
theorem ok_Test_atoms (T : Txt K mg) : DefM P w K mg base 13 (cadr mg "Test") "atoms" ["self"] (spAtoms (cadr mg "Test") 12) := ok_atomsN T 12
theorem ok_Test_names (T : Txt K mg) : DefM P w K mg base 14 (cadr mg "Test") "names" ["self"] (spNames (cadr mg "Test") 12) := by
  obtain ⟨f, fd, h⟩ := T.d_Test_names
  refine h.def (Fun.okM h.fn sc_Test_names (fun vs H Q E h => ?_) (fun cdv A outer s H vs Q E hr h => ?_))
  · obtain ⟨p, t, rfl, _⟩ := h
    rfl
  · obtain ⟨p, t, rfl, A0, hd, hz, hc, k⟩ := h
    obtain ⟨as, A1⟩ := A0.as
    obtain ⟨dx, i, f, u, qs, ass, hp, hi, hf, hu, hR, e0, e1⟩ := A1.node
    refine ⟨_, (pss_cons (ps_setLc2 (i := 1) (own := [("atom", 2), ("name", 3)]) (vs1 := [3]) rfl sc_Test_names.nd rfl rfl (sw_true rfl rfl rfl (by decide +kernel)) (pi_list (pe_me0 (pv 0) T.cl_Test (ok_Test_atoms T) hr)) (blkOk_by (N := N_Test_names) (sc := defScope S_Test_names) (by decide +kernel)) (by decide) (fun _ _ _ _ _ => pg_name (i := 2) sc_Test_names.nd rfl (Or.inl rfl)) (fun _ _ _ _ _ => pts_nil) (fun _ _ _ _ _ => (pi_tupG (K := K) rfl (pe_fldG (K := K) rfl (pv 2) rfl))) (fun _ _ _ _ _ => pg_name (i := 3) sc_Test_names.nd rfl (Or.inl rfl)) (fun _ _ _ _ _ => pts_nil) (fun _ _ _ _ _ => (pv 3)))
  (pss_one (ps_ret (pe_sortedSet (K := K) rfl rfl rfl T.h_sorted rfl T.h_set (pv 1))))), ?_⟩
    walk_at "g"
    refine ⟨p, dx, _, rfl, hp, tf_atoms, ?_⟩
    walk_at "g"
    refine ⟨p, t, as, rfl, A1, hd, hz, fun l H1 hl k1 h1 => ?_⟩
    refine ⟨l, rfl, ⟨_, SqL.of h1⟩, fun D hD => ?_⟩
    have R1 := (A1.keep k1).row
    have hla := R1.len
    have hfl : (List.range (as.map V.ref).length).flatMap (fun j => ((t.atoms.map Ts.flds).getD j []).map V.str) = t.cols.map V.str := by
      rw [List.length_map, hla]
      unfold Ts.cols
      generalize t.atoms = l
      induction l with
      | nil => rfl
      | cons a r ih => rw [List.length_cons, List.range_succ_eq_map, List.flatMap_cons, List.flatMap_map, List.flatMap_cons, List.map_append, ← ih]; rfl
    refine lc2_flatI (as.map V.ref) (fun j => ((t.atoms.map Ts.flds).getD j []).map V.str) hD (fun H2 k2 => fits_l (SqL.of (k2 _ _ h1))) ?_ (fun j x Hh R S hx hDn kh turn => ?_) (fun H2 k2 h2 => ?_)
    · rw [hfl, List.length_map]; omega
    · rw [List.getElem?_map] at hx
      obtain ⟨q, hq, rfl⟩ := Option.map_eq_some_iff.mp hx
      obtain ⟨s1, hs1, B⟩ := R1.get hq
      obtain ⟨dx2, i2, f2, u2, qs2, hp2, _, hf2, _⟩ := B.node
      walk_at "g"
      refine ⟨rfl, ?_⟩
      walk_at "g"
      refine ⟨q, _, dx2, _, _, rfl, kh _ _ hp2, T.cl_Test, T.n_Test_fields, tf_fields, ?_⟩
      have e : (t.atoms.map Ts.flds).getD j [] = s1.flds := by rw [List.getD_eq_getElem?_getD, List.getElem?_map, hs1]; rfl
      refine ⟨f2, rfl, ⟨_, SqT.of (kh _ _ hf2)⟩, turn _ _ _ (fun _ _ h => h) (fun H4 k4 => ?_) fun y Hk Rx S1 hy r => ?_⟩
      · rw [e]
        exact fits_t (SqT.of (k4 _ _ (ne_of_none hf2 hD) (kh _ _ hf2)))
      · walk_at "g"
        refine ⟨rfl, ?_⟩
        walk_at "g"
        exact r
    · rw [hfl] at h2
      walk_at "g"
      refine ⟨D, _, rfl, SqL.of h2, Nat.lt_of_le_of_lt (Nat.succ_le_succ hc) (by decide), fun zs p2 so nd hm hn => ?_⟩
      walk_at "g"
      have kk : ∀ q o, H q = some o → H2 q = some o := fun q o h => k2 q o (k1 q o h)
      refine k zs p2 _ ?_ (fun q o h => ?_) upd_same so nd hm
      · cases e : H p2 with
        | none => rfl
        | some o => rw [kk _ _ e] at hn; cases hn
      · rw [upd_ne (ne_of_none (kk q o h) hn)]
        exact kk q o h
end
/-! the draws -/
structure Dr (H : Hp) (d sc : Addr) (ns : List Int) : Prop where
  ex : ∃ (i b c e : Int), sc ≠ d ∧ 0 ≤ i ∧ H d = some (.lst [.ref sc, .int i, .int b, .int c, .int e]) ∧ H sc = some (.lst (ns.map V.int))
def Keep (d : Addr) (H H' : Hp) : Prop := ∀ p o, p ≠ d → H p = some o → H' p = some o
theorem Keep.refl (d : Addr) (H : Hp) : Keep d H H := fun _ _ _ h => h
theorem Keep.trans {d : Addr} {H H1 H2 : Hp} (a : Keep d H H1) (b : Keep d H1 H2) : Keep d H H2 := fun p o n h => b p o n (a p o n h)
theorem Dr.new {H : Hp} {d sc p : Addr} {ns : List Int} {o : HO} (D : Dr H d sc ns) (hp : H p = none) : Dr (upd H p o) d sc ns := by
  obtain ⟨i, b, c, e, h1, h2, h3, h4⟩ := D.ex
  exact ⟨i, b, c, e, h1, h2, by rw [upd_ne (ne_of_none h3 hp)]; exact h3, by rw [upd_ne (ne_of_none h4 hp)]; exact h4⟩
theorem Dr.at {H : Hp} {d sc : Addr} {ns : List Int} (D : Dr H d sc ns) : ∃ xs, H d = some (.lst xs) := by
  obtain ⟨i, b, c, e, h1, h2, h3, h4⟩ := D.ex
  exact ⟨_, h3⟩
theorem Dr.sc {H : Hp} {d sc : Addr} {ns : List Int} (D : Dr H d sc ns) : H sc = some (.lst (ns.map V.int)) := by
  obtain ⟨i, b, c, e, h1, h2, h3, h4⟩ := D.ex
  exact h4
theorem Dr.ne {H : Hp} {d sc p : Addr} {ns : List Int} (D : Dr H d sc ns) (hp : H p = none) : p ≠ d ∧ p ≠ sc := by
  obtain ⟨i, b, c, e, h1, h2, h3, h4⟩ := D.ex
  exact ⟨Ne.symm (ne_of_none h3 hp), Ne.symm (ne_of_none h4 hp)⟩
theorem Dr.other {H : Hp} {d sc p : Addr} {ns : List Int} {o : HO} (D : Dr H d sc ns) (h1 : p ≠ d) (h2 : p ≠ sc) : Dr (upd H p o) d sc ns := by
  obtain ⟨i, b, c, e, g1, g2, g3, g4⟩ := D.ex
  exact ⟨i, b, c, e, g1, g2, by rw [upd_ne (Ne.symm h1)]; exact g3, by rw [upd_ne (Ne.symm h2)]; exact g4⟩
theorem Keep.new {d p : Addr} {H H1 : Hp} {o : HO} (a : Keep d H H1) (hp : H p = none) : Keep d H (L2.upd H1 p o) := fun q u n h => by rw [upd_ne (ne_of_none h hp)]; exact a q u n h
theorem Keep.back {d p : Addr} {H H1 : Hp} (a : Keep d H H1) (n : p ≠ d) (h : H1 p = none) : H p = none := by
  cases hh : H p with
  | none => rfl
  | some o => rw [a p o n hh] at h; cases h
theorem Keep.upd {d : Addr} {H H1 : Hp} {o : HO} (a : Keep d H H1) : Keep d H (L2.upd H1 d o) := fun p u n h => by rw [upd_ne n]; exact a p u n h
def spTake : Sp := fun vs H Q _ => ∃ d sc ns m, vs = [.ref d, .int m] ∧ Dr H d sc ns ∧ 0 < m ∧ m.natAbs.log2 < 9000 ∧ ∀ r H', 0 ≤ r → r < m → Dr H' d sc ns → Keep d H H' → Q (.int r) H'
section
variable {P : Program} {w : World} {K : PySem.W.Frag} {mg : Str → Option Value} {base : Heap}
theorem ok__law_take (T : Txt K mg) : Def P w K mg base 1 "_law_take" ["_law_draw", "_law_many"] spTake := by
  obtain ⟨f, fd, h⟩ := T.d__law_take
  refine h.def (Fun.okM h.fn sc__law_take (fun vs H Q E h => ?_) (fun cdv A outer s H vs Q E hr h => ?_))
  · obtain ⟨d, sc, ns, m, rfl, _⟩ := h
    rfl
  · obtain ⟨d, sc, ns, m, rfl, ⟨i, b, c, e, hne, hi, hd, hs⟩, hm, hml, k⟩ := h
    refine ⟨_, (pss_cons (ps_if (PW.pt (pw_and (pt_cmpR op_eq (pe_ix (ix_seqG (K := K) rfl) (pv 0) pe_int (fun _ _ => rfl)) pe_int (nomark _)) (pw_and1 (pt_cmpR op_ltG (pe_ix (ix_seqG (K := K) rfl) (pv 0) pe_int (fun _ _ => rfl)) (pe_callB (call_lenG (K := K) rfl) (by rfl) T.h_len (by decide +kernel) (pa_cons (pe_ix (ix_seqG (K := K) rfl) (pv 0) pe_int (fun _ _ => rfl)) pa_nil)) (nomark _)))))
  (pss_cons (ps_set (i := 2) sc__law_take.nd rfl (Or.inl rfl) (pe_ix (ix_seqG (K := K) rfl) (pe_ix (ix_seqG (K := K) rfl) (pv 0) pe_int (fun _ _ => rfl)) (pe_ix (ix_seqG (K := K) rfl) (pv 0) pe_int (fun _ _ => rfl)) (fun _ _ => rfl)))
  (pss_cons (ps_asg (pe_op op_addG (pe_ix (ix_seqG (K := K) rfl) (pv 0) pe_int (fun _ _ => rfl)) pe_int) (pg_sub (pv 0) pe_int set_list))
  (pss_one (ps_if (pt_cmpR op_geG (pv 2) (pe_op op_powG' pe_int pe_int) (nomark _))
  (pss_one (ps_asg (pe_op op_modG (pe_callTy call_intG (by rfl) T.h_int (by decide +kernel) (pa_cons (pv 2) pa_nil)) (pe_op op_powG' (pe_op op_powG' pe_int pe_int) pe_int)) (pg_sub (pv 0) pe_int set_list)))
  (pss_one (ps_asg (pe_op op_modG (pe_callTy call_intG (by rfl) T.h_int (by decide +kernel) (pa_cons (pe_op op_addG (pe_op op_addG (pe_op op_mulG (pe_ix (ix_seqG (K := K) rfl) (pv 0) pe_int (fun _ _ => rfl)) pe_int) (pe_op op_modG (pe_callTy call_intG (by rfl) T.h_int (by decide +kernel) (pa_cons (pv 2) pa_nil)) pe_int)) pe_int) pa_nil)) pe_int) (pg_sub (pv 0) pe_int set_list)))))))
  pss_nil)
  (pss_cons (ps_if (pt_cmpR op_gtG (pe_ix (ix_seqG (K := K) rfl) (pv 0) pe_int (fun _ _ => rfl)) pe_int (nomark _))
  (pss_cons (ps_set (i := 3) sc__law_take.nd rfl (Or.inl rfl) (pe_op op_modG (pe_callTy call_intG (by rfl) T.h_int (by decide +kernel) (pa_cons (pe_ix (ix_seqG (K := K) rfl) (pv 0) pe_int (fun _ _ => rfl)) pa_nil)) (pv 1)))
  (pss_cons (ps_asg (pe_op op_fdG (pe_ix (ix_seqG (K := K) rfl) (pv 0) pe_int (fun _ _ => rfl)) (pv 1)) (pg_sub (pv 0) pe_int set_list))
  (pss_one (ps_ret (pv 3)))))
  pss_nil)
  (pss_cons (ps_asg (pe_op op_addG (pe_ix (ix_seqG (K := K) rfl) (pv 0) pe_int (fun _ _ => rfl)) pe_int) (pg_sub (pv 0) pe_int set_list))
  (pss_cons (ps_set (i := 4) sc__law_take.nd rfl (Or.inl rfl) (pe_op op_modG (pe_callTy call_intG (by rfl) T.h_int (by decide +kernel) (pa_cons (pe_op op_addG (pe_ix (ix_seqG (K := K) rfl) (pv 0) pe_int (fun _ _ => rfl)) (pe_op op_mulG pe_int (pe_ix (ix_seqG (K := K) rfl) (pv 0) pe_int (fun _ _ => rfl)))) pa_nil)) pe_int))
  (pss_cons (ps_set (i := 4) sc__law_take.nd rfl (Or.inl rfl) (pe_op op_modG (pe_callTy call_intG (by rfl) T.h_int (by decide +kernel) (pa_cons (pe_op op_powG' (pv 4) pe_int) pa_nil)) pe_int))
  (pss_cons (ps_asg (pe_op op_modG (pe_callTy call_intG (by rfl) T.h_int (by decide +kernel) (pa_cons (pe_op op_addG (pe_op op_mulG (pv 4) pe_int) (pe_ix (ix_seqG (K := K) rfl) (pv 0) pe_int (fun _ _ => rfl))) pa_nil)) pe_int) (pg_sub (pv 0) pe_int set_list))
  (pss_one (ps_ret (pe_op op_modG (pe_callTy call_intG (by rfl) T.h_int (by decide +kernel) (pa_cons (pe_op op_fdG (pe_ix (ix_seqG (K := K) rfl) (pv 0) pe_int (fun _ _ => rfl)) pe_int) pa_nil)) (pv 1)))))))))), ?_⟩
    walk_at "G"
    all_goals refine k _ _ (Int.emod_nonneg _ (by omega)) (Int.emod_lt_of_pos _ hm) ?_ ?_
    all_goals first
      | exact ⟨_, _, _, _, hne, by omega, upd_same, by walk_at "hp"⟩
      | (repeat (first | exact Keep.refl _ _ | refine Keep.upd ?_))
end
/-! more draws -/
def spBegin (K : PySem.W.Frag) : Sp := fun vs H Q _ => ∃ (a : Addr) (ns : List Int), vs = [.ref a] ∧ SqL K H a (ns.map V.int) ∧ ∀ d sc ms H', H d = none → Same H H' → Dr H' d sc ms → Q (.ref d) H'
theorem cut_map (ns : List Int) (lo hi : Option Int) : ∃ ms : List Int, cutV (ns.map V.int) lo hi = ms.map V.int := ⟨_, by unfold cutV; rw [← List.map_drop, ← List.map_take]⟩
section
variable {P : Program} {w : World} {K : PySem.W.Frag} {mg : Str → Option Value} {base : Heap}
theorem ok__law_begin (T : Txt K mg) : Def P w K mg base 1 "_law_begin" ["_law_script"] (spBegin K) := by
  obtain ⟨f, fd, h⟩ := T.d__law_begin
  refine h.def (Fun.okM h.fn sc__law_begin (fun vs H Q E h => ?_) (fun cdv A outer s H vs Q E hr h => ?_))
  · obtain ⟨x, y, rfl, _⟩ := h
    rfl
  · obtain ⟨a, ns, rfl, hS, k⟩ := h
    refine ⟨_, (pss_one (ps_ret (pe_lst (pa_cons (pe_callTy (call_listG (K := K) rfl) (by rfl) T.h_list (by decide +kernel) (pa_cons (pe_slice (sl_G (K := K) rfl) (pv 0) po_none (po_some pe_int)) pa_nil)) (pa_cons pe_int (pa_cons pe_int (pa_cons pe_int (pa_cons pe_int pa_nil)))))))), ?_⟩
    walk_at "g"
    obtain ⟨ms, hms⟩ := cut_map ns none (some 63)
    refine g_slL hS (fun p hp => ?_)
    rw [hms]
    walk_at "g"
    refine ⟨p, _, rfl, .inl (SqL.of upd_same), fun l hl => ?_⟩
    walk_at "g"
    refine ⟨by show 5 ≤ sizeLine; decide, fun d hd => ?_⟩
    walk_at "g"
    have n1 : l ≠ d := ne_of_none upd_same hd
    have n2 : l ≠ p := fun z => by rw [z, upd_same] at hl; cases hl
    have hpd : d ≠ p := fun z => by rw [z, upd_ne (fun z => n2 z.symm), upd_same] at hd; cases hd
    refine k d l ms _ ?_ (fun b o hb => ?_) ⟨0, 0, 1, 0, n1, by decide, upd_same, by rw [upd_ne n1, upd_same]⟩
    · rw [upd_ne (fun z => n1 z.symm), upd_ne hpd] at hd
      exact hd
    · have b1 : b ≠ p := ne_of_none hb hp
      have b2 : b ≠ l := fun z => by rw [upd_ne n2] at hl; rw [z, hl] at hb; cases hb
      have b3 : b ≠ d := fun z => by rw [upd_ne (fun z => n1 z.symm), upd_ne hpd] at hd; rw [z, hd] at hb; cases hb
      rw [upd_ne b3, upd_ne b2, upd_ne b1]
      exact hb
/-- a text of the 94 signs -/
def spChars : Sp := fun vs H Q _ => vs = [] ∧ Q (.str signs) H
theorem ok__law_chars (T : Txt K mg) : Def P w K mg base 1 "_law_chars" [] spChars := by
  obtain ⟨f, fd, h⟩ := T.d__law_chars
  refine h.def (Fun.okM h.fn sc__law_chars (fun vs H Q E h => ?_) (fun cdv A outer s H vs Q E hr h => ?_))
  · obtain ⟨rfl, _⟩ := h
    rfl
  · obtain ⟨rfl, k⟩ := h
    refine ⟨_, (pss_cons (ps_set (i := 0) sc__law_chars.nd rfl (Or.inl rfl) pe_str)
  (pss_one (ps_ret (pe_op op_addG (pv 0) pe_str)))), ?_⟩
    walk_at "g"
    refine g_addS (by decide +kernel) ?_
    walk_at "g"
    exact k
/-- a drawn value -/
def spDraw (G : V → Prop) : Sp := fun vs H Q _ => ∃ d sc ns, vs = [.ref d] ∧ Dr H d sc ns ∧ ∀ v H', G v → Dr H' d sc ns → Keep d H H' → Q v H'
def isI (v : V) : Prop := ∃ i, v = .int i
def isS (v : V) : Prop := ∃ z : Str, v = .str z ∧ z.length ≤ 100 ∧ ∀ c ∈ z.cps.toList, c ∈ signs.cps.toList
end
/-! the forms of tests -/
inductive At where
  | always
  | never
  | empty (c : Str)
  | among (c : Str) (vs : List V)
  | begins (c z : Str)
  | compare (c op : Str) (v : V)
  | against (c op d : Str) (n : Int)
namespace At
def word : At → Str
  | .always => "always"
  | .never => "never"
  | .empty _ => "empty"
  | .among _ _ => "among"
  | .begins _ _ => "begins"
  | .compare _ _ _ => "compare"
  | .against _ _ _ _ => "against"
def flds : At → List Str
  | .always => []
  | .never => []
  | .empty c => [c]
  | .among c _ => [c]
  | .begins c _ => [c]
  | .compare c _ _ => [c]
  | .against c _ d _ => [c, d]
def trms : At → List V
  | .always => []
  | .never => []
  | .empty _ => []
  | .among _ vs => vs
  | .begins _ z => [.str z]
  | .compare _ op v => [.str op, v]
  | .against _ op _ n => [.str op, .int n]
def ts (a : At) : Ts := .at a.word a.flds a.trms
end At
inductive Fm where
  | at (a : At)
  | un (w : Str) (f : Fm)
  | bi (w : Str) (f g : Fm)
namespace Fm
def ts : Fm → Ts
  | .at a => a.ts
  | .un w f => .un w f.ts
  | .bi w f g => .bi w f.ts g.ts
def cols : Fm → List Str
  | .at a => a.flds
  | .un _ f => f.cols
  | .bi _ f g => f.cols ++ g.cols
theorem ts_cols : ∀ f : Fm, f.ts.cols = f.cols
  | .at a => by simp [ts, cols, Ts.cols, Ts.atoms, At.ts, Ts.flds]
  | .un w f => by
    have := ts_cols f
    simpa [ts, cols, Ts.cols, Ts.atoms] using this
  | .bi w f g => by
    have h1 := ts_cols f
    have h2 := ts_cols g
    simp only [ts, cols, Ts.cols, Ts.atoms, List.flatMap_append] at h1 h2 ⊢
    rw [h1, h2]
def size (f : Fm) : Nat := f.ts.size
def depth (f : Fm) : Nat := f.ts.depth
end Fm
def opsL : List Str := ["<", "<=", "==", "!=", ">", ">="]
/-- a value of a kind: number, text -/
def isV : Bool → V → Prop
  | false, v => isI v
  | true, v => isS v
def At.Wf (κ : List (Str × Bool)) : At → Prop
  | .always => True
  | .never => True
  | .empty c => nameP c ∧ ∃ k, (c, k) ∈ κ
  | .among c vs => nameP c ∧ vs ≠ [] ∧ vs.length ≤ 2 ∧ ∃ k, (c, k) ∈ κ ∧ ∀ v ∈ vs, isV k v
  | .begins c z => nameP c ∧ (c, true) ∈ κ ∧ isS (.str z)
  | .compare c op v => nameP c ∧ op ∈ opsL ∧ ∃ k, (c, k) ∈ κ ∧ isV k v
  | .against c op d n => nameP c ∧ nameP d ∧ d ≠ c ∧ op ∈ opsL ∧ ∃ k, (c, k) ∈ κ ∧ (d, k) ∈ κ ∧ (k = true → n = 0)
def Fm.Wf (κ : List (Str × Bool)) : Fm → Prop
  | .at a => a.Wf κ
  | .un w f => (w = "not" ∨ w = "sure") ∧ f.Wf κ
  | .bi w f g => (w = "and" ∨ w = "or") ∧ f.Wf κ ∧ g.Wf κ
/-! the same, up to eight values -/
def At.WfW (κ : List (Str × Bool)) : At → Prop
  | .always => True
  | .never => True
  | .empty c => nameP c ∧ ∃ k, (c, k) ∈ κ
  | .among c vs => nameP c ∧ vs ≠ [] ∧ vs.length ≤ 8 ∧ ∃ k, (c, k) ∈ κ ∧ ∀ v ∈ vs, isV k v
  | .begins c z => nameP c ∧ (c, true) ∈ κ ∧ isS (.str z)
  | .compare c op v => nameP c ∧ op ∈ opsL ∧ ∃ k, (c, k) ∈ κ ∧ isV k v
  | .against c op d n => nameP c ∧ nameP d ∧ d ≠ c ∧ op ∈ opsL ∧ ∃ k, (c, k) ∈ κ ∧ (d, k) ∈ κ ∧ (k = true → n = 0)
def Fm.WfW (κ : List (Str × Bool)) : Fm → Prop
  | .at a => a.WfW κ
  | .un w f => (w = "not" ∨ w = "sure") ∧ f.WfW κ
  | .bi w f g => (w = "and" ∨ w = "or") ∧ f.WfW κ ∧ g.WfW κ
theorem At.Wf.wide {κ : List (Str × Bool)} {a : At} (h : a.Wf κ) : a.WfW κ := by
  cases a with
  | among c vs => exact ⟨h.1, h.2.1, Nat.le_trans h.2.2.1 (by decide), h.2.2.2⟩
  | always => trivial
  | never => trivial
  | empty c => exact h
  | begins c z => exact h
  | compare c op v => exact h
  | against c op d n => exact h
theorem Fm.Wf.wide {κ : List (Str × Bool)} : ∀ {f : Fm}, f.Wf κ → f.WfW κ
  | .at a, h => At.Wf.wide h
  | .un _ f, h => ⟨h.1, Fm.Wf.wide h.2⟩
  | .bi _ f g, h => ⟨h.1, Fm.Wf.wide h.2.1, Fm.Wf.wide h.2.2⟩
theorem isV.thing {H : Hp} {k : Bool} {v : V} (h : isV k v) : thing H v := by
  cases k with
  | false => obtain ⟨i, rfl⟩ := h; exact .inr (.inr (.inl ⟨i, rfl⟩))
  | true => obtain ⟨z, rfl, l, _⟩ := h; exact .inr (.inr (.inr (.inl ⟨z, rfl, l⟩)))
theorem isS.txt {z : Str} (h : isS (.str z)) : txtB z = true := by
  obtain ⟨y, e, _, hc⟩ := h
  cases e
  unfold txtB
  rw [List.all_eq_true]
  intro c m
  exact decide_eq_true (hc c m)
theorem isV.kind {k : Bool} {v : V} (h : isV k v) : ∃ s, kindV v = .str s := by
  cases k with
  | false => obtain ⟨i, rfl⟩ := h; exact ⟨_, rfl⟩
  | true =>
    obtain ⟨z, rfl, hz⟩ := h
    have e : txtB z = true := isS.txt ⟨z, rfl, hz⟩
    refine ⟨"text", ?_⟩
    show (if txtB z = true then V.str (Str.ofString "text") else V.non) = _
    rw [if_pos e]
section
variable {P : Program} {w : World} {K : PySem.W.Frag} {mg : Str → Option Value} {base : Heap}
theorem ok_need_op (T : Txt K mg) : Def P w K mg base 1 "need_op" ["thing"] (spNeed fun v => ∃ c, v = .str c ∧ c ∈ opsL) := by
  obtain ⟨f, fd, h⟩ := T.d_need_op
  obtain ⟨t_OPS, G_OPS, Q_OPS⟩ := T.k_OPS
  refine h.def (Fun.okM h.fn sc_need_op (fun vs H Q E h => ?_) (fun cdv A outer s H vs Q E hr h => ?_))
  · obtain ⟨v, rfl, _⟩ := h
    rfl
  · obtain ⟨v, rfl, ⟨c, rfl, hc⟩, k⟩ := h
    refine ⟨_, (pss_one (ps_if (PW.pt (pw_or (pt_not (pt_val (pe_callB (call_isiG (K := K) rfl) (by rfl) T.h_isinstance (by decide +kernel) (pa_cons (pv 0) (pa_cons (pe_bltn (v := .ty "str") (by rfl) T.h_str (by decide +kernel) rfl) pa_nil))))) (pw_or1 (pt_cmpR (op_notInG (K := K) rfl) (pv 0) (pe_glob (v := .ref t_OPS) rfl G_OPS rfl) (by rfl)))))
  (pss_one ps_never)
  pss_nil)), ?_⟩
    walk_at "g"
    refine .inr ⟨_, opsL.map V.str, rfl, .inr (Q_OPS _), rfl, Tw.flat_strs _, ?_⟩
    rw [if_pos rfl, inV_strs]
    walk_at "g"
    refine g_ndec (fun h => absurd hc h) (fun _ => ?_)
    walk_at "g"
    exact k _ fun _ _ h => h
theorem kit_seq {K : PySem.W.Frag} : ∀ T ∈ kinds7, PySem.W.kitAny K (.type T) [.type "list", .type "tuple"] = some (decide (T = "list" ∨ T = "tuple")) := by
  intro T h
  unfold kinds7 at h
  simp only [List.mem_cons, List.not_mem_nil, or_false] at h
  rcases h with rfl | rfl | rfl | rfl | rfl | rfl | rfl
  · exact kitAny_cons (b := false) (kit_ty (by decide +kernel)) (fun _ => kitAny_cons (b := false) (kit_ty (by decide +kernel)) (fun _ => rfl) (fun z => nomatch z)) (fun z => nomatch z)
  · exact kitAny_cons (b := false) (kit_ty (by decide +kernel)) (fun _ => kitAny_cons (b := false) (kit_ty (by decide +kernel)) (fun _ => rfl) (fun z => nomatch z)) (fun z => nomatch z)
  · exact kitAny_cons (b := false) (kit_ty (by decide +kernel)) (fun _ => kitAny_cons (b := false) (kit_ty (by decide +kernel)) (fun _ => rfl) (fun z => nomatch z)) (fun z => nomatch z)
  · exact kitAny_cons (b := false) (kit_ty (by decide +kernel)) (fun _ => kitAny_cons (b := false) (kit_ty (by decide +kernel)) (fun _ => rfl) (fun z => nomatch z)) (fun z => nomatch z)
  · exact kitAny_cons (b := true) (kit_ty (by decide +kernel)) (fun z => nomatch z) (fun _ => by decide)
  · exact kitAny_cons (b := false) (kit_ty (by decide +kernel)) (fun _ => kitAny_cons (b := true) (kit_ty (by decide +kernel)) (fun z => nomatch z) (fun _ => by decide)) (fun z => nomatch z)
  · exact kitAny_cons (b := false) (kit_ty (by decide +kernel)) (fun _ => kitAny_cons (b := false) (kit_ty (by decide +kernel)) (fun _ => rfl) (fun z => nomatch z)) (fun z => nomatch z)
theorem ok_is_sequence (T : Txt K mg) : Def P w K mg base 1 "is_sequence" ["thing"] (fun vs H Q _ => ∃ v Tn, vs = [v] ∧ Tn ∈ kinds7 ∧ TyOf7 H v Tn ∧ ∀ H', (∀ q o, H q = some o → H' q = some o) → Q (.bl (decide (Tn = "list" ∨ Tn = "tuple"))) H') := by
  obtain ⟨f, fd, h⟩ := T.d_is_sequence
  refine h.def (Fun.okM h.fn sc_is_sequence (fun vs H Q E h => ?_) (fun cdv A outer s H vs Q E hr h => ?_))
  · obtain ⟨v, Tn, rfl, _⟩ := h
    rfl
  · obtain ⟨v, Tn, rfl, hT, ty, k⟩ := h
    refine ⟨_, (pss_one (ps_ret (pe_callB call_isiT (by rfl) T.h_isinstance (by decide +kernel) (pa_cons (pv 0) (pa_cons (pe_tup (pa_cons (pe_bltn (v := .ty "list") (by rfl) T.h_list (by decide +kernel) rfl) (pa_cons (pe_bltn (v := .ty "tuple") (by rfl) T.h_tuple (by decide +kernel) rfl) pa_nil))) pa_nil))))), ?_⟩
    walk_at "g"
    refine ⟨by show 2 ≤ sizeLine; decide, fun t ht => ?_⟩
    walk_at "g"
    have kt : ∀ q o, H q = some o → (upd H t (.tup [.ty "list", .ty "tuple"])) q = some o := fun q o h => by rw [upd_ne (ne_of_none h ht)]; exact h
    have ty2 : TyOf7 (upd H t (.tup [.ty "list", .ty "tuple"])) v Tn := by
      cases ty with
      | non => exact .non
      | bl b => exact .bl b
      | int i => exact .int i
      | str z => exact .str z
      | lst h => exact .lst (kt _ _ h)
      | tup h => exact .tup (kt _ _ h)
      | dct h => exact .dct (kt _ _ h)
    refine ⟨v, t, _, _, _, _, rfl, upd_same, .cons (.ty "list") (.cons (.ty "tuple") .nil), ty2.x _, kit_seq Tn hT, ?_⟩
    walk_at "g"
    exact k _ kt
theorem ok_need_values (T : Txt K mg) : Def P w K mg base 3 "need_values" ["thing"] (fun vs H Q _ => ∃ (l : Addr) (xs : List V) (k : Bool), vs = [.ref l] ∧ H l = some (.lst xs) ∧ xs ≠ [] ∧ xs.length ≤ 8 ∧ (∀ v ∈ xs, isV k v) ∧ ∀ H', (∀ q o, H q = some o → H' q = some o) → Q .non H') := by
  obtain ⟨f, fd, h⟩ := T.d_need_values
  obtain ⟨t_MOST_VALUES, G_MOST_VALUES⟩ := T.k_MOST_VALUES
  refine h.def (Fun.okM h.fn sc_need_values (fun vs H Q E h => ?_) (fun cdv A outer s H vs Q E hr h => ?_))
  · obtain ⟨l, xs, kd, rfl, _⟩ := h
    rfl
  · obtain ⟨l, xs, kd, rfl, hl, hne, h8, hv, k⟩ := h
    refine ⟨_, (pss_cons (ps_if (PW.pt (pw_or (pt_not (pt_val (pe_def (ok_is_sequence T) hr rfl (pa_cons (pv 0) pa_nil)))) (pw_or (pt_cmpR op_eq (pe_callB (call_lenG (K := K) rfl) (by rfl) T.h_len (by decide +kernel) (pa_cons (pv 0) pa_nil)) pe_int (nomark _)) (pw_or1 (pt_cmpR op_gtG (pe_callB (call_lenG (K := K) rfl) (by rfl) T.h_len (by decide +kernel) (pa_cons (pv 0) pa_nil)) (pe_glob (v := .int 8) rfl G_MOST_VALUES ⟨_, rfl⟩) (nomark _))))))
  (pss_one ps_never)
  pss_nil)
  (pss_one (ps_for PassesOwn.never rfl (pi_list (pv 0)) (pg_name (i := 1) sc_need_values.nd rfl (Or.inl rfl))
  (pss_one (ps_if (pt_cmpR op_isNG (pe_def (ok_kind_of T) hr rfl (pa_cons (pv 1) pa_nil)) pe_non (nomark _))
  (pss_one ps_never)
  pss_nil))))), ?_⟩
    have hpos : 0 < xs.length := List.length_pos_iff.mpr hne
    walk_at "g"
    refine ⟨_, "list", rfl, by decide, .lst hl, fun H1 k1 => ?_⟩
    have hl1 := k1 _ _ hl
    rw [show decide (("list" : String) = "list" ∨ ("list" : String) = "tuple") = true by decide]
    walk_at "g"
    refine g_dec (fun h => absurd h (by omega)) (fun _ => ?_)
    walk_at "g"
    refine g_dec (fun h => absurd h (by omega)) (fun _ => ?_)
    walk_at "g"
    refine ⟨l, rfl, ⟨_, SqL.of hl1⟩, for_listA (xs := xs) (fun j σ' H' => (∃ v, σ' = [some (.ref l), v]) ∧ ∀ q o, H q = some o → H' q = some o) ⟨⟨none, rfl⟩, k1⟩ (fun _ _ _ _ e => SqL.of (e.2 _ _ hl)) ?_ ?_⟩
    · rintro j x σ' H2 D' hj ⟨⟨v, rfl⟩, k2⟩ hnx hct hbk hrt
      have hx := hv x (List.mem_of_getElem? hj)
      obtain ⟨s, es⟩ := hx.kind
      walk_at "g"
      refine ⟨_, rfl, hx.thing, fun H3 k3 => ?_⟩
      rw [es]
      walk_at "g"
      exact hnx _ _ ⟨⟨_, rfl⟩, fun q o h => k3 _ _ (k2 _ _ h)⟩
    · rintro σ' H2 ⟨⟨v, rfl⟩, k2⟩
      walk_at "g"
      exact k _ k2
theorem ok_always (T : Txt K mg) : Def P w K mg base 4 "always" [] (fun vs H Q _ => vs = [] ∧ ∀ t H', (∀ q o, H q = some o → H' q = some o) → TestAt (cadr mg "Test") H' At.always.ts t → Q (.ref t) H') := by
  obtain ⟨f, fd, h⟩ := T.d_always
  refine h.def (Fun.okM h.fn sc_always (fun vs H Q E h => ?_) (fun cdv A outer s H vs Q E hr h => ?_))
  · obtain ⟨rfl, _⟩ := h
    rfl
  · obtain ⟨rfl, k⟩ := h
    refine ⟨_, (pss_one (ps_ret (pe_new (ok_Test_init T) hr rfl T.e_Test (pa_cons pe_str (pa_cons (pe_tup pa_nil) (pa_cons (pe_tup pa_nil) (pa_cons (pe_tup pa_nil) pa_nil))))))), ?_⟩
    walk_at "g"
    refine ⟨Nat.zero_le _, fun i hi => ?_⟩
    walk_at "g"
    refine ⟨by show 0 ≤ sizeLine; decide, fun f hf => ?_⟩
    walk_at "g"
    refine ⟨by show 0 ≤ sizeLine; decide, fun u hu => ?_⟩
    walk_at "g"
    intro x dx hx hdx hne
    have hi2 : ∀ y0 : HO, (upd (upd (upd (upd (upd H i (.tup [])) f (.tup [])) u (.tup [])) dx (.own x)) x y0) i = some (.tup []) := fun y0 => by
      have h1 : (upd (upd (upd H i (.tup [])) f (.tup [])) u (.tup [])) i = some (.tup []) := by rw [upd_ne (ne_of_none (by rw [upd_ne (ne_of_none upd_same hf)]; exact upd_same) hu), upd_ne (ne_of_none upd_same hf)]; exact upd_same
      rw [upd_ne (ne_of_none h1 hx), upd_ne (ne_of_none h1 hdx)]; exact h1
    refine ⟨x, dx, i, f, u, _, [], [], rfl, upd_same, hi2 _, .nil, Nat.zero_le _, fun H9 k9 h9 => ⟨rfl, ?_⟩⟩
    obtain ⟨e1, e2⟩ := atom_made (At.always.flds) (At.always.trms) hi hf hu hx hdx k9 h9
    walk_at "g"
    exact k x H9 (fun q o h => e1 _ _ (h)) e2
theorem ok_never (T : Txt K mg) : Def P w K mg base 4 "never" [] (fun vs H Q _ => vs = [] ∧ ∀ t H', (∀ q o, H q = some o → H' q = some o) → TestAt (cadr mg "Test") H' At.never.ts t → Q (.ref t) H') := by
  obtain ⟨f, fd, h⟩ := T.d_never
  refine h.def (Fun.okM h.fn sc_never (fun vs H Q E h => ?_) (fun cdv A outer s H vs Q E hr h => ?_))
  · obtain ⟨rfl, _⟩ := h
    rfl
  · obtain ⟨rfl, k⟩ := h
    refine ⟨_, (pss_one (ps_ret (pe_new (ok_Test_init T) hr rfl T.e_Test (pa_cons pe_str (pa_cons (pe_tup pa_nil) (pa_cons (pe_tup pa_nil) (pa_cons (pe_tup pa_nil) pa_nil))))))), ?_⟩
    walk_at "g"
    refine ⟨Nat.zero_le _, fun i hi => ?_⟩
    walk_at "g"
    refine ⟨by show 0 ≤ sizeLine; decide, fun f hf => ?_⟩
    walk_at "g"
    refine ⟨by show 0 ≤ sizeLine; decide, fun u hu => ?_⟩
    walk_at "g"
    intro x dx hx hdx hne
    have hi2 : ∀ y0 : HO, (upd (upd (upd (upd (upd H i (.tup [])) f (.tup [])) u (.tup [])) dx (.own x)) x y0) i = some (.tup []) := fun y0 => by
      have h1 : (upd (upd (upd H i (.tup [])) f (.tup [])) u (.tup [])) i = some (.tup []) := by rw [upd_ne (ne_of_none (by rw [upd_ne (ne_of_none upd_same hf)]; exact upd_same) hu), upd_ne (ne_of_none upd_same hf)]; exact upd_same
      rw [upd_ne (ne_of_none h1 hx), upd_ne (ne_of_none h1 hdx)]; exact h1
    refine ⟨x, dx, i, f, u, _, [], [], rfl, upd_same, hi2 _, .nil, Nat.zero_le _, fun H9 k9 h9 => ⟨rfl, ?_⟩⟩
    obtain ⟨e1, e2⟩ := atom_made (At.never.flds) (At.never.trms) hi hf hu hx hdx k9 h9
    walk_at "g"
    exact k x H9 (fun q o h => e1 _ _ (h)) e2
theorem ok_empty (T : Txt K mg) : Def P w K mg base 4 "empty" ["column"] (fun vs H Q _ => ∃ c, vs = [.str c] ∧ nameP c ∧ ∀ t H', (∀ q o, H q = some o → H' q = some o) → TestAt (cadr mg "Test") H' (At.empty c).ts t → Q (.ref t) H') := by
  obtain ⟨f, fd, h⟩ := T.d_empty
  refine h.def (Fun.okM h.fn sc_empty (fun vs H Q E h => ?_) (fun cdv A outer s H vs Q E hr h => ?_))
  · obtain ⟨c, rfl, _⟩ := h
    rfl
  · obtain ⟨c, rfl, hc, k⟩ := h
    refine ⟨_, (pss_cons (ps_expr (pe_def (ok_need_column T) hr rfl (pa_cons (pv 0) pa_nil)))
  (pss_one (ps_ret (pe_new (ok_Test_init T) hr rfl T.e_Test (pa_cons pe_str (pa_cons (pe_tup pa_nil) (pa_cons (pe_tup (pa_cons (pv 0) pa_nil)) (pa_cons (pe_tup pa_nil) pa_nil)))))))), ?_⟩
    walk_at "g"
    refine ⟨_, rfl, ⟨c, rfl, hc⟩, fun H1 k1 => ?_⟩
    walk_at "g"
    refine ⟨Nat.zero_le _, fun i hi => ?_⟩
    walk_at "g"
    refine ⟨by show 1 ≤ sizeLine; decide, fun f hf => ?_⟩
    walk_at "g"
    refine ⟨by show 0 ≤ sizeLine; decide, fun u hu => ?_⟩
    walk_at "g"
    intro x dx hx hdx hne
    have hi2 : ∀ y0 : HO, (upd (upd (upd (upd (upd H1 i (.tup [])) f (.tup [V.str c])) u (.tup [])) dx (.own x)) x y0) i = some (.tup []) := fun y0 => by
      have h1 : (upd (upd (upd H1 i (.tup [])) f (.tup [V.str c])) u (.tup [])) i = some (.tup []) := by rw [upd_ne (ne_of_none (by rw [upd_ne (ne_of_none upd_same hf)]; exact upd_same) hu), upd_ne (ne_of_none upd_same hf)]; exact upd_same
      rw [upd_ne (ne_of_none h1 hx), upd_ne (ne_of_none h1 hdx)]; exact h1
    refine ⟨x, dx, i, f, u, _, [], [], rfl, upd_same, hi2 _, .nil, Nat.zero_le _, fun H9 k9 h9 => ⟨rfl, ?_⟩⟩
    obtain ⟨e1, e2⟩ := atom_made ((At.empty c).flds) ((At.empty c).trms) hi hf hu hx hdx k9 h9
    walk_at "g"
    exact k x H9 (fun q o h => e1 _ _ (k1 _ _ h)) e2
theorem ok_begins (T : Txt K mg) : Def P w K mg base 4 "begins" ["column", "prefix"] (fun vs H Q _ => ∃ c z, vs = [.str c, .str z] ∧ nameP c ∧ isS (.str z) ∧ ∀ t H', (∀ q o, H q = some o → H' q = some o) → TestAt (cadr mg "Test") H' (At.begins c z).ts t → Q (.ref t) H') := by
  obtain ⟨f, fd, h⟩ := T.d_begins
  refine h.def (Fun.okM h.fn sc_begins (fun vs H Q E h => ?_) (fun cdv A outer s H vs Q E hr h => ?_))
  · obtain ⟨c, z, rfl, _⟩ := h
    rfl
  · obtain ⟨c, z, rfl, hc, hz, k⟩ := h
    refine ⟨_, (pss_cons (ps_expr (pe_def (ok_need_column T) hr rfl (pa_cons (pv 0) pa_nil)))
  (pss_cons (ps_if (pt_not (pt_val (pe_def (ok_is_text T) hr rfl (pa_cons (pv 1) pa_nil))))
  (pss_one ps_never)
  pss_nil)
  (pss_one (ps_ret (pe_new (ok_Test_init T) hr rfl T.e_Test (pa_cons pe_str (pa_cons (pe_tup pa_nil) (pa_cons (pe_tup (pa_cons (pv 0) pa_nil)) (pa_cons (pe_tup (pa_cons (pv 1) pa_nil)) pa_nil))))))))), ?_⟩
    walk_at "g"
    refine ⟨_, rfl, ⟨c, rfl, hc⟩, fun H1 k1 => ?_⟩
    walk_at "g"
    refine ⟨_, rfl, isV.thing (k := true) hz, fun H2 k2 => ?_⟩
    rw [show isTxtB (.str z) = true from isS.txt hz]
    walk_at "g"
    refine ⟨Nat.zero_le _, fun i hi => ?_⟩
    walk_at "g"
    refine ⟨by show 1 ≤ sizeLine; decide, fun f hf => ?_⟩
    walk_at "g"
    refine ⟨by show 1 ≤ sizeLine; decide, fun u hu => ?_⟩
    walk_at "g"
    intro x dx hx hdx hne
    have hi2 : ∀ y0 : HO, (upd (upd (upd (upd (upd H2 i (.tup [])) f (.tup [V.str c])) u (.tup [V.str z])) dx (.own x)) x y0) i = some (.tup []) := fun y0 => by
      have h1 : (upd (upd (upd H2 i (.tup [])) f (.tup [V.str c])) u (.tup [V.str z])) i = some (.tup []) := by rw [upd_ne (ne_of_none (by rw [upd_ne (ne_of_none upd_same hf)]; exact upd_same) hu), upd_ne (ne_of_none upd_same hf)]; exact upd_same
      rw [upd_ne (ne_of_none h1 hx), upd_ne (ne_of_none h1 hdx)]; exact h1
    refine ⟨x, dx, i, f, u, _, [], [], rfl, upd_same, hi2 _, .nil, Nat.zero_le _, fun H9 k9 h9 => ⟨rfl, ?_⟩⟩
    obtain ⟨e1, e2⟩ := atom_made ((At.begins c z).flds) ((At.begins c z).trms) hi hf hu hx hdx k9 h9
    walk_at "g"
    exact k x H9 (fun q o h => e1 _ _ (k2 _ _ (k1 _ _ h))) e2
theorem ok_compare (T : Txt K mg) : Def P w K mg base 4 "compare" ["column", "op", "value"] (fun vs H Q _ => ∃ c op v kd, vs = [.str c, .str op, v] ∧ nameP c ∧ op ∈ opsL ∧ isV kd v ∧ ∀ t H', (∀ q o, H q = some o → H' q = some o) → TestAt (cadr mg "Test") H' (At.compare c op v).ts t → Q (.ref t) H') := by
  obtain ⟨f, fd, h⟩ := T.d_compare
  refine h.def (Fun.okM h.fn sc_compare (fun vs H Q E h => ?_) (fun cdv A outer s H vs Q E hr h => ?_))
  · obtain ⟨c, op, v, kd, rfl, _⟩ := h
    rfl
  · obtain ⟨c, op, v, kd, rfl, hc, ho, hv, k⟩ := h
    refine ⟨_, (pss_cons (ps_expr (pe_def (ok_need_column T) hr rfl (pa_cons (pv 0) pa_nil)))
  (pss_cons (ps_expr (pe_def (ok_need_op T) hr rfl (pa_cons (pv 1) pa_nil)))
  (pss_cons (ps_if (pt_cmpR op_isNG (pe_def (ok_kind_of T) hr rfl (pa_cons (pv 2) pa_nil)) pe_non (nomark _))
  (pss_one ps_never)
  pss_nil)
  (pss_one (ps_ret (pe_new (ok_Test_init T) hr rfl T.e_Test (pa_cons pe_str (pa_cons (pe_tup pa_nil) (pa_cons (pe_tup (pa_cons (pv 0) pa_nil)) (pa_cons (pe_tup (pa_cons (pv 1) (pa_cons (pv 2) pa_nil))) pa_nil)))))))))), ?_⟩
    walk_at "g"
    refine ⟨_, rfl, ⟨c, rfl, hc⟩, fun H1 k1 => ?_⟩
    walk_at "g"
    refine ⟨_, rfl, ⟨op, rfl, ho⟩, fun H2 k2 => ?_⟩
    walk_at "g"
    obtain ⟨s0, es⟩ := hv.kind
    refine ⟨_, rfl, hv.thing, fun H3 k3 => ?_⟩
    rw [es]
    walk_at "g"
    refine ⟨Nat.zero_le _, fun i hi => ?_⟩
    walk_at "g"
    refine ⟨by show 1 ≤ sizeLine; decide, fun f hf => ?_⟩
    walk_at "g"
    refine ⟨by show 2 ≤ sizeLine; decide, fun u hu => ?_⟩
    walk_at "g"
    intro x dx hx hdx hne
    have hi2 : ∀ y0 : HO, (upd (upd (upd (upd (upd H3 i (.tup [])) f (.tup [V.str c])) u (.tup [V.str op, v])) dx (.own x)) x y0) i = some (.tup []) := fun y0 => by
      have h1 : (upd (upd (upd H3 i (.tup [])) f (.tup [V.str c])) u (.tup [V.str op, v])) i = some (.tup []) := by rw [upd_ne (ne_of_none (by rw [upd_ne (ne_of_none upd_same hf)]; exact upd_same) hu), upd_ne (ne_of_none upd_same hf)]; exact upd_same
      rw [upd_ne (ne_of_none h1 hx), upd_ne (ne_of_none h1 hdx)]; exact h1
    refine ⟨x, dx, i, f, u, _, [], [], rfl, upd_same, hi2 _, .nil, Nat.zero_le _, fun H9 k9 h9 => ⟨rfl, ?_⟩⟩
    obtain ⟨e1, e2⟩ := atom_made ((At.compare c op v).flds) ((At.compare c op v).trms) hi hf hu hx hdx k9 h9
    walk_at "g"
    exact k x H9 (fun q o h => e1 _ _ (k3 _ _ (k2 _ _ (k1 _ _ h)))) e2
theorem ok_against (T : Txt K mg) : DefKw P w K mg base 4 "against" ["column", "op", "other", "more"] 3 "more" (.int 0) (fun vs H Q _ => ∃ c op d n, vs = [.str c, .str op, .str d, .int n] ∧ nameP c ∧ op ∈ opsL ∧ nameP d ∧ d ≠ c ∧ ∀ t H', (∀ q o, H q = some o → H' q = some o) → TestAt (cadr mg "Test") H' (At.against c op d n).ts t → Q (.ref t) H') := by
  obtain ⟨f, fd, h⟩ := T.d_against
  refine h.def (Fun.okM h.fn sc_against (fun vs H Q E h => ?_) (fun cdv A outer s H vs Q E hr h => ?_))
  · obtain ⟨c, op, d, n, rfl, _⟩ := h
    rfl
  · obtain ⟨c, op, d, n, rfl, hc, ho, hd, hdc, k⟩ := h
    refine ⟨_, (pss_cons (ps_expr (pe_def (ok_need_column T) hr rfl (pa_cons (pv 0) pa_nil)))
  (pss_cons (ps_expr (pe_def (ok_need_op T) hr rfl (pa_cons (pv 1) pa_nil)))
  (pss_cons (ps_expr (pe_def (ok_need_column T) hr rfl (pa_cons (pv 2) pa_nil)))
  (pss_cons (ps_if (pt_cmpR op_eq (pv 2) (pv 0) (nomark _))
  (pss_one ps_never)
  pss_nil)
  (pss_cons (ps_if (pt_not (pt_val (pe_def (ok_is_integer T) hr rfl (pa_cons (pv 3) pa_nil))))
  (pss_one ps_never)
  pss_nil)
  (pss_one (ps_ret (pe_new (ok_Test_init T) hr rfl T.e_Test (pa_cons pe_str (pa_cons (pe_tup pa_nil) (pa_cons (pe_tup (pa_cons (pv 0) (pa_cons (pv 2) pa_nil))) (pa_cons (pe_tup (pa_cons (pv 1) (pa_cons (pv 3) pa_nil))) pa_nil)))))))))))), ?_⟩
    walk_at "g"
    refine ⟨_, rfl, ⟨c, rfl, hc⟩, fun H1 k1 => ?_⟩
    walk_at "g"
    refine ⟨_, rfl, ⟨op, rfl, ho⟩, fun H2 k2 => ?_⟩
    walk_at "g"
    refine ⟨_, rfl, ⟨d, rfl, hd⟩, fun H3 k3 => ?_⟩
    walk_at "g"
    refine g_dec (fun h => absurd h hdc) (fun _ => ?_)
    walk_at "g"
    refine ⟨_, rfl, .inr (.inr (.inl ⟨n, rfl⟩)), fun H4 k4 => ?_⟩
    rw [show isIntB (.int n) = true from rfl]
    walk_at "g"
    refine ⟨Nat.zero_le _, fun i hi => ?_⟩
    walk_at "g"
    refine ⟨by show 2 ≤ sizeLine; decide, fun f hf => ?_⟩
    walk_at "g"
    refine ⟨by show 2 ≤ sizeLine; decide, fun u hu => ?_⟩
    walk_at "g"
    intro x dx hx hdx hne
    have hi2 : ∀ y0 : HO, (upd (upd (upd (upd (upd H4 i (.tup [])) f (.tup [V.str c, V.str d])) u (.tup [V.str op, V.int n])) dx (.own x)) x y0) i = some (.tup []) := fun y0 => by
      have h1 : (upd (upd (upd H4 i (.tup [])) f (.tup [V.str c, V.str d])) u (.tup [V.str op, V.int n])) i = some (.tup []) := by rw [upd_ne (ne_of_none (by rw [upd_ne (ne_of_none upd_same hf)]; exact upd_same) hu), upd_ne (ne_of_none upd_same hf)]; exact upd_same
      rw [upd_ne (ne_of_none h1 hx), upd_ne (ne_of_none h1 hdx)]; exact h1
    refine ⟨x, dx, i, f, u, _, [], [], rfl, upd_same, hi2 _, .nil, Nat.zero_le _, fun H9 k9 h9 => ⟨rfl, ?_⟩⟩
    obtain ⟨e1, e2⟩ := atom_made ((At.against c op d n).flds) ((At.against c op d n).trms) hi hf hu hx hdx k9 h9
    walk_at "g"
    exact k x H9 (fun q o h => e1 _ _ (k4 _ _ (k3 _ _ (k2 _ _ (k1 _ _ h))))) e2
theorem ok_among (T : Txt K mg) : Def P w K mg base 4 "among" ["column", "values"] (fun vs H Q _ => ∃ c l xs kd, vs = [.str c, .ref l] ∧ nameP c ∧ H l = some (.lst xs) ∧ xs ≠ [] ∧ xs.length ≤ 8 ∧ (∀ v ∈ xs, isV kd v) ∧ ∀ t H', (∀ q o, H q = some o → H' q = some o) → TestAt (cadr mg "Test") H' (At.among c xs).ts t → Q (.ref t) H') := by
  obtain ⟨f, fd, h⟩ := T.d_among
  refine h.def (Fun.okM h.fn sc_among (fun vs H Q E h => ?_) (fun cdv A outer s H vs Q E hr h => ?_))
  · obtain ⟨c, l, xs, kd, rfl, _⟩ := h
    rfl
  · obtain ⟨c, l, xs, kd, rfl, hc, hl, hne0, h8, hv, k⟩ := h
    refine ⟨_, (pss_cons (ps_expr (pe_def (ok_need_column T) hr rfl (pa_cons (pv 0) pa_nil)))
  (pss_cons (ps_expr (pe_def (ok_need_values T) hr rfl (pa_cons (pv 1) pa_nil)))
  (pss_one (ps_ret (pe_new (ok_Test_init T) hr rfl T.e_Test (pa_cons pe_str (pa_cons (pe_tup pa_nil) (pa_cons (pe_tup (pa_cons (pv 0) pa_nil)) (pa_cons (pe_callTy call_tuple_of (by rfl) T.h_tuple (by decide +kernel) (pa_cons (pv 1) pa_nil)) pa_nil))))))))), ?_⟩
    walk_at "g"
    refine ⟨_, rfl, ⟨c, rfl, hc⟩, fun H1 k1 => ?_⟩
    walk_at "g"
    refine ⟨l, xs, kd, rfl, k1 _ _ hl, hne0, h8, hv, fun H2 k2 => ?_⟩
    have hl2 := k2 _ _ (k1 _ _ hl)
    walk_at "g"
    refine ⟨Nat.zero_le _, fun i hi => ?_⟩
    walk_at "g"
    refine ⟨by show 1 ≤ sizeLine; decide, fun f hf => ?_⟩
    walk_at "g"
    refine ⟨l, xs, rfl, .inl ⟨SqL.of (by rw [upd_ne (ne_of_none (by rw [upd_ne (ne_of_none hl2 hi)]; exact hl2) hf), upd_ne (ne_of_none hl2 hi)]; exact hl2), fun u hu => ?_⟩⟩
    walk_at "g"
    intro x dx hx hdx hne
    have hi2 : ∀ y0 : HO, (upd (upd (upd (upd (upd H2 i (.tup [])) f (.tup [V.str c])) u (.tup xs)) dx (.own x)) x y0) i = some (.tup []) := fun y0 => by
      have h1 : (upd (upd (upd H2 i (.tup [])) f (.tup [V.str c])) u (.tup xs)) i = some (.tup []) := by rw [upd_ne (ne_of_none (by rw [upd_ne (ne_of_none upd_same hf)]; exact upd_same) hu), upd_ne (ne_of_none upd_same hf)]; exact upd_same
      rw [upd_ne (ne_of_none h1 hx), upd_ne (ne_of_none h1 hdx)]; exact h1
    refine ⟨x, dx, i, f, u, _, [], [], rfl, upd_same, hi2 _, .nil, Nat.zero_le _, fun H9 k9 h9 => ⟨rfl, ?_⟩⟩
    obtain ⟨e1, e2⟩ := atom_made ((At.among c xs).flds) ((At.among c xs).trms) hi hf hu hx hdx k9 h9
    walk_at "g"
    exact k x H9 (fun q o h => e1 _ _ (k2 _ _ (k1 _ _ h))) e2
end
/-! what a test is at a row -/
def gOf (kvs : List (Key × V)) (c : Str) : V := (valV kvs (Sum.inr c)).getD .non
def cmpB (op : Str) (x y : V) : Bool := if op = "<" then ltV x y else if op = "<=" then !ltV y x else if op = "==" then decide (x = y) else if op = "!=" then !decide (x = y) else if op = ">" then ltV y x else !ltV x y
def movV (x : V) (n : Int) : V := match x with
  | .int i => .int (i + n)
  | v => v
def startsV (x : V) (z : Str) : Bool := match x with
  | .str y => Txt.startswith y z
  | _ => false
def valsE (g : Str → V) : At → V
  | .among c vs => .bl (inV (g c) vs)
  | .begins c z => .bl (startsV (g c) z)
  | .compare c op v => .bl (cmpB op (g c) v)
  | .against c op d n => .bl (cmpB op (g c) (movV (g d) n))
  | _ => .non
def evalA (g : Str → V) : At → V
  | .always => .bl true
  | .never => .bl false
  | .empty c => .bl (decide (g c = .non))
  | a => if a.flds.any (fun c => decide (g c = .non)) = true then .non else valsE g a
def andV (x y : V) : V := if x = .bl false then .bl false else if y = .bl false then .bl false else if x = .non then .non else if y = .non then .non else .bl true
def orV (x y : V) : V := if x = .bl true then .bl true else if y = .bl true then .bl true else if x = .non then .non else if y = .non then .non else .bl false
def notV (x : V) : V := match x with
  | .bl b => .bl (!b)
  | _ => .non
def combV (w : Str) (xs : List V) : V := if w = "and" then andV (xs.getD 0 .non) (xs.getD 1 .non) else if w = "or" then orV (xs.getD 0 .non) (xs.getD 1 .non) else if w = "not" then notV (xs.getD 0 .non) else .bl (decide (xs.getD 0 .non = .bl true))
def evalF (g : Str → V) : Fm → V
  | .at a => evalA g a
  | .un w f => combV w [evalF g f]
  | .bi w f h => combV w [evalF g f, evalF g h]
theorem tvB (b : Bool) : isTv (.bl b) := .inr ⟨b, rfl⟩
theorem tvN : isTv .non := .inl rfl
theorem andV_tv (x y : V) : isTv (andV x y) := by
  unfold andV
  split
  · exact tvB _
  · split
    · exact tvB _
    · split
      · exact tvN
      · split
        · exact tvN
        · exact tvB _
theorem orV_tv (x y : V) : isTv (orV x y) := by
  unfold orV
  split
  · exact tvB _
  · split
    · exact tvB _
    · split
      · exact tvN
      · split
        · exact tvN
        · exact tvB _
theorem notV_tv (x : V) : isTv (notV x) := by
  unfold notV
  split
  · exact tvB _
  · exact tvN
theorem combV_tv (w : Str) (xs : List V) : isTv (combV w xs) := by
  unfold combV
  split
  · exact andV_tv _ _
  · split
    · exact orV_tv _ _
    · split
      · exact notV_tv _
      · exact tvB _
theorem evalA_tv (g : Str → V) (a : At) : isTv (evalA g a) := by
  cases a with
  | always => exact tvB true
  | never => exact tvB false
  | empty c => exact tvB _
  | among c vs =>
    show isTv (if (At.among c vs).flds.any (fun c => decide (g c = .non)) = true then V.non else valsE g (At.among c vs))
    split
    · exact tvN
    · exact tvB _
  | begins c z =>
    show isTv (if (At.begins c z).flds.any (fun c => decide (g c = .non)) = true then V.non else valsE g (At.begins c z))
    split
    · exact tvN
    · exact tvB _
  | compare c op v =>
    show isTv (if (At.compare c op v).flds.any (fun c => decide (g c = .non)) = true then V.non else valsE g (At.compare c op v))
    split
    · exact tvN
    · exact tvB _
  | against c op d n =>
    show isTv (if (At.against c op d n).flds.any (fun c => decide (g c = .non)) = true then V.non else valsE g (At.against c op d n))
    split
    · exact tvN
    · exact tvB _
theorem evalF_tv (g : Str → V) : ∀ f, isTv (evalF g f)
  | .at a => evalA_tv g a
  | .un _ _ => combV_tv _ _
  | .bi _ _ _ => combV_tv _ _
def Fm.kids : Fm → List Fm
  | .at _ => []
  | .un _ f => [f]
  | .bi _ f g => [f, g]
def Fm.word : Fm → Str
  | .at a => a.word
  | .un w _ => w
  | .bi w _ _ => w
theorem Fm.ts_kids (f : Fm) : f.ts.kids = f.kids.map Fm.ts := by cases f <;> rfl
theorem Fm.ts_word (f : Fm) : f.ts.word = f.word := by cases f <;> rfl
theorem evalF_kids {g : Str → V} {f : Fm} (h : f.kids ≠ []) : evalF g f = combV f.word (f.kids.map (evalF g)) := by
  cases f with
  | «at» a => exact absurd rfl h
  | un w a => rfl
  | bi w a b => rfl
theorem Fm.kid_cols {f k : Fm} (h : k ∈ f.kids) : ∀ c ∈ k.cols, c ∈ f.cols := by
  intro c hc
  cases f with
  | «at» a => exact nomatch h
  | un w a =>
    obtain rfl : k = a := by simpa [kids] using h
    exact hc
  | bi w a b =>
    have h : k = a ∨ k = b := by simpa [kids] using h
    rcases h with rfl | rfl
    · exact List.mem_append.mpr (.inl hc)
    · exact List.mem_append.mpr (.inr hc)
theorem Fm.kid_wf {κ : List (Str × Bool)} {f k : Fm} (h : k ∈ f.kids) (w : f.Wf κ) : k.Wf κ := by
  cases f with
  | «at» a => exact nomatch h
  | un w a =>
    obtain rfl : k = a := by simpa [kids] using h
    exact w.2
  | bi w a b =>
    have h : k = a ∨ k = b := by simpa [kids] using h
    rcases h with rfl | rfl
    · exact w.2.1
    · exact w.2.2
/-- the values of a row are of the kinds of the columns -/
def RowV (κ : List (Str × Bool)) (g : Str → V) : Prop := ∀ c k, (c, k) ∈ κ → g c = .non ∨ isV k (g c)
theorem isV.same {k : Bool} {x y : V} (h : isV k x) (j : isV k y) : sameK x y := by
  cases k with
  | false =>
    obtain ⟨i, rfl⟩ := h
    obtain ⟨j, rfl⟩ := j
    exact .inl ⟨_, _, rfl, rfl⟩
  | true =>
    obtain ⟨i, rfl, _⟩ := h
    obtain ⟨j, rfl, _⟩ := j
    exact .inr ⟨_, _, rfl, rfl⟩
theorem isV.mov {k : Bool} {x : V} {n : Int} (h : isV k x) (hn : k = true → n = 0) : isV k (movV x n) := by
  cases k with
  | false =>
    obtain ⟨i, rfl⟩ := h
    exact ⟨_, rfl⟩
  | true =>
    obtain ⟨z, rfl, hz⟩ := h
    exact ⟨z, rfl, hz⟩
theorem same_scal {x y : V} (h : sameK x y) : L2.scal x y = true := by
  rcases h with ⟨i, j, rfl, rfl⟩ | ⟨a, b, rfl, rfl⟩ <;> rfl
theorem isV.flat {k : Bool} {v : V} (h : isV k v) : flatV v = true := by
  cases k with
  | false => obtain ⟨i, rfl⟩ := h; rfl
  | true => obtain ⟨z, rfl, _⟩ := h; rfl
section
variable {P : Program} {w : World} {K : PySem.W.Frag} {mg : Str → Option Value} {base : Heap}
theorem ok_related (T : Txt K mg) : Def P w K mg base 1 "related" ["one", "op", "other"] (fun vs H Q _ => ∃ x op y, vs = [x, .str op, y] ∧ sameK x y ∧ Q (.bl (cmpB op x y)) H) := by
  obtain ⟨f, fd, h⟩ := T.d_related
  refine h.def (Fun.okM h.fn sc_related (fun vs H Q E h => ?_) (fun cdv A outer s H vs Q E hr h => ?_))
  · obtain ⟨x, op, y, rfl, _⟩ := h
    rfl
  · obtain ⟨x, op, y, rfl, hk, k⟩ := h
    refine ⟨_, (pss_cons (ps_if (pt_cmpR op_eq (pv 1) pe_str (nomark _))
  (pss_one (ps_ret (pe_cmpR op_ltV (pv 0) (pv 2) (nomark _))))
  pss_nil)
  (pss_cons (ps_if (pt_cmpR op_eq (pv 1) pe_str (nomark _))
  (pss_one (ps_ret (pe_cmpR op_leV (pv 0) (pv 2) (nomark _))))
  pss_nil)
  (pss_cons (ps_if (pt_cmpR op_eq (pv 1) pe_str (nomark _))
  (pss_one (ps_ret (pe_cmpR op_eq (pv 0) (pv 2) (nomark _))))
  pss_nil)
  (pss_cons (ps_if (pt_cmpR op_eq (pv 1) pe_str (nomark _))
  (pss_one (ps_ret (pe_cmpR op_ne (pv 0) (pv 2) (nomark _))))
  pss_nil)
  (pss_cons (ps_if (pt_cmpR op_eq (pv 1) pe_str (nomark _))
  (pss_one (ps_ret (pe_cmpR op_gtV (pv 0) (pv 2) (nomark _))))
  pss_nil)
  (pss_one (ps_ret (pe_cmpR op_geV (pv 0) (pv 2) (nomark _))))))))), ?_⟩
    unfold cmpB at k
    walk_at "g"
    refine g_dec (fun h => ?_) (fun h => ?_)
    · rw [if_pos h] at k
      walk_at "g"
      refine ⟨hk, ?_⟩
      walk_at "g"
      exact k
    rw [if_neg h] at k
    walk_at "g"
    refine g_dec (fun h => ?_) (fun h => ?_)
    · rw [if_pos h] at k
      walk_at "g"
      refine ⟨hk, ?_⟩
      walk_at "g"
      exact k
    rw [if_neg h] at k
    walk_at "g"
    refine g_dec (fun h => ?_) (fun h => ?_)
    · rw [if_pos h] at k
      walk_at "g"
      refine ⟨same_scal hk, ?_⟩
      walk_at "g"
      exact k
    rw [if_neg h] at k
    walk_at "g"
    refine g_dec (fun h => ?_) (fun h => ?_)
    · rw [if_pos h] at k
      walk_at "g"
      refine ⟨same_scal hk, ?_⟩
      walk_at "g"
      exact k
    rw [if_neg h] at k
    walk_at "g"
    refine g_dec (fun h => ?_) (fun h => ?_)
    · rw [if_pos h] at k
      walk_at "g"
      refine ⟨hk, ?_⟩
      walk_at "g"
      exact k
    rw [if_neg h] at k
    walk_at "g"
    refine ⟨hk, ?_⟩
    walk_at "g"
    exact k
theorem ok_moved (T : Txt K mg) : Def P w K mg base 1 "moved" ["value", "more"] (fun vs H Q _ => ∃ x n k, vs = [x, .int n] ∧ isV k x ∧ (k = true → n = 0) ∧ Q (movV x n) H) := by
  obtain ⟨f, fd, h⟩ := T.d_moved
  refine h.def (Fun.okM h.fn sc_moved (fun vs H Q E h => ?_) (fun cdv A outer s H vs Q E hr h => ?_))
  · obtain ⟨x, n, kd, rfl, _⟩ := h
    rfl
  · obtain ⟨x, n, kd, rfl, hx, hn, k⟩ := h
    refine ⟨_, (pss_cons (ps_if (pt_cmpR op_eq (pv 1) pe_int (nomark _))
  (pss_one (ps_ret (pv 0)))
  pss_nil)
  (pss_one (ps_ret (pe_op op_addG (pv 0) (pv 1))))), ?_⟩
    walk_at "g"
    refine g_dec (fun h => ?_) (fun h => ?_)
    · walk_at "g"
      have e : movV x n = x := by
        subst h
        cases x <;> first | rfl | exact congrArg V.int (Int.add_zero _)
      rw [e] at k
      exact k
    · walk_at "g"
      cases kd with
      | true => exact absurd (hn rfl) h
      | false =>
        obtain ⟨i, rfl⟩ := hx
        walk_at "g"
        exact k
def spTv2 (g : V → V → V) : Sp := fun vs H Q _ => ∃ x y, vs = [x, y] ∧ isTv x ∧ isTv y ∧ Q (g x y) H
theorem ok_and_truth (T : Txt K mg) : Def P w K mg base 1 "and_truth" ["one", "other"] (spTv2 andV) := by
  obtain ⟨f, fd, h⟩ := T.d_and_truth
  refine h.def (Fun.okM h.fn sc_and_truth (fun vs H Q E h => ?_) (fun cdv A outer s H vs Q E hr h => ?_))
  · obtain ⟨x, y, rfl, _⟩ := h
    rfl
  · obtain ⟨x, y, rfl, hx, hy, k⟩ := h
    refine ⟨_, (pss_cons (ps_if (PW.pt (pw_or (pt_cmpR op_isTv (pv 0) pe_bl (nomark _)) (pw_or1 (pt_cmpR op_isTv (pv 1) pe_bl (nomark _)))))
  (pss_one (ps_ret pe_bl))
  pss_nil)
  (pss_cons (ps_if (PW.pt (pw_or (pt_cmpR op_isNG (pv 0) pe_non (nomark _)) (pw_or1 (pt_cmpR op_isNG (pv 1) pe_non (nomark _)))))
  (pss_one (ps_ret pe_non))
  pss_nil)
  (pss_one (ps_ret pe_bl)))), ?_⟩
    unfold andV at k
    walk_at "g"
    refine ⟨hx, ⟨_, rfl⟩, ?_⟩
    walk_at "g"
    refine g_dec (fun h => ?_) (fun h => ?_)
    · rw [if_pos h] at k
      walk_at "g"
      exact k
    rw [if_neg h] at k
    walk_at "g"
    refine ⟨hy, ⟨_, rfl⟩, ?_⟩
    walk_at "g"
    refine g_dec (fun h => ?_) (fun h => ?_)
    · rw [if_pos h] at k
      walk_at "g"
      exact k
    rw [if_neg h] at k
    walk_at "g"
    refine g_dec (fun h => ?_) (fun h => ?_)
    · rw [if_pos h] at k
      walk_at "g"
      exact k
    rw [if_neg h] at k
    walk_at "g"
    refine g_dec (fun h => ?_) (fun h => ?_)
    · rw [if_pos h] at k
      walk_at "g"
      exact k
    rw [if_neg h] at k
    walk_at "g"
    exact k
theorem ok_or_truth (T : Txt K mg) : Def P w K mg base 1 "or_truth" ["one", "other"] (spTv2 orV) := by
  obtain ⟨f, fd, h⟩ := T.d_or_truth
  refine h.def (Fun.okM h.fn sc_or_truth (fun vs H Q E h => ?_) (fun cdv A outer s H vs Q E hr h => ?_))
  · obtain ⟨x, y, rfl, _⟩ := h
    rfl
  · obtain ⟨x, y, rfl, hx, hy, k⟩ := h
    refine ⟨_, (pss_cons (ps_if (PW.pt (pw_or (pt_cmpR op_isTv (pv 0) pe_bl (nomark _)) (pw_or1 (pt_cmpR op_isTv (pv 1) pe_bl (nomark _)))))
  (pss_one (ps_ret pe_bl))
  pss_nil)
  (pss_cons (ps_if (PW.pt (pw_or (pt_cmpR op_isNG (pv 0) pe_non (nomark _)) (pw_or1 (pt_cmpR op_isNG (pv 1) pe_non (nomark _)))))
  (pss_one (ps_ret pe_non))
  pss_nil)
  (pss_one (ps_ret pe_bl)))), ?_⟩
    unfold orV at k
    walk_at "g"
    refine ⟨hx, ⟨_, rfl⟩, ?_⟩
    walk_at "g"
    refine g_dec (fun h => ?_) (fun h => ?_)
    · rw [if_pos h] at k
      walk_at "g"
      exact k
    rw [if_neg h] at k
    walk_at "g"
    refine ⟨hy, ⟨_, rfl⟩, ?_⟩
    walk_at "g"
    refine g_dec (fun h => ?_) (fun h => ?_)
    · rw [if_pos h] at k
      walk_at "g"
      exact k
    rw [if_neg h] at k
    walk_at "g"
    refine g_dec (fun h => ?_) (fun h => ?_)
    · rw [if_pos h] at k
      walk_at "g"
      exact k
    rw [if_neg h] at k
    walk_at "g"
    refine g_dec (fun h => ?_) (fun h => ?_)
    · rw [if_pos h] at k
      walk_at "g"
      exact k
    rw [if_neg h] at k
    walk_at "g"
    exact k
theorem ok_not_truth (T : Txt K mg) : Def P w K mg base 1 "not_truth" ["one"] (fun vs H Q _ => ∃ x, vs = [x] ∧ isTv x ∧ Q (notV x) H) := by
  obtain ⟨f, fd, h⟩ := T.d_not_truth
  refine h.def (Fun.okM h.fn sc_not_truth (fun vs H Q E h => ?_) (fun cdv A outer s H vs Q E hr h => ?_))
  · obtain ⟨x, rfl, _⟩ := h
    rfl
  · obtain ⟨x, rfl, hx, k⟩ := h
    refine ⟨_, (pss_cons (ps_if (pt_cmpR op_isNG (pv 0) pe_non (nomark _))
  (pss_one (ps_ret pe_non))
  pss_nil)
  (pss_one (ps_ret (pe_not (pv 0))))), ?_⟩
    rcases hx with rfl | ⟨b, rfl⟩
    · walk_at "g"
      exact k
    · walk_at "g"
      exact k
theorem ok_combined_truth (T : Txt K mg) : Def P w K mg base 2 "combined_truth" ["word", "truths"] (fun vs H Q _ => ∃ wd l xs, vs = [.str wd, .ref l] ∧ H l = some (.lst xs) ∧ (∀ x ∈ xs, isTv x) ∧ 0 < xs.length ∧ (wd = "and" ∨ wd = "or" → xs.length = 2) ∧ Q (combV wd xs) H) := by
  obtain ⟨f, fd, h⟩ := T.d_combined_truth
  refine h.def (Fun.okM h.fn sc_combined_truth (fun vs H Q E h => ?_) (fun cdv A outer s H vs Q E hr h => ?_))
  · obtain ⟨wd, l, xs, rfl, _⟩ := h
    rfl
  · obtain ⟨wd, l, xs, rfl, hl, hx, h0, h2, k⟩ := h
    refine ⟨_, (pss_cons (ps_if (pt_cmpR op_eq (pv 0) pe_str (nomark _))
  (pss_one (ps_ret (pe_def (ok_and_truth T) hr rfl (pa_cons (pe_ix (ix_seqG (K := K) rfl) (pv 1) pe_int (fun _ _ => rfl)) (pa_cons (pe_ix (ix_seqG (K := K) rfl) (pv 1) pe_int (fun _ _ => rfl)) pa_nil)))))
  pss_nil)
  (pss_cons (ps_if (pt_cmpR op_eq (pv 0) pe_str (nomark _))
  (pss_one (ps_ret (pe_def (ok_or_truth T) hr rfl (pa_cons (pe_ix (ix_seqG (K := K) rfl) (pv 1) pe_int (fun _ _ => rfl)) (pa_cons (pe_ix (ix_seqG (K := K) rfl) (pv 1) pe_int (fun _ _ => rfl)) pa_nil)))))
  pss_nil)
  (pss_cons (ps_if (pt_cmpR op_eq (pv 0) pe_str (nomark _))
  (pss_one (ps_ret (pe_def (ok_not_truth T) hr rfl (pa_cons (pe_ix (ix_seqG (K := K) rfl) (pv 1) pe_int (fun _ _ => rfl)) pa_nil))))
  pss_nil)
  (pss_one (ps_ret (pe_cmpR op_isTv (pe_ix (ix_seqG (K := K) rfl) (pv 1) pe_int (fun _ _ => rfl)) pe_bl (nomark _))))))), ?_⟩
    unfold combV at k
    have i0 : atI xs 0 = some (xs.getD 0 .non) := by
      refine atI_nat (j := 0) ?_
      rw [List.getD_eq_getElem?_getD, List.getElem?_eq_getElem h0]; rfl
    have t0 : isTv (xs.getD 0 .non) := by
      rw [List.getD_eq_getElem?_getD, List.getElem?_eq_getElem h0]
      exact hx _ (List.getElem_mem h0)
    have i1 : xs.length = 2 → atI xs 1 = some (xs.getD 1 .non) ∧ isTv (xs.getD 1 .non) := fun e => by
      have h1 : 1 < xs.length := by omega
      refine ⟨atI_nat (j := 1) ?_, ?_⟩
      · rw [List.getD_eq_getElem?_getD, List.getElem?_eq_getElem h1]; rfl
      · rw [List.getD_eq_getElem?_getD, List.getElem?_eq_getElem h1]
        exact hx _ (List.getElem_mem h1)
    walk_at "g"
    refine g_dec (fun h => ?_) (fun h => ?_)
    · rw [if_pos h] at k
      obtain ⟨j1, t1⟩ := i1 (h2 (.inl h))
      walk_at "g"
      refine g_ixL (SqL.of hl) i0 ?_
      walk_at "g"
      refine g_ixL (SqL.of hl) j1 ?_
      walk_at "g"
      refine ⟨_, _, rfl, t0, t1, ?_⟩
      walk_at "g"
      exact k
    rw [if_neg h] at k
    walk_at "g"
    refine g_dec (fun h => ?_) (fun h => ?_)
    · rw [if_pos h] at k
      obtain ⟨j1, t1⟩ := i1 (h2 (.inr h))
      walk_at "g"
      refine g_ixL (SqL.of hl) i0 ?_
      walk_at "g"
      refine g_ixL (SqL.of hl) j1 ?_
      walk_at "g"
      refine ⟨_, _, rfl, t0, t1, ?_⟩
      walk_at "g"
      exact k
    rw [if_neg h] at k
    walk_at "g"
    refine g_dec (fun h => ?_) (fun h => ?_)
    · rw [if_pos h] at k
      walk_at "g"
      refine g_ixL (SqL.of hl) i0 ?_
      walk_at "g"
      refine ⟨_, rfl, t0, ?_⟩
      walk_at "g"
      exact k
    rw [if_neg h] at k
    walk_at "g"
    refine g_ixL (SqL.of hl) i0 ?_
    walk_at "g"
    refine ⟨t0, ⟨_, rfl⟩, ?_⟩
    walk_at "g"
    exact k
end
section
variable {P : Program} {w : World} {K : PySem.W.Frag} {mg : Str → Option Value} {base : Heap}
theorem evalA_vals {g : Str → V} {a : At} (hw : a.word ≠ "always" ∧ a.word ≠ "never" ∧ a.word ≠ "empty") : evalA g a = if a.flds.any (fun c => decide (g c = .non)) = true then .non else valsE g a := by
  cases a with
  | always => exact absurd rfl hw.1
  | never => exact absurd rfl hw.2.1
  | empty c => exact absurd rfl hw.2.2
  | among c vs => rfl
  | begins c z => rfl
  | compare c op v => rfl
  | against c op d n => rfl
/-- held values of an atom -/
def spVals (C : Addr) : Sp := fun vs H Q _ => ∃ (p l : Addr) (a : At) (κ : List (Str × Bool)) (g : Str → V), vs = [.ref p, .ref l] ∧ TestAt C H a.ts p ∧ a.Wf κ ∧ RowV κ g ∧ (a.word ≠ "always" ∧ a.word ≠ "never" ∧ a.word ≠ "empty") ∧ H l = some (.lst (a.flds.map g)) ∧ (∀ c ∈ a.flds, g c ≠ .non) ∧ Q (valsE g a) H
theorem ok_values_truth (T : Txt K mg) : Def P w K mg base 2 "values_truth" ["atom", "held"] (spVals (cadr mg "Test")) := by
  obtain ⟨f, fd, h⟩ := T.d_values_truth
  refine h.def (Fun.okM h.fn sc_values_truth (fun vs H Q E h => ?_) (fun cdv A outer s H vs Q E hr h => ?_))
  · obtain ⟨p, l, a, κ, g, rfl, _⟩ := h
    rfl
  · obtain ⟨p, l, a, κ, g, rfl, hA, hw, hv, hnw, hl, hn, k⟩ := h
    refine ⟨_, (pss_cons (ps_if (pt_cmpR op_eq (pe_fldG (K := K) rfl (pv 0) rfl) pe_str (nomark _))
  (pss_one (ps_ret (pe_def (ok_related T) hr rfl (pa_cons (pe_ix (ix_seqG (K := K) rfl) (pv 1) pe_int (fun _ _ => rfl)) (pa_cons (pe_ix (ix_seqG (K := K) rfl) (pe_fldG (K := K) rfl (pv 0) rfl) pe_int (fun _ _ => rfl)) (pa_cons (pe_ix (ix_seqG (K := K) rfl) (pe_fldG (K := K) rfl (pv 0) rfl) pe_int (fun _ _ => rfl)) pa_nil))))))
  pss_nil)
  (pss_cons (ps_if (pt_cmpR op_eq (pe_fldG (K := K) rfl (pv 0) rfl) pe_str (nomark _))
  (pss_one (ps_ret (pe_def (ok_related T) hr rfl (pa_cons (pe_ix (ix_seqG (K := K) rfl) (pv 1) pe_int (fun _ _ => rfl)) (pa_cons (pe_ix (ix_seqG (K := K) rfl) (pe_fldG (K := K) rfl (pv 0) rfl) pe_int (fun _ _ => rfl)) (pa_cons (pe_def (ok_moved T) hr rfl (pa_cons (pe_ix (ix_seqG (K := K) rfl) (pv 1) pe_int (fun _ _ => rfl)) (pa_cons (pe_ix (ix_seqG (K := K) rfl) (pe_fldG (K := K) rfl (pv 0) rfl) pe_int (fun _ _ => rfl)) pa_nil))) pa_nil))))))
  pss_nil)
  (pss_cons (ps_if (pt_cmpR op_eq (pe_fldG (K := K) rfl (pv 0) rfl) pe_str (nomark _))
  (pss_one (ps_ret (pe_cmpR (op_inG (K := K) rfl) (pe_ix (ix_seqG (K := K) rfl) (pv 1) pe_int (fun _ _ => rfl)) (pe_fldG (K := K) rfl (pv 0) rfl) (by rfl))))
  pss_nil)
  (pss_one (ps_ret (pe_m1 PySem.F.slot_str_startswith PySem.F.type_str_startswith mt_startswith (pe_ix (ix_seqG (K := K) rfl) (pv 1) pe_int (fun _ _ => rfl)) (pe_ix (ix_seqG (K := K) rfl) (pe_fldG (K := K) rfl (pv 0) rfl) pe_int (fun _ _ => rfl)))))))), ?_⟩
    obtain ⟨dx, i, f0, u, qs, hp, hi, hf, hu, _⟩ := hA.node
    have fv : ∀ c kd, (c, kd) ∈ κ → c ∈ a.flds → isV kd (g c) := fun c kd h m => (hv c kd h).resolve_left (hn c m)
    walk_at "g"
    refine ⟨p, _, dx, _, _, rfl, hp, T.cl_Test, T.n_Test_word, tf_word, ?_⟩
    walk_at "g"
    cases a with
    | always => exact absurd rfl hnw.1
    | never => exact absurd rfl hnw.2.1
    | empty c => exact absurd rfl hnw.2.2
    | compare c op v =>
      obtain ⟨hc, ho, kd, hk, hvv⟩ := hw
      have hg := fv c kd hk List.mem_cons_self
      refine g_dec (fun _ => ?_) (fun h => absurd rfl h)
      walk_at "g"
      refine ⟨p, _, dx, _, _, rfl, hp, T.cl_Test, T.n_Test_terms, tf_terms, ?_⟩
      walk_at "g"
      refine g_ixT (SqT.of hu) (v := .str op) (by rfl) ?_
      walk_at "g"
      refine ⟨p, _, dx, _, _, rfl, hp, T.cl_Test, T.n_Test_terms, tf_terms, ?_⟩
      walk_at "g"
      refine g_ixT (SqT.of hu) (v := v) (by rfl) ?_
      walk_at "g"
      refine ⟨_, _, _, rfl, hg.same hvv, ?_⟩
      walk_at "g"
      exact k
    | against c op d n =>
      obtain ⟨hc, hd, hcd, ho, kd, hk1, hk2, hkn⟩ := hw
      have hg := fv c kd hk1 List.mem_cons_self
      have hg2 := fv d kd hk2 (List.mem_cons_of_mem _ List.mem_cons_self)
      refine g_dec (fun h => absurd h (show ("against" : Str) ≠ "compare" by decide +kernel)) (fun _ => ?_)
      walk_at "g"
      refine ⟨p, _, dx, _, _, rfl, hp, T.cl_Test, T.n_Test_word, tf_word, ?_⟩
      walk_at "g"
      refine g_dec (fun _ => ?_) (fun h => absurd rfl h)
      walk_at "g"
      refine ⟨p, _, dx, _, _, rfl, hp, T.cl_Test, T.n_Test_terms, tf_terms, ?_⟩
      walk_at "g"
      refine g_ixT (SqT.of hu) (v := .str op) (by rfl) ?_
      walk_at "g"
      refine ⟨p, _, dx, _, _, rfl, hp, T.cl_Test, T.n_Test_terms, tf_terms, ?_⟩
      walk_at "g"
      refine g_ixT (SqT.of hu) (v := .int n) (by rfl) ?_
      walk_at "g"
      refine ⟨_, _, _, rfl, hg2, hkn, ?_⟩
      walk_at "g"
      refine ⟨_, _, _, rfl, hg.same (hg2.mov hkn), ?_⟩
      walk_at "g"
      exact k
    | among c xs =>
      obtain ⟨hc, hne, h8, kd, hk, hvv⟩ := hw
      refine g_dec (fun h => absurd h (show ("among" : Str) ≠ "compare" by decide +kernel)) (fun _ => ?_)
      walk_at "g"
      refine ⟨p, _, dx, _, _, rfl, hp, T.cl_Test, T.n_Test_word, tf_word, ?_⟩
      walk_at "g"
      refine g_dec (fun h => absurd h (show ("among" : Str) ≠ "against" by decide +kernel)) (fun _ => ?_)
      walk_at "g"
      refine ⟨p, _, dx, _, _, rfl, hp, T.cl_Test, T.n_Test_word, tf_word, ?_⟩
      walk_at "g"
      refine g_dec (fun _ => ?_) (fun h => absurd rfl h)
      walk_at "g"
      refine ⟨p, _, dx, _, _, rfl, hp, T.cl_Test, T.n_Test_terms, tf_terms, ?_⟩
      have hg := fv c kd hk List.mem_cons_self
      refine .inr ⟨_, xs, rfl, .inr (SqT.of hu), ?_, ?_, ?_⟩
      · exact hg.flat
      · exact List.all_eq_true.mpr fun v hv => (hvv v hv).flat
      rw [if_neg Bool.false_ne_true]
      walk_at "g"
      exact k
    | begins c z =>
      obtain ⟨hc, hk, hz⟩ := hw
      have hg := fv c true hk List.mem_cons_self
      refine g_dec (fun h => absurd h (show ("begins" : Str) ≠ "compare" by decide +kernel)) (fun _ => ?_)
      walk_at "g"
      refine ⟨p, _, dx, _, _, rfl, hp, T.cl_Test, T.n_Test_word, tf_word, ?_⟩
      walk_at "g"
      refine g_dec (fun h => absurd h (show ("begins" : Str) ≠ "against" by decide +kernel)) (fun _ => ?_)
      walk_at "g"
      refine ⟨p, _, dx, _, _, rfl, hp, T.cl_Test, T.n_Test_word, tf_word, ?_⟩
      walk_at "g"
      refine g_dec (fun h => absurd h (show ("begins" : Str) ≠ "among" by decide +kernel)) (fun _ => ?_)
      obtain ⟨y, ey, hy⟩ := hg
      have hl' : H l = some (.lst [V.str y]) := by rw [← ey]; exact hl
      clear hl
      walk_at "g"
      refine ⟨p, _, dx, _, _, rfl, hp, T.cl_Test, T.n_Test_terms, tf_terms, ?_⟩
      walk_at "g"
      refine g_ixT (SqT.of hu) (v := .str z) (by rfl) ?_
      refine ⟨y, z, rfl, rfl, ?_⟩
      walk_at "g"
      have e : valsE g (.begins c z) = .bl (Txt.startswith y z) := by
        show V.bl (startsV (g c) z) = _
        rw [ey]; rfl
      rw [e] at k
      exact k
def spAtomT (C : Addr) : Sp := fun vs H Q _ => ∃ (p r : Addr) (a : At) (κ : List (Str × Bool)) (kvs : List (Key × V)), vs = [.ref p, .ref r] ∧ TestAt C H a.ts p ∧ a.Wf κ ∧ RowV κ (gOf kvs) ∧ H r = some (.dK kvs) ∧ (∀ c ∈ a.flds, (valV kvs (Sum.inr c)).isSome = true) ∧ ∀ H', (∀ q o, H q = some o → H' q = some o) → Q (evalA (gOf kvs) a) H'
theorem ok_atom_truth (T : Txt K mg) : Def P w K mg base 3 "atom_truth" ["atom", "row"] (spAtomT (cadr mg "Test")) := by
  obtain ⟨f, fd, h⟩ := T.d_atom_truth
  refine h.def (Fun.okM h.fn sc_atom_truth (fun vs H Q E h => ?_) (fun cdv A outer s H vs Q E hr h => ?_))
  · obtain ⟨p, r, a, κ, kvs, rfl, _⟩ := h
    rfl
  · obtain ⟨p, r, a, κ, kvs, rfl, hA, hw, hv, hr0, hin, k⟩ := h
    refine ⟨_, (pss_cons (ps_if (pt_cmpR op_eq (pe_fldG (K := K) rfl (pv 0) rfl) pe_str (nomark _))
  (pss_one (ps_ret pe_bl))
  pss_nil)
  (pss_cons (ps_if (pt_cmpR op_eq (pe_fldG (K := K) rfl (pv 0) rfl) pe_str (nomark _))
  (pss_one (ps_ret pe_bl))
  pss_nil)
  (pss_cons (ps_setLc (i := 2) (own := [("name", 4)]) rfl sc_atom_truth.nd rfl rfl (sw_true rfl rfl rfl (by decide +kernel)) (pi_tupG (K := K) rfl (pe_fldG (K := K) rfl (pv 0) rfl)) (blkOk_by (N := N_atom_truth) (sc := defScope S_atom_truth) (by decide +kernel)) (fun _ _ _ _ _ => pg_name (i := 4) sc_atom_truth.nd rfl (Or.inl rfl)) (fun _ _ _ _ _ => pts_nil) (fun _ _ _ _ _ => (pe_dget (hu_of hr) (pv 1) (pv 4) (fun _ _ => rfl))))
  (pss_cons (ps_if (pt_cmpR op_eq (pe_fldG (K := K) rfl (pv 0) rfl) pe_str (nomark _))
  (pss_one (ps_ret (pe_cmpR op_isNG (pe_ix (ix_seqG (K := K) rfl) (pv 2) pe_int (fun _ _ => rfl)) pe_non (nomark _))))
  pss_nil)
  (pss_cons (ps_for PassesOwn.never rfl (pi_list (pv 2)) (pg_name (i := 3) sc_atom_truth.nd rfl (Or.inl rfl))
  (pss_one (ps_if (pt_cmpR op_isNG (pv 3) pe_non (nomark _))
  (pss_one (ps_ret pe_non))
  pss_nil)))
  (pss_one (ps_ret (pe_def (ok_values_truth T) hr rfl (pa_cons (pv 0) (pa_cons (pv 2) pa_nil)))))))))), ?_⟩
    obtain ⟨dx, i, f0, u, qs, hp, hi, hf, hu, _⟩ := hA.node
    have hf' : H f0 = some (.tup (a.flds.map V.str)) := hf
    have hword : a.ts.word = a.word := rfl
    walk_at "g"
    refine ⟨p, _, dx, _, _, rfl, hp, T.cl_Test, T.n_Test_word, tf_word, ?_⟩
    walk_at "g"
    refine g_dec (fun h1 => ?_) (fun h1 => ?_)
    · walk_at "g"
      cases a <;> first | exact k _ (fun _ _ h => h) | exact absurd h1 (by simp only [At.ts, Ts.word, At.word]; decide +kernel)
    walk_at "g"
    refine ⟨p, _, dx, _, _, rfl, hp, T.cl_Test, T.n_Test_word, tf_word, ?_⟩
    walk_at "g"
    refine g_dec (fun h2 => ?_) (fun h2 => ?_)
    · walk_at "g"
      cases a <;> first | exact k _ (fun _ _ h => h) | exact absurd h2 (by simp only [At.ts, Ts.word, At.word]; decide +kernel)
    walk_at "g"
    refine ⟨p, _, dx, _, _, rfl, hp, T.cl_Test, T.n_Test_fields, tf_fields, ?_⟩
    refine ⟨f0, rfl, ⟨_, SqT.of hf'⟩, fun D hD => ?_⟩
    refine lc_map (a.flds.map V.str) (fun x => match x with | .str c => gOf kvs c | v => v) hD (fun H2 k2 => fits_t (SqT.of (k2 _ _ hf'))) ?_ (fun x Hh R S hx kh hR => ?_) (fun H2 k2 hm2 => ?_)
    · rw [List.length_map]
      cases a <;> simp [At.flds]
    · obtain ⟨c, hc, rfl⟩ := List.mem_map.mp hx
      walk_at "g"
      refine ⟨rfl, ?_⟩
      walk_at "g"
      have e := hin c hc
      obtain ⟨y, ey⟩ := Option.isSome_iff_exists.mp e
      have eg : gOf kvs c = y := by unfold gOf; rw [ey]; rfl
      refine ⟨r, y, rfl, by rw [← ey]; exact DGet.k (k := Sum.inr c) (kh _ _ hr0), ?_⟩
      rw [← eg]
      exact hR
    · rw [List.map_map] at hm2
      have h2' : H2 D = some (.lst (a.flds.map (gOf kvs))) := hm2
      walk_at "g"
      refine ⟨p, _, dx, _, _, rfl, k2 _ _ hp, T.cl_Test, T.n_Test_word, tf_word, ?_⟩
      walk_at "g"
      refine g_dec (fun h3 => ?_) (fun h3 => ?_)
      · cases a with
        | empty c =>
          walk_at "g"
          exact k _ k2
        | _ => exact absurd h3 (by simp only [At.ts, Ts.word, At.word]; decide +kernel)
      have hnw : a.word ≠ "always" ∧ a.word ≠ "never" ∧ a.word ≠ "empty" := ⟨h1, h2, h3⟩
      rw [evalA_vals hnw] at k
      walk_at "g"
      refine ⟨D, rfl, ⟨_, SqL.of h2'⟩, for_listA (xs := a.flds.map (gOf kvs)) (fun j σ' H' => (∃ v, σ' = [some (.ref p), some (.ref r), some (.ref D), v, none]) ∧ H' = H2 ∧ ∀ x ∈ (a.flds.map (gOf kvs)).take j, x ≠ .non) ⟨⟨_, rfl⟩, rfl, fun x hx => nomatch hx⟩ (fun _ _ _ _ e => by rw [e.2.1]; exact SqL.of h2') ?_ ?_⟩
      · rintro j x σ' H3 D' hj ⟨⟨v, rfl⟩, rfl, hall⟩ hnx hct hbk hrt
        walk_at "g"
        refine g_dec (fun hx => ?_) (fun hx => ?_)
        · walk_at "g"
          rw [hrt]
          have hany : a.flds.any (fun c => decide (gOf kvs c = .non)) = true := by
            rw [List.any_eq_true]
            obtain ⟨c, hc, e⟩ := List.mem_map.mp (List.mem_of_getElem? hj)
            exact ⟨c, hc, decide_eq_true (e.trans hx)⟩
          rw [if_pos hany] at k
          exact k _ k2
        · walk_at "g"
          refine hnx _ _ ⟨⟨_, rfl⟩, rfl, fun y hy => ?_⟩
          rw [List.take_succ, hj] at hy
          rcases List.mem_append.mp hy with hy | hy
          · exact hall y hy
          · have : y = x := by simpa using hy
            rw [this]; exact hx
      · rintro σ' H3 ⟨⟨v, rfl⟩, rfl, hall⟩
        have hn : ∀ c ∈ a.flds, gOf kvs c ≠ .non := fun c hc => hall _ (by rw [List.take_length]; exact List.mem_map.mpr ⟨c, hc, rfl⟩)
        have hany : ¬ a.flds.any (fun c => decide (gOf kvs c = .non)) = true := fun h => by
          rw [List.any_eq_true] at h
          obtain ⟨c, hc, e⟩ := h
          exact hn c hc (of_decide_eq_true e)
        rw [if_neg hany] at k
        walk_at "g"
        refine ⟨p, D, a, κ, gOf kvs, rfl, hA.keep k2, hw, hv, hnw, h2', hn, ?_⟩
        walk_at "g"
        exact k _ k2
end
section
variable {P : Program} {w : World} {K : PySem.W.Frag} {mg : Str → Option Value} {base : Heap}
def spTruth (C : Addr) (n : Nat) : Sp := fun vs H Q _ => ∃ (p r : Addr) (f : Fm) (κ : List (Str × Bool)) (kvs : List (Key × V)), vs = [.ref p, .ref r] ∧ TestAt C H f.ts p ∧ f.Wf κ ∧ f.ts.depth ≤ n ∧ RowV κ (gOf kvs) ∧ H r = some (.dK kvs) ∧ (∀ c ∈ f.cols, (valV kvs (Sum.inr c)).isSome = true) ∧ ∀ H', (∀ q o, H q = some o → H' q = some o) → Q (evalF (gOf kvs) f) H'
theorem ok_truthN (T : Txt K mg) : ∀ n, Def P w K mg base (n + 4) "truth_at" ["test", "row"] (spTruth (cadr mg "Test") n) := by
  intro n
  induction n with
  | zero =>
    obtain ⟨f, fd, h⟩ := T.d_truth_at
    refine h.def (Fun.okM h.fn sc_truth_at (fun vs H Q E h => ?_) (fun cdv A outer s H vs Q E hr h => ?_))
    · obtain ⟨p, r, f, κ, kvs, rfl, _⟩ := h
      rfl
    · obtain ⟨p, r, f, κ, kvs, rfl, hA, hw, hd, hv, hr0, hin, k⟩ := h
      refine ⟨_, (pss_cons (ps_if (pt_cmpR op_eq (pe_callB (call_lenG (K := K) rfl) (by rfl) T.h_len (by decide +kernel) (pa_cons (pe_fldG (K := K) rfl (pv 0) rfl) pa_nil)) pe_int (nomark _))
  (pss_one (ps_ret (pe_def (ok_atom_truth T) hr rfl (pa_cons (pv 0) (pa_cons (pv 1) pa_nil)) (hk := by omega))))
  pss_nil)
  (pss_one ps_never)), ?_⟩
      obtain ⟨dx, i, f0, u, qs, hp, hi, hf, hu, hR⟩ := hA.node
      cases f with
      | un w a => exact absurd hd (by show ¬ a.ts.depth + 1 ≤ 0; omega)
      | bi w a b => exact absurd hd (by show ¬ max a.ts.depth b.ts.depth + 1 ≤ 0; omega)
      | «at» a =>
        have hq : qs = [] := List.length_eq_zero_iff.mp (by rw [hR.len]; rfl)
        subst hq
        walk_at "g"
        refine ⟨p, _, dx, _, _, rfl, hp, T.cl_Test, T.n_Test_inner, tf_inner, ?_⟩
        walk_at "g"
        refine g_lenT (SqT.of hi) ?_
        walk_at "g"
        refine g_T ?_
        walk_at "g"
        refine ⟨p, r, a, κ, kvs, rfl, hA, hw, hv, hr0, hin, fun H1 k1 => ?_⟩
        walk_at "g"
        exact k _ k1
  | succ n ih =>
    have ok_truth_at : Txt K mg → Def P w K mg base (n + 4) "truth_at" ["test", "row"] (spTruth (cadr mg "Test") n) := fun _ => ih
    obtain ⟨f, fd, h⟩ := T.d_truth_at
    refine h.def (Fun.okM h.fn sc_truth_at (fun vs H Q E h => ?_) (fun cdv A outer s H vs Q E hr h => ?_))
    · obtain ⟨p, r, f, κ, kvs, rfl, _⟩ := h
      rfl
    · obtain ⟨p, r, f, κ, kvs, rfl, hA, hw, hd, hv, hr0, hin, k⟩ := h
      refine ⟨_, (pss_cons (ps_if (pt_cmpR op_eq (pe_callB (call_lenG (K := K) rfl) (by rfl) T.h_len (by decide +kernel) (pa_cons (pe_fldG (K := K) rfl (pv 0) rfl) pa_nil)) pe_int (nomark _))
  (pss_one (ps_ret (pe_def (ok_atom_truth T) hr rfl (pa_cons (pv 0) (pa_cons (pv 1) pa_nil)) (hk := by omega))))
  pss_nil)
  (pss_one (ps_ret (pe_def (ok_combined_truth T) hr rfl (pa_cons (pe_fldG (K := K) rfl (pv 0) rfl) (pa_cons (pe_lc (own := [("part", 2)]) rfl sc_truth_at.nd (pi_tupG (K := K) rfl (pe_fldG (K := K) rfl (pv 0) rfl)) (blkOk_by (N := N_truth_at) (sc := defScope S_truth_at) (by decide +kernel)) (fun _ _ _ _ _ => pg_name (i := 2) sc_truth_at.nd rfl (Or.inl rfl)) (fun _ _ _ _ _ => pts_nil) (fun _ _ _ _ _ => (pe_def (ok_truth_at T) hr rfl (pa_cons (pv 2) (pa_cons (pv 1) pa_nil)) (hk := by omega)))) pa_nil)) (hk := by omega))))), ?_⟩
      obtain ⟨dx, i, f0, u, qs, hp, hi, hf, hu, hR⟩ := hA.node
      have hlen := hR.len
      rw [Fm.ts_kids] at hR hlen
      rw [List.length_map] at hlen
      walk_at "g"
      refine ⟨p, _, dx, _, _, rfl, hp, T.cl_Test, T.n_Test_inner, tf_inner, ?_⟩
      walk_at "g"
      refine g_lenT (SqT.of hi) ?_
      walk_at "g"
      refine g_dec (fun h0 => ?_) (fun h0 => ?_)
      · rw [List.length_map] at h0
        cases f with
        | un w a => exact absurd hlen (by show ¬ qs.length = 1; omega)
        | bi w a b => exact absurd hlen (by show ¬ qs.length = 2; omega)
        | «at» a =>
          walk_at "g"
          refine ⟨p, r, a, κ, kvs, rfl, hA, hw, hv, hr0, hin, fun H1 k1 => ?_⟩
          walk_at "g"
          exact k _ k1
      · have hk : f.kids ≠ [] := fun e => h0 (by rw [List.length_map, hlen, e]; rfl)
        walk_at "g"
        refine ⟨p, _, dx, _, _, rfl, hp, T.cl_Test, T.n_Test_word, tf_word, ?_⟩
        walk_at "g"
        refine ⟨p, _, dx, _, _, rfl, hp, T.cl_Test, T.n_Test_inner, tf_inner, ?_⟩
        refine ⟨i, rfl, ⟨_, SqT.of hi⟩, fun D hD => ?_⟩
        refine lc_tup (K := K) (a := i) (xs := qs.map V.ref) (fun j H' => H' D = some (.lst ((f.kids.take j).map (evalF (gOf kvs)))) ∧ ∀ q o, H q = some o → H' q = some o) ⟨upd_same, fun q o h => by rw [upd_ne (ne_of_none h hD)]; exact h⟩ (fun j H' _ p => SqT.of (p.2 _ _ hi)) ?_ ?_
        · rintro j x H2 hj ⟨hD2, k2⟩
          rw [List.getElem?_map] at hj
          obtain ⟨q, hq, rfl⟩ := Option.map_eq_some_iff.mp hj
          obtain ⟨t, ht, A⟩ := hR.get hq
          rw [List.getElem?_map] at ht
          obtain ⟨kf, hkf, rfl⟩ := Option.map_eq_some_iff.mp ht
          have hm := List.mem_of_getElem? hkf
          have hdk : kf.ts.depth ≤ n := by
            have := Ts.kids_depth (t := f.ts) (k := kf.ts) (by rw [Fm.ts_kids]; exact List.mem_map.mpr ⟨kf, hm, rfl⟩)
            omega
          walk_at "g"
          refine ⟨rfl, ?_⟩
          walk_at "g"
          refine ⟨q, r, kf, κ, kvs, rfl, A.keep k2, Fm.kid_wf hm hw, hdk, hv, k2 _ _ hr0, fun c hc => hin c (Fm.kid_cols hm c hc), fun H3 k3 => ?_⟩
          refine ⟨_, k3 _ _ hD2, ?_, ?_, fun q o h => by rw [upd_ne (ne_of_none h hD)]; exact k3 _ _ (k2 q o h)⟩
          · have h2 := Ts.kids_len f.ts
            rw [Fm.ts_kids, List.length_map] at h2
            rw [List.length_map, List.length_take, sizeLine_eq]
            omega
          · rw [upd_same, List.take_succ, hkf, List.map_append]; rfl
        · rintro H2 ⟨hD2, k2⟩
          rw [List.length_map, hlen, List.take_length] at hD2
          walk_at "g"
          refine ⟨_, D, _, rfl, hD2, fun x hx => ?_, ?_, fun hb => ?_, ?_⟩
          · obtain ⟨y, _, rfl⟩ := List.mem_map.mp hx
            exact evalF_tv _ _
          · rw [List.length_map]
            exact List.length_pos_iff.mpr hk
          · rw [List.length_map]
            cases f with
            | «at» a => exact absurd rfl hk
            | un wd a =>
              have hb' : wd = "and" ∨ wd = "or" := hb
              have := hw.1
              rcases hb' with rfl | rfl <;> rcases this with h | h <;> exact absurd h (by decide +kernel)
            | bi wd a b => rfl
          · walk_at "g"
            have := k _ k2
            rw [evalF_kids hk] at this
            rw [Fm.ts_word]
            exact this
theorem ok_truth_at (T : Txt K mg) : Def P w K mg base 16 "truth_at" ["test", "row"] (spTruth (cadr mg "Test") 12) := ok_truthN T 12
end
theorem find_at {α : Type} {p : α → Bool} : ∀ {xs : List α} {j : Nat} {x : α}, xs[j]? = some x → p x = true → (∀ y ∈ xs.take j, p y = false) → xs.find? p = some x
  | [], j, x, h, _, _ => by simp at h
  | a :: r, 0, x, h, hp, _ => by
    simp at h
    subst h
    rw [List.find?_cons, hp]
  | a :: r, j + 1, x, h, hp, hn => by
    have ha : p a = false := hn a (by rw [List.take_succ_cons]; exact List.mem_cons_self)
    rw [List.find?_cons, ha]
    exact find_at (j := j) (by simpa using h) hp (fun y hy => hn y (by rw [List.take_succ_cons]; exact List.mem_cons_of_mem _ hy))
theorem find_no {α : Type} {p : α → Bool} {xs : List α} (h : ∀ y ∈ xs, p y = false) : xs.find? p = none :=
  List.find?_eq_none.mpr fun y hy e => by rw [h y hy] at e; exact Bool.false_ne_true e
def xcol (v : V) : HO := .xd [(("column" : Str), v)]
def missB (kvs : List (Key × V)) (c : Str) : Bool := (valV kvs (Sum.inr c)).isNone
def spTruthM (C CB : Addr) : Sp := fun vs H Q E => ∃ (p : Addr) (y : V) (f : Fm) (κ : List (Str × Bool)), vs = [.ref p, y] ∧ TestAt C H f.ts p ∧ f.Wf κ ∧ f.ts.depth ≤ 12 ∧ f.ts.size ≤ 1000 ∧ f.cols.length ≤ 1000 ∧
  ((∃ T, T ∈ kinds7 ∧ TyOf7 H y T ∧ T ≠ "dict" ∧ ∀ d H', (∀ q o, H q = some o → H' q = some o) → H' d = some (xcol .non) → E (.ref CB) (some d) H') ∨
   (∃ (r : Addr) (kvs : List (Key × V)), y = .ref r ∧ H r = some (.dK kvs) ∧ RowV κ (gOf kvs) ∧ ∀ zs : List Str, PyProof.Rows.sortedS zs = true → zs.Nodup → (∀ k, k ∈ zs ↔ k ∈ f.cols) →
      (∀ c, zs.find? (missB kvs) = some c → ∀ d H', (∀ q o, H q = some o → H' q = some o) → H' d = some (xcol (.str c)) → E (.ref CB) (some d) H') ∧
      (zs.find? (missB kvs) = none → ∀ H', (∀ q o, H q = some o → H' q = some o) → Q (evalF (gOf kvs) f) H')))
theorem kb_dict : ∀ T ∈ kinds7, kitB T "dict" = some (decide (T = "dict")) := by
  intro T h
  unfold kinds7 at h
  simp only [List.mem_cons, List.not_mem_nil, or_false] at h
  rcases h with rfl | rfl | rfl | rfl | rfl | rfl | rfl <;> decide +kernel
section
variable {P : Program} {w : World} {K : PySem.W.Frag} {mg : Str → Option Value} {base : Heap}
theorem ok_Test_truth (T : Txt K mg) : DefMX P w K mg base 17 (cadr mg "Test") "truth" ["self", "row"] (spTruthM (cadr mg "Test") (cadr mg "BadRow")) := by
  obtain ⟨f, fd, h⟩ := T.d_Test_truth
  obtain ⟨fE_BadRow, EB_BadRow⟩ := T.x_BadRow
  refine h.defX (Fun.okMX h.fn sc_Test_truth (fun vs H Q E h => ?_) (fun cdv A outer s H vs Q E hr h => ?_))
  · obtain ⟨p, y, f, κ, rfl, _⟩ := h
    rfl
  · obtain ⟨p, y, f, κ, rfl, hA, hw, hd, hz, hc, h⟩ := h
    refine ⟨_, (pss_cons (ps_if (pt_not (pt_val (pe_callB (call_isiG (K := K) rfl) (by rfl) T.h_isinstance (by decide +kernel) (pa_cons (pv 1) (pa_cons (pe_bltn (v := .ty "dict") (by rfl) T.h_dict (by decide +kernel) rfl) pa_nil)))))
  (pss_one (ps_raiseBadRow rfl EB_BadRow hr (takes_of rfl rfl rfl rfl) (pa_cons pe_non pa_nil)))
  pss_nil)
  (pss_cons (ps_for (passes_of rfl) rfl (pi_list (pe_me0 (pv 0) T.cl_Test (ok_Test_names T) hr)) (pg_name (i := 2) sc_Test_truth.nd rfl (Or.inl rfl))
  (pss_one (ps_if (pt_cmp (pc_dnotin (hu_of hr) (pv 2) (pv 1)))
  (pss_one (ps_raiseBadRow rfl EB_BadRow hr (takes_of rfl rfl rfl rfl) (pa_cons (pv 2) pa_nil)))
  pss_nil)))
  (pss_one (ps_ret (pe_def (ok_truth_at T) hr rfl (pa_cons (pv 0) (pa_cons (pv 1) pa_nil))))))), ?_⟩
    obtain ⟨dx, i, f0, u, qs, hp, _⟩ := hA.node
    walk_at "g"
    rcases h with ⟨Tn, hT, ty, hne, hE⟩ | ⟨r, kvs, rfl, hr0, hv, h⟩
    · refine g_isi (ty.x K) (kb_dict Tn hT) ?_
      rw [decide_eq_false hne]
      walk_at "g"
      exact ⟨_, rfl, fun d hd => hE d _ (fun q o h => by rw [upd_ne (ne_of_none h hd)]; exact h) upd_same⟩
    · refine g_isi ((TyOf7.dct hr0).x K) (kb_dict "dict" (by decide)) ?_
      rw [decide_eq_true rfl]
      walk_at "g"
      refine ⟨p, dx, _, rfl, hp, tf_names, ?_⟩
      walk_at "g"
      refine ⟨p, f.ts, rfl, hA, hd, hz, by rw [Fm.ts_cols]; exact hc, fun zs L H1 hL k1 hL1 so nd hm => ?_⟩
      rw [Fm.ts_cols] at hm
      obtain ⟨h1, h2⟩ := h zs so nd hm
      refine ⟨L, rfl, ⟨_, SqL.of hL1⟩, for_listA (xs := zs.map V.str) (fun j σ' H' => (∃ v, σ' = [some (.ref p), some (.ref r), v]) ∧ (∀ q o, H q = some o → H' q = some o) ∧ H' L = some (.lst (zs.map V.str)) ∧ ∀ c ∈ zs.take j, missB kvs c = false) ⟨⟨none, rfl⟩, k1, hL1, fun c hc => nomatch hc⟩ (fun _ _ _ _ e => SqL.of e.2.2.1) ?_ ?_⟩
      · rintro j x σ' H2 D' hj ⟨⟨v, rfl⟩, k2, hL2, hall⟩ hnx hct hbk hrt
        rw [List.getElem?_map] at hj
        obtain ⟨c, hcj, rfl⟩ := Option.map_eq_some_iff.mp hj
        walk_at "g"
        refine ⟨r, _, rfl, DGet.k (k := Sum.inr c) (k2 _ _ hr0), ?_⟩
        walk_at "g"
        refine g_nsplit (fun e => ?_) (fun e => ?_)
        · walk_at "g"
          have hmiss : missB kvs c = true := by
            unfold missB
            cases e2 : valV kvs (Sum.inr c) with
            | none => rfl
            | some v => rw [e2] at e; exact Bool.noConfusion e
          exact ⟨_, rfl, _, rfl, fun d hd => h1 c (find_at hcj hmiss hall) d _ (fun q o h => by rw [upd_ne (ne_of_none (k2 _ _ h) hd)]; exact k2 _ _ h) upd_same⟩
        · walk_at "g"
          refine hnx _ _ ⟨⟨_, rfl⟩, k2, hL2, fun y hy => ?_⟩
          rw [List.take_succ, hcj] at hy
          rcases List.mem_append.mp hy with hy | hy
          · exact hall y hy
          · have e3 : y = c := by simpa using hy
            rw [e3]
            unfold missB
            cases e2 : valV kvs (Sum.inr c) with
            | none => rw [e2] at e; exact Bool.noConfusion e
            | some v => rfl
      · rintro σ' H2 ⟨⟨v, rfl⟩, k2, hL2, hall⟩
        rw [List.length_map, List.take_length] at hall
        walk_at "g"
        have hin : ∀ c ∈ f.cols, (valV kvs (Sum.inr c)).isSome = true := fun c hc => by
          have := hall c ((hm c).mpr hc)
          unfold missB at this
          cases e2 : valV kvs (Sum.inr c) with
          | none => rw [e2] at this; exact Bool.noConfusion this
          | some v => rfl
        refine ⟨p, r, f, κ, kvs, rfl, hA.keep k2, hw, hd, hv, k2 _ _ hr0, hin, fun H3 k3 => ?_⟩
        walk_at "g"
        exact h2 (find_no hall) _ (fun q o h => k3 _ _ (k2 _ _ h))
end
section
variable {P : Program} {w : World} {K : PySem.W.Frag} {mg : Str → Option Value} {base : Heap}
theorem ok__law_number (T : Txt K mg) : Def P w K mg base 2 "_law_number" ["_law_draw"] (spDraw isI) := by
  obtain ⟨f, fd, h⟩ := T.d__law_number
  refine h.def (Fun.okM h.fn sc__law_number (fun vs H Q E h => ?_) (fun cdv A outer s H vs Q E hr h => ?_))
  · obtain ⟨d, sc, ns, rfl, _⟩ := h
    rfl
  · obtain ⟨d, sc, ns, rfl, hD, k⟩ := h
    refine ⟨_, (pss_cons (ps_set (i := 1) sc__law_number.nd rfl (Or.inl rfl) (pe_def (ok__law_take T) hr rfl (pa_cons (pv 0) (pa_cons pe_int pa_nil))))
  (pss_cons (ps_if (pt_cmpR op_eq (pv 1) pe_int (nomark _))
  (pss_one (ps_ret (pe_op op_addG (pe_op op_subG (pe_def (ok__law_take T) hr rfl (pa_cons (pv 0) (pa_cons (pe_op op_subG (pe_op op_mulG pe_int (pe_op op_powG' pe_int pe_int)) pe_int) pa_nil))) (pe_op op_powG' pe_int pe_int)) pe_int)))
  pss_nil)
  (pss_cons (ps_if (pt_cmpR op_eq (pv 1) pe_int (nomark _))
  (pss_one (ps_ret (pe_op op_subG (pe_def (ok__law_take T) hr rfl (pa_cons (pv 0) (pa_cons pe_int pa_nil))) pe_int)))
  pss_nil)
  (pss_one (ps_ret (pe_op op_subG (pe_def (ok__law_take T) hr rfl (pa_cons (pv 0) (pa_cons pe_int pa_nil))) pe_int)))))), ?_⟩
    walk_at "g"
    refine ⟨_, _, _, _, rfl, hD, by decide, by decide +kernel, fun r H1 r0 r1 D1 K1 => ?_⟩
    walk_at "G"
    all_goals refine ⟨_, _, _, _, rfl, D1, by decide +kernel, by decide +kernel, fun r2 H2 r20 r21 D2 K2 => ?_⟩
    all_goals walk_at "g"
    all_goals exact k _ _ ⟨_, rfl⟩ D2 (K1.trans K2)
end
section
variable {P : Program} {w : World} {K : PySem.W.Frag} {mg : Str → Option Value} {base : Heap}
theorem ok__law_text (T : Txt K mg) : Def P w K mg base 2 "_law_text" ["_law_draw"] (spDraw isS) := by
  obtain ⟨f, fd, h⟩ := T.d__law_text
  refine h.def (Fun.okM h.fn sc__law_text (fun vs H Q E h => ?_) (fun cdv A outer s H vs Q E hr h => ?_))
  · obtain ⟨d, sc, ns, rfl, _⟩ := h
    rfl
  · obtain ⟨d, sc, ns, rfl, hD, k⟩ := h
    refine ⟨_, (pss_cons (ps_set (i := 1) sc__law_text.nd rfl (Or.inr rfl) pe_str)
  (pss_cons (ps_set (i := 2) sc__law_text.nd rfl (Or.inl rfl) (pe_def (ok__law_take T) hr rfl (pa_cons (pv 0) (pa_cons pe_int pa_nil))))
  (Evl.pss_cut (ps_if (pt_cmpR op_eq (pe_def (ok__law_take T) hr rfl (pa_cons (pv 0) (pa_cons pe_int pa_nil))) pe_int (nomark _))
  (pss_cons (ps_set (i := 1) sc__law_text.nd rfl (Or.inr rfl) (pe_def0 (ok__law_chars T) hr rfl))
  (pss_one (ps_set (i := 2) sc__law_text.nd rfl (Or.inl rfl) (pe_def (ok__law_take T) hr rfl (pa_cons (pv 0) (pa_cons pe_int pa_nil))))))
  pss_nil)
  (pss_one (ps_ret (pe_m1 PySem.F.slot_str_join PySem.F.type_str_join (mt_joinG (K := K) rfl) pe_str (pe_lc (own := [("_law_k", 3)]) rfl sc__law_text.nd (pi_range1 rfl T.h_range (pa_cons (pv 2) pa_nil)) (blkOk_by (N := N__law_text) (sc := defScope S__law_text) (by decide +kernel)) (fun _ _ _ _ _ => pg_name (i := 3) sc__law_text.nd rfl (Or.inl rfl)) (fun _ _ _ _ _ => pts_nil) (fun _ _ _ _ _ => (pe_ix (ix_seqG (K := K) rfl) (pv 1) (pe_def (ok__law_take T) hr rfl (pa_cons (pv 0) (pa_cons (pe_callB (call_lenG (K := K) rfl) (by rfl) T.h_len (by decide +kernel) (pa_cons (pv 1) pa_nil)) pa_nil))) (fun _ _ => rfl)))))))))), ?_⟩
    walk_at "g"
    refine ⟨_, _, _, _, rfl, hD, by decide, by decide +kernel, fun r H1 r0 r1 D1 K1 => ?_⟩
    walk_at "g"
    refine g_cut (M := fun σ' H' => ∃ (z : Str) (n : Int), σ' = [some (.ref d), some (.str z), some (.int n), none] ∧ 0 ≤ n ∧ n < 39 ∧ 0 < z.length ∧ z.length ≤ 100 ∧ (∀ c ∈ z.cps.toList, c ∈ signs.cps.toList) ∧ Dr H' d sc ns ∧ Keep d H H') ?_ ?_
    · walk_at "g"
      refine ⟨_, _, _, _, rfl, D1, by decide, by decide +kernel, fun r2 H2 r20 r21 D2 K2 => ?_⟩
      walk_at "G"
      · refine ⟨rfl, ?_⟩
        walk_at "g"
        refine ⟨_, _, _, _, rfl, D2, by decide, by decide +kernel, fun r3 H3 r30 r31 D3 K3 => ?_⟩
        walk_at "g"
        exact ⟨_, _, rfl, r30, r31, by decide +kernel, by decide +kernel, fun c hc => hc, D3, (K1.trans K2).trans K3⟩
      · exact ⟨_, _, rfl, r0, by omega, by decide +kernel, by decide +kernel, by decide +kernel, D2, K1.trans K2⟩
    · rintro σ' H' ⟨z, n, rfl, n0, n1, z0, z1, hz, DD, KK⟩
      walk_at "g"
      walk_at "g"
      refine ⟨n, rfl, by omega, by omega, fun L hL => ?_⟩
      obtain ⟨hLd, hLs⟩ := DD.ne hL
      refine lc_range (fun i Hi => H L = none ∧ Dr Hi d sc ns ∧ Keep d H Hi ∧ ∃ ys : List Str, ys.length = i ∧ Hi L = some (.lst (ys.map V.str)) ∧ ∀ y ∈ ys, ∃ c, c ∈ signs.cps.toList ∧ y = ⟨#[c]⟩) ?_ ?_ ?_
      · refine ⟨?_, ?_, ?_, [], rfl, upd_same, fun y hy => nomatch hy⟩
        · exact KK.back hLd hL
        · exact DD.new hL
        · exact KK.new (KK.back hLd hL)
      · rintro i Hi hi ⟨hL0, DDi, KKi, ys, rfl, hLi, hys⟩
        refine ⟨rfl, ?_⟩
        walk_at "g"
        refine g_lenS (Nat.le_trans z1 (by decide)) ?_
        walk_at "g"
        refine ⟨_, _, _, _, rfl, DDi, by omega, ?_, fun r4 H4 r40 r41 D4 K4 => ?_⟩
        · have : (z.length : Int).natAbs < 2 ^ 64 := by omega
          exact Nat.lt_of_lt_of_le (PySem.Flt.log2_lt_of (by decide) this) (by decide)
        · obtain ⟨k4, rfl⟩ := Int.eq_ofNat_of_zero_le r40
          have hk4 : k4 < z.cps.toList.length := by
            have e : z.cps.toList.length = z.length := Array.length_toList
            omega
          refine g_ixS (n := z.cps.toList[k4]) (Nat.le_trans z1 (by decide)) (atI_nat (List.getElem?_eq_getElem hk4)) ?_
          have e4 := K4 L _ hLd hLi
          refine ⟨_, e4, ?_, hL0, ?_, ?_, ys ++ [⟨#[z.cps.toList[k4]]⟩], by simp, ?_, ?_⟩
          · rw [List.length_map, sizeLine_eq]; omega
          · exact D4.other hLd hLs
          · exact (KKi.trans K4).new hL0
          · rw [upd_same, List.map_append]; rfl
          · intro y hy
            rcases List.mem_append.mp hy with hy | hy
            · exact hys y hy
            · exact ⟨_, hz _ (List.getElem_mem hk4), List.mem_singleton.mp hy⟩
      · rintro Hi ⟨hL0, DDi, KKi, ys, hyl, hLi, hys⟩
        have hy1 : ∀ y ∈ ys, y.length = 1 := fun y hy => by obtain ⟨c, _, rfl⟩ := hys y hy; rfl
        have hsum : (ys.map (·.length)).sum = ys.length := by
          clear hyl hLi hys
          induction ys with
          | nil => rfl
          | cons y r ih =>
            rw [List.map_cons, List.sum_cons, ih (fun y hy => hy1 y (List.mem_cons_of_mem _ hy)), hy1 y List.mem_cons_self, List.length_cons]
            omega
        refine g_join (SqL.of hLi) ?_ ?_
        · rw [hsum, show (Str.ofString "").length = 0 by decide +kernel]
          omega
        · walk_at "g"
          refine k _ _ ⟨_, rfl, ?_, ?_⟩ DDi KKi
          · show (Txt.join (Str.ofString "") ys).cps.size ≤ 100
            rw [← Array.length_toList, join_cps, List.length_flatMap]
            have : (ys.map fun y => y.cps.toList.length).sum = (ys.map (·.length)).sum := rfl
            rw [this, hsum]
            omega
          · intro c hc
            rw [join_cps] at hc
            obtain ⟨y, hy, hc⟩ := List.mem_flatMap.mp hc
            obtain ⟨c', h', rfl⟩ := hys y hy
            have : c = c' := by simpa using hc
            rw [this]
            exact h'
end
theorem nodup_le {α : Type} [DecidableEq α] : ∀ {ys xs : List α}, ys.Nodup → (∀ y ∈ ys, y ∈ xs) → ys.length ≤ xs.length
  | [], _, _, _ => Nat.zero_le _
  | y :: ys, xs, nd, h => by
    obtain ⟨n1, n2⟩ := List.nodup_cons.mp nd
    have hy := h y List.mem_cons_self
    have h2 : ys.length ≤ (xs.erase y).length := nodup_le n2 fun z hz => (List.mem_erase_of_ne (fun e : z = y => n1 (by rw [← e]; exact hz))).mpr (h z (List.mem_cons_of_mem _ hz))
    rw [List.length_erase_of_mem hy] at h2
    have := List.length_pos_of_mem hy
    simp
    omega
def digS (k : Nat) : Str := Str.ofString (toString (k : Int))
theorem dig_inj : ((List.range 60).map digS).Nodup := by decide +kernel
theorem dig_ok : ∀ k ∈ List.range 60, (digS k).length ≤ 2 ∧ (digS k).length ≠ 0 ∧ (∀ c ∈ (digS k).cps.toList, c ∈ nameSigns ∧ c < 97) := by decide +kernel
theorem kept_big : ∀ z ∈ keptWords, ∀ c ∈ z.cps.toList, 97 ≤ c := by decide +kernel
theorem app_inj {z a b : Str} (h : z ++ a = z ++ b) : a = b := by
  refine str_ext ?_
  have h2 := congrArg (fun s : Str => s.cps.toList) h
  simp only [PySem.W.KT.app_list] at h2
  exact List.append_cancel_left h2
theorem pick_at {ws : List Nat} {m : Nat} (hw : ws.length = m) {r : Int} (r0 : 0 ≤ r) (r1 : r < (m : Int)) : ∃ c, c ∈ ws ∧ atI ws r = some c := by
  obtain ⟨k4, rfl⟩ := Int.eq_ofNat_of_zero_le r0
  have hk : k4 < ws.length := by omega
  exact ⟨_, List.getElem_mem hk, atI_nat (List.getElem?_eq_getElem hk)⟩
/-- a name but for the words that are kept -/
def preP (z : Str) : Prop := z.length ≠ 0 ∧ z.length ≤ 8 ∧ (∀ c r, z.cps.toList = c :: r → c ∈ letters) ∧ ∀ c ∈ z.cps.toList, c ∈ nameSigns
def spName : Sp := fun vs H Q _ => ∃ (d sc : Addr) (ns : List Int) (L : Addr) (xs : List Str), vs = [.ref d, .ref L] ∧ Dr H d sc ns ∧ L ≠ d ∧ H L = some (.lst (xs.map V.str)) ∧ xs.length < 60 ∧ ∀ z H', nameP z → z ∉ xs → Dr H' d sc ns → Keep d H H' → Q (.str z) H'
section
variable {P : Program} {w : World} {K : PySem.W.Frag} {mg : Str → Option Value} {base : Heap}
theorem ok__law_name (T : Txt K mg) : Def P w K mg base 2 "_law_name" ["_law_draw", "_law_taken"] spName := by
  obtain ⟨f, fd, h⟩ := T.d__law_name
  refine h.def (Fun.okM h.fn sc__law_name (fun vs H Q E h => ?_) (fun cdv A outer s H vs Q E hr h => ?_))
  · obtain ⟨d, sc, ns, L, xs, rfl, _⟩ := h
    rfl
  · obtain ⟨d, sc, ns, L, xs, rfl, hD, hLd, hL, hx, k⟩ := h
    refine ⟨_, (pss_cons (ps_set (i := 2) sc__law_name.nd rfl (Or.inl rfl) pe_str)
  (pss_cons (ps_set (i := 3) sc__law_name.nd rfl (Or.inl rfl) (pe_op op_addG (pv 2) pe_str))
  (pss_cons (ps_set (i := 4) sc__law_name.nd rfl (Or.inl rfl) (pe_ix (ix_seqG (K := K) rfl) (pv 2) (pe_def (ok__law_take T) hr rfl (pa_cons (pv 0) (pa_cons pe_int pa_nil))) (fun _ _ => rfl)))
  (pss_cons (ps_for PassesOwn.never rfl (pi_range1 rfl T.h_range (pa_cons (pe_def (ok__law_take T) hr rfl (pa_cons (pv 0) (pa_cons pe_int pa_nil))) pa_nil)) (pg_name (i := 5) sc__law_name.nd rfl (Or.inl rfl))
  (pss_one (ps_set (i := 4) sc__law_name.nd rfl (Or.inl rfl) (pe_op op_addG (pv 4) (pe_ix (ix_seqG (K := K) rfl) (pv 3) (pe_def (ok__law_take T) hr rfl (pa_cons (pv 0) (pa_cons pe_int pa_nil))) (fun _ _ => rfl))))))
  (pss_cons (ps_set (i := 6) sc__law_name.nd rfl (Or.inl rfl) (pe_lst (pa_cons pe_str (pa_cons pe_str (pa_cons pe_str (pa_cons pe_str (pa_cons pe_str (pa_cons pe_str (pa_cons pe_str (pa_cons pe_str (pa_cons pe_str (pa_cons pe_str pa_nil))))))))))))
  (pss_cons (ps_if (PW.pt (pw_or (pt_cmpR (op_inG (K := K) rfl) (pv 4) (pv 6) (by rfl)) (pw_or1 (pt_cmpR (op_inG (K := K) rfl) (pv 4) (pv 1) (by rfl)))))
  (pss_cons (ps_set (i := 4) sc__law_name.nd rfl (Or.inl rfl) (pe_slice (sl_G (K := K) rfl) (pv 4) po_none (po_some pe_int)))
  (pss_one (ps_for PassesOwn.never rfl (pi_range1 rfl T.h_range (pa_cons pe_int pa_nil)) (pg_name (i := 5) sc__law_name.nd rfl (Or.inl rfl))
  (pss_one (ps_if (pt_cmpR (op_notInG (K := K) rfl) (pe_op op_addG (pv 4) (pe_callTy call_str_int (by rfl) T.h_str (by decide +kernel) (pa_cons (pv 5) pa_nil))) (pv 1) (by rfl))
  (pss_one (ps_ret (pe_op op_addG (pv 4) (pe_callTy call_str_int (by rfl) T.h_str (by decide +kernel) (pa_cons (pv 5) pa_nil)))))
  pss_nil)))))
  pss_nil)
  (pss_one (ps_ret (pv 4))))))))), ?_⟩
    walk_at "g"
    have hll : letters.length = 26 := by decide +kernel
    have hnl : nameSigns.length = 36 := by decide +kernel
    have hns : (Str.ofString "abcdefghijklmnopqrstuvwxyz" ++ Str.ofString "0123456789").cps.toList = nameSigns := by decide +kernel
    have hsl : (Str.ofString "abcdefghijklmnopqrstuvwxyz" ++ Str.ofString "0123456789").length = 36 := by decide +kernel
    have hlet : (Str.ofString "abcdefghijklmnopqrstuvwxyz").cps.toList = letters := rfl
    have hlt : (Str.ofString "abcdefghijklmnopqrstuvwxyz").length = 26 := by decide +kernel
    refine g_addS (by decide +kernel) ?_
    generalize hS : Str.ofString "abcdefghijklmnopqrstuvwxyz" ++ Str.ofString "0123456789" = sg at hns hsl ⊢
    generalize hT : Str.ofString "abcdefghijklmnopqrstuvwxyz" = lt at hlet hlt ⊢
    walk_at "g"
    refine ⟨_, _, _, _, rfl, hD, by decide, by decide +kernel, fun r H1 r0 r1 D1 K1 => ?_⟩
    obtain ⟨c0, hc0, hat0⟩ := pick_at (ws := letters) hll r0 r1
    refine g_ixS (n := c0) (by rw [hlt]; decide) (by rw [hlet]; exact hat0) ?_
    walk_at "g"
    refine ⟨_, _, _, _, rfl, D1, by decide, by decide +kernel, fun r2 H2 r20 r21 D2 K2 => ?_⟩
    refine ⟨_, rfl, by omega, by omega, ?_⟩
    have hc0n : c0 ∈ nameSigns := by
      have : ∀ c ∈ letters, c ∈ nameSigns := by decide +kernel
      exact this _ hc0
    refine for_rangeA (fun i σ' H' => ∃ (z : Str) (kv : Option V), σ' = [some (.ref d), some (.ref L), some (.str lt), some (.str sg), some (.str z), kv, none] ∧ z.length = i + 1 ∧ preP z ∧ Dr H' d sc ns ∧ Keep d H H') ⟨⟨#[c0]⟩, none, rfl, rfl, ⟨by show (1 : Nat) ≠ 0; decide, by show (1 : Nat) ≤ 8; decide, fun c r h => by cases h; exact hc0, fun c h => by simp at h; rw [h]; exact hc0n⟩, D2, K1.trans K2⟩ ?_ ?_
    · rintro i σ' H3 D' hi ⟨z, kv, rfl, hz, hp, D3, K3⟩ hnx hct hbk hrt
      walk_at "g"
      refine ⟨_, _, _, _, rfl, D3, by decide, by decide +kernel, fun r4 H4 r40 r41 D4 K4 => ?_⟩
      obtain ⟨c, hc, hat⟩ := pick_at (ws := nameSigns) hnl r40 r41
      refine g_ixS (n := c) (by rw [hsl]; decide) (by rw [hns]; exact hat) ?_
      have hi8 : i < 8 := by omega
      have hl1 : (z ++ (⟨#[c]⟩ : Str)).length = i + 1 + 1 := by rw [PySem.Str.length_append, hz]; rfl
      refine g_addS (by rw [sizeLine_eq, hz]; show i + 1 + 1 ≤ _; omega) ?_
      walk_at "g"
      refine hnx _ _ ⟨_, _, rfl, hl1, ⟨by omega, by omega, fun a r h => ?_, fun a h => ?_⟩, D4, K3.trans K4⟩
      · rw [PySem.W.KT.app_list] at h
        cases e : z.cps.toList with
        | nil =>
          have : z.cps.toList.length = z.length := Array.length_toList
          rw [e, hz] at this; simp at this
        | cons b s =>
          rw [e] at h
          injection h with h1 _
          rw [← h1]
          exact hp.2.2.1 b s e
      · rw [PySem.W.KT.app_list] at h
        rcases List.mem_append.mp h with h | h
        · exact hp.2.2.2 a h
        · have : a = c := by simpa using h
          rw [this]; exact hc
    · rintro σ' H3 ⟨z, kv, rfl, hz, hp, D3, K3⟩
      walk_at "g"
      refine ⟨by show 10 ≤ sizeLine; decide, fun q hq => ?_⟩
      obtain ⟨hqd, hqs⟩ := D3.ne hq
      have D4 := D3.new (o := .lst ((keptWords).map V.str)) hq
      have K4 := K3.new (o := .lst ((keptWords).map V.str)) (K3.back hqd hq)
      have hL4 : (upd H3 q (.lst (keptWords.map V.str))) L = some (.lst (xs.map V.str)) := K4 L _ hLd hL
      walk_at "g"
      refine .inr ⟨_, keptWords.map V.str, rfl, .inl (SqL.of upd_same), rfl, Tw.flat_strs _, ?_⟩
      rw [if_neg Bool.false_ne_true, inV_strs]
      have hfl : (keptWords.map V.str) = [V.str (Str.ofString "and"), V.str (Str.ofString "or"), V.str (Str.ofString "not"), V.str (Str.ofString "sure"), V.str (Str.ofString "in"), V.str (Str.ofString "is"), V.str (Str.ofString "empty"), V.str (Str.ofString "begins"), V.str (Str.ofString "always"), V.str (Str.ofString "never")] := rfl
      rw [← hfl]
      walk_at "g"
      have h6 : (cutS z none (some 6)).cps.toList = z.cps.toList.take 6 := by
        show ((z.cps.toList.drop 0).take (HT.sIx z.length z.length (some ((6 : Nat) : Int)) - 0)) = _
        rw [HT.sIx_nat]
        have : z.cps.toList.length = z.length := Array.length_toList
        rw [List.drop_zero, Nat.sub_zero]
        by_cases h : 6 ≤ z.length
        · rw [Nat.min_eq_left h]
        · rw [Nat.min_eq_right (by omega), ← this, List.take_length, List.take_of_length_le (by omega)]
      have hl6 : (cutS z none (some 6)).length = min 6 z.length := by
        show (cutS z none (some 6)).cps.size = _
        have : z.cps.toList.length = z.length := Array.length_toList
        rw [← Array.length_toList, h6, List.length_take, this]
      have good : ∀ i, i < 60 → nameP (cutS z none (some 6) ++ digS i) := fun i hi => by
        obtain ⟨d1, d2, d3⟩ := dig_ok i (List.mem_range.mpr hi)
        have hlen : (cutS z none (some 6) ++ digS i).length = min 6 z.length + (digS i).length := by rw [PySem.Str.length_append, hl6]
        have hz0 := hp.1
        have hcp : (cutS z none (some 6) ++ digS i).cps.toList = z.cps.toList.take 6 ++ (digS i).cps.toList := by rw [PySem.W.KT.app_list, h6]
        refine ⟨by omega, by omega, fun c r h => ?_, fun hk => ?_, fun c h => ?_⟩
        · rw [hcp] at h
          cases e : z.cps.toList with
          | nil =>
            have : z.cps.toList.length = z.length := Array.length_toList
            rw [e] at this; simp at this; omega
          | cons b s =>
            rw [e] at h
            injection h with h1 _
            rw [← h1]
            exact hp.2.2.1 b s e
        · have hdl : (digS i).cps.toList.length = (digS i).length := Array.length_toList
          obtain ⟨c, hc⟩ : ∃ c, c ∈ (digS i).cps.toList := by
            cases e : (digS i).cps.toList with
            | nil => rw [e] at hdl; simp at hdl; omega
            | cons c r => exact ⟨c, List.mem_cons_self⟩
          have h1 := kept_big _ hk c (by rw [hcp]; exact List.mem_append.mpr (.inr hc))
          have h2 := (d3 c hc).2
          omega
        · rw [hcp] at h
          rcases List.mem_append.mp h with h | h
          · exact hp.2.2.2 c (List.mem_of_mem_take h)
          · exact (d3 c h).1
      refine g_dec (fun h1 => ?_) (fun h1 => ?_)
      rotate_left
      · walk_at "g"
        refine .inr ⟨_, xs.map V.str, rfl, .inl (SqL.of hL4), rfl, Tw.flat_strs _, ?_⟩
        rw [if_neg Bool.false_ne_true, inV_strs]
        walk_at "g"
        refine g_dec (fun h2 => ?_) (fun h2 => ?_)
        rotate_left
        · walk_at "g"
          exact k z _ ⟨hp.1, hp.2.1, hp.2.2.1, h1, hp.2.2.2⟩ h2 D4 K4
        walk_at "g"
        refine g_slS (by rw [sizeLine_eq]; omega) ?_
        walk_at "g"
        refine ⟨_, rfl, by omega, by omega, ?_⟩
        refine for_rangeA (fun i σ' H' => H' = upd H3 q (.lst (keptWords.map V.str)) ∧ (∃ v5, σ' = [some (.ref d), some (.ref L), some (.str lt), some (.str sg), some (.str (cutS z none (some 6))), v5, some (.ref q)]) ∧ ∀ j < i, cutS z none (some 6) ++ digS j ∈ xs) ⟨rfl, ⟨_, rfl⟩, fun j hj => absurd hj (Nat.not_lt_zero _)⟩ ?_ ?_
        · rintro i σ' H5 D' hi ⟨rfl, ⟨v5, rfl⟩, hall⟩ hnx hct hbk hrt
          have hi60 : i < 60 := by simpa using hi
          have hdg := (dig_ok i (List.mem_range.mpr hi60)).1
          have e0 : Str.ofString (toString (0 + (i : Int))) = digS i := by rw [Int.zero_add]; rfl
          have hlog : (0 + (i : Int)).natAbs.log2 < 1920 := by
            have : (0 + (i : Int)).natAbs < 2 ^ 64 := by omega
            exact Nat.lt_of_lt_of_le (PySem.Flt.log2_lt_of (by decide) this) (by decide)
          walk_at "g"
          refine ⟨_, rfl, hlog, ?_⟩
          rw [e0]
          refine g_addS (by rw [sizeLine_eq, hl6]; omega) ?_
          walk_at "g"
          refine .inr ⟨_, xs.map V.str, rfl, .inl (SqL.of hL4), rfl, Tw.flat_strs _, ?_⟩
          rw [if_pos rfl, inV_strs]
          walk_at "g"
          refine g_ndec (fun hn => ?_) (fun hn => ?_)
          · walk_at "g"
            rw [hrt]
            refine ⟨_, rfl, hlog, ?_⟩
            rw [e0]
            refine g_addS (by rw [sizeLine_eq, hl6]; omega) ?_
            walk_at "g"
            exact k _ _ (good i hi60) hn D4 K4
          · walk_at "g"
            refine hnx _ _ ⟨rfl, ⟨_, rfl⟩, fun j hj => ?_⟩
            rcases Nat.lt_or_ge j i with h | h
            · exact hall j h
            · obtain rfl : j = i := by omega
              exact hn
        · rintro σ' H5 ⟨rfl, ⟨v5, rfl⟩, hall⟩
          have hnd : ((List.range 60).map fun j => cutS z none (some 6) ++ digS j).Nodup := by
            have h := dig_inj
            rw [List.nodup_iff_pairwise_ne, List.pairwise_map] at h ⊢
            exact h.imp fun hab he => hab (app_inj he)
          have := nodup_le hnd (xs := xs) fun y hy => by
            obtain ⟨j, hj, rfl⟩ := List.mem_map.mp hy
            exact hall j (by simpa using hj)
          simp at this
          omega
      walk_at "g"
      refine g_slS (by rw [sizeLine_eq]; omega) ?_
      walk_at "g"
      refine ⟨_, rfl, by omega, by omega, ?_⟩
      refine for_rangeA (fun i σ' H' => H' = upd H3 q (.lst (keptWords.map V.str)) ∧ (∃ v5, σ' = [some (.ref d), some (.ref L), some (.str lt), some (.str sg), some (.str (cutS z none (some 6))), v5, some (.ref q)]) ∧ ∀ j < i, cutS z none (some 6) ++ digS j ∈ xs) ⟨rfl, ⟨_, rfl⟩, fun j hj => absurd hj (Nat.not_lt_zero _)⟩ ?_ ?_
      · rintro i σ' H5 D' hi ⟨rfl, ⟨v5, rfl⟩, hall⟩ hnx hct hbk hrt
        have hi60 : i < 60 := by simpa using hi
        have hdg := (dig_ok i (List.mem_range.mpr hi60)).1
        have e0 : Str.ofString (toString (0 + (i : Int))) = digS i := by rw [Int.zero_add]; rfl
        have hlog : (0 + (i : Int)).natAbs.log2 < 1920 := by
          have : (0 + (i : Int)).natAbs < 2 ^ 64 := by omega
          exact Nat.lt_of_lt_of_le (PySem.Flt.log2_lt_of (by decide) this) (by decide)
        walk_at "g"
        refine ⟨_, rfl, hlog, ?_⟩
        rw [e0]
        refine g_addS (by rw [sizeLine_eq, hl6]; omega) ?_
        walk_at "g"
        refine .inr ⟨_, xs.map V.str, rfl, .inl (SqL.of hL4), rfl, Tw.flat_strs _, ?_⟩
        rw [if_pos rfl, inV_strs]
        walk_at "g"
        refine g_ndec (fun hn => ?_) (fun hn => ?_)
        · walk_at "g"
          rw [hrt]
          refine ⟨_, rfl, hlog, ?_⟩
          rw [e0]
          refine g_addS (by rw [sizeLine_eq, hl6]; omega) ?_
          walk_at "g"
          exact k _ _ (good i hi60) hn D4 K4
        · walk_at "g"
          refine hnx _ _ ⟨rfl, ⟨_, rfl⟩, fun j hj => ?_⟩
          rcases Nat.lt_or_ge j i with h | h
          · exact hall j h
          · obtain rfl : j = i := by omega
            exact hn
      · rintro σ' H5 ⟨rfl, ⟨v5, rfl⟩, hall⟩
        have hnd : ((List.range 60).map fun j => cutS z none (some 6) ++ digS j).Nodup := by
          have h := dig_inj
          rw [List.nodup_iff_pairwise_ne, List.pairwise_map] at h ⊢
          exact h.imp fun hab he => hab (app_inj he)
        have := nodup_le hnd (xs := xs) fun y hy => by
          obtain ⟨j, hj, rfl⟩ := List.mem_map.mp hy
          exact hall j (by simpa using hj)
        simp at this
        omega
end
/-! drawn columns -/
def kS (k : Bool) : Str := if k = true then "text" else "number"
theorem kS_inj {a b : Bool} (h : kS a = kS b) : a = b := by
  revert h
  cases a <;> cases b <;> decide +kernel
def ColAt (H : Hp) (q : Addr) (c : Str × Bool) : Prop := ∃ fl, H q = some (.tup [.str c.1, .str (kS c.2), .bl fl])
def ColsAt (H : Hp) (L : Addr) (cs : List (Str × Bool)) : Prop := ∃ qs : List Addr, H L = some (.lst (qs.map V.ref)) ∧ qs.length = cs.length ∧ ∀ (i : Nat) (q : Addr) (c : Str × Bool), qs[i]? = some q → cs[i]? = some c → ColAt H q c
structure GoodCols (cs : List (Str × Bool)) : Prop where
  ne : cs ≠ []
  few : cs.length ≤ 12
  nd : (cs.map (·.1)).Nodup
  nm : ∀ c ∈ cs, nameP c.1
theorem Dr.keepAll {H H' : Hp} {d sc : Addr} {ns : List Int} (D : Dr H d sc ns) (k : ∀ p o, H p = some o → H' p = some o) : Dr H' d sc ns := by
  obtain ⟨i, b, c, e, h1, h2, h3, h4⟩ := D.ex
  exact ⟨i, b, c, e, h1, h2, k _ _ h3, k _ _ h4⟩
theorem Dr.tne {H : Hp} {d sc q : Addr} {ns : List Int} {xs : List V} (D : Dr H d sc ns) (h : H q = some (.tup xs)) : q ≠ d := fun z => by
  obtain ⟨ys, hy⟩ := D.at
  rw [z, hy] at h
  cases h
theorem ColsAt.draw {H H' : Hp} {L d sc : Addr} {ns : List Int} {cs : List (Str × Bool)} (h : ColsAt H L cs) (D : Dr H d sc ns) (k : Keep d H H') (hL : L ≠ d) : ColsAt H' L cs := by
  obtain ⟨qs, h1, h2, h3⟩ := h
  refine ⟨qs, k _ _ hL h1, h2, fun i q c hq hc => ?_⟩
  obtain ⟨fl, e⟩ := h3 i q c hq hc
  exact ⟨fl, k _ _ (D.tne e) e⟩
theorem ColsAt.keep {H H' : Hp} {L : Addr} {cs : List (Str × Bool)} (h : ColsAt H L cs) (k : ∀ p o, H p = some o → H' p = some o) : ColsAt H' L cs := by
  obtain ⟨qs, h1, h2, h3⟩ := h
  refine ⟨qs, k _ _ h1, h2, fun i q c hq hc => ?_⟩
  obtain ⟨fl, e⟩ := h3 i q c hq hc
  exact ⟨fl, k _ _ e⟩
def spValueK : Sp := fun vs H Q _ => ∃ d sc ns kd, vs = [.ref d, .str (kS kd)] ∧ Dr H d sc ns ∧ ∀ v H', isV kd v → Dr H' d sc ns → Keep d H H' → Q v H'
def spCols : Sp := fun vs H Q _ => ∃ d sc ns m, vs = [.ref d, .int m] ∧ Dr H d sc ns ∧ 0 < m ∧ m ≤ 12 ∧ ∀ L cs H', GoodCols cs → ColsAt H' L cs → L ≠ d → L ≠ sc → H L = none → Dr H' d sc ns → Keep d H H' → Q (.ref L) H'
section
variable {P : Program} {w : World} {K : PySem.W.Frag} {mg : Str → Option Value} {base : Heap}
theorem ok__law_value (T : Txt K mg) : Def P w K mg base 3 "_law_value" ["_law_draw", "_law_kind"] spValueK := by
  obtain ⟨f, fd, h⟩ := T.d__law_value
  refine h.def (Fun.okM h.fn sc__law_value (fun vs H Q E h => ?_) (fun cdv A outer s H vs Q E hr h => ?_))
  · obtain ⟨d, sc, ns, kd, rfl, _⟩ := h
    rfl
  · obtain ⟨d, sc, ns, kd, rfl, hD, k⟩ := h
    refine ⟨_, (pss_cons (ps_if (pt_cmpR op_eq (pv 1) pe_str (nomark _))
  (pss_one (ps_ret (pe_def (ok__law_number T) hr rfl (pa_cons (pv 0) pa_nil))))
  pss_nil)
  (pss_one (ps_ret (pe_def (ok__law_text T) hr rfl (pa_cons (pv 0) pa_nil))))), ?_⟩
    walk_at "g"
    cases kd with
    | false =>
      refine g_dec (fun _ => ?_) (fun h => absurd rfl h)
      walk_at "g"
      refine ⟨_, _, _, rfl, hD, fun v H1 hv D1 K1 => ?_⟩
      walk_at "g"
      exact k _ _ hv D1 K1
    | true =>
      refine g_dec (fun h => absurd h (show ("text" : Str) ≠ "number" by decide +kernel)) (fun _ => ?_)
      walk_at "g"
      refine ⟨_, _, _, rfl, hD, fun v H1 hv D1 K1 => ?_⟩
      walk_at "g"
      exact k _ _ hv D1 K1
theorem ok__law_columns (T : Txt K mg) : Def P w K mg base 3 "_law_columns" ["_law_draw", "_law_most"] spCols := by
  obtain ⟨f, fd, h⟩ := T.d__law_columns
  refine h.def (Fun.okM h.fn sc__law_columns (fun vs H Q E h => ?_) (fun cdv A outer s H vs Q E hr h => ?_))
  · obtain ⟨d, sc, ns, m, rfl, _⟩ := h
    rfl
  · obtain ⟨d, sc, ns, m, rfl, hD, hm0, hm, k⟩ := h
    refine ⟨_, (pss_cons (ps_set (i := 2) sc__law_columns.nd rfl (Or.inl rfl) (pe_lst pa_nil))
  (pss_cons (ps_set (i := 3) sc__law_columns.nd rfl (Or.inl rfl) (pe_lst pa_nil))
  (pss_cons (ps_for PassesOwn.never rfl (pi_range1 rfl T.h_range (pa_cons (pe_op op_addG pe_int (pe_def (ok__law_take T) hr rfl (pa_cons (pv 0) (pa_cons (pv 1) pa_nil)))) pa_nil)) (pg_name (i := 4) sc__law_columns.nd rfl (Or.inl rfl))
  (pss_cons (ps_set (i := 5) sc__law_columns.nd rfl (Or.inl rfl) (pe_def (ok__law_name T) hr rfl (pa_cons (pv 0) (pa_cons (pv 2) pa_nil))))
  (pss_cons (ps_expr (pe_bm PySem.F.plainAttrs_list PySem.F.slot_list_append PySem.F.type_list_append mt_append (pv 2) (pa_cons (pv 5) pa_nil)))
  (pss_cons (ps_set (i := 6) sc__law_columns.nd rfl (Or.inl rfl) (pe_ix (ix_seqG (K := K) rfl) (pe_lst (pa_cons pe_str (pa_cons pe_str pa_nil))) (pe_def (ok__law_take T) hr rfl (pa_cons (pv 0) (pa_cons pe_int pa_nil))) (fun _ _ => rfl)))
  (Evl.pss_cut (ps_if (PW.pt (pw_and (pt_cmpR op_gtG (pv 4) pe_int (nomark _)) (pw_and1 (pt_cmpR op_eq (pe_def (ok__law_take T) hr rfl (pa_cons (pv 0) (pa_cons pe_int pa_nil))) pe_int (nomark _)))))
  (pss_one (ps_set (i := 6) sc__law_columns.nd rfl (Or.inl rfl) (pe_ix (ix_seqG (K := K) rfl) (pe_ix (ix_seqG (K := K) rfl) (pv 3) pe_int (fun _ _ => rfl)) pe_int (fun _ _ => rfl))))
  pss_nil)
  (pss_one (ps_expr (pe_bm PySem.F.plainAttrs_list PySem.F.slot_list_append PySem.F.type_list_append mt_append (pv 3) (pa_cons (pe_tup (pa_cons (pv 5) (pa_cons (pv 6) (pa_cons (pe_cmpR op_eq (pe_def (ok__law_take T) hr rfl (pa_cons (pv 0) (pa_cons pe_int pa_nil))) pe_int (nomark _)) pa_nil)))) pa_nil)))))))))
  (pss_one (ps_ret (pv 3)))))), ?_⟩
    walk_at "g"
    refine ⟨Nat.zero_le _, fun Ln hLn => ?_⟩
    have D1 := hD.new (o := .lst []) hLn
    have K1 := (Keep.refl d H).new (o := .lst []) hLn
    have nd := hD.ne hLn
    have e1 : (upd H Ln (.lst [])) Ln = some (.lst (([] : List Str).map V.str)) := upd_same
    generalize upd H Ln (.lst []) = H1 at D1 K1 e1
    walk_at "g"
    refine ⟨Nat.zero_le _, fun L hL => ?_⟩
    have D2 := D1.new (o := .lst []) hL
    have K2 := K1.new (o := .lst []) (K1.back (D1.ne hL).1 hL)
    have nL := D1.ne hL
    have hLH := K1.back (D1.ne hL).1 hL
    have nLL : Ln ≠ L := ne_of_none e1 hL
    have e2 : (upd H1 L (.lst [])) L = some (.lst (([] : List Addr).map V.ref)) := upd_same
    have e3 : (upd H1 L (.lst [])) Ln = some (.lst (([] : List Str).map V.str)) := by rw [upd_ne nLL]; exact e1
    generalize upd H1 L (.lst []) = H2 at D2 K2 e2 e3
    clear D1 K1 e1
    walk_at "g"
    have hml : m.natAbs.log2 < 9000 := by
      have : m.natAbs < 2 ^ 64 := by omega
      exact Nat.lt_of_lt_of_le (PySem.Flt.log2_lt_of (by decide) this) (by decide)
    refine ⟨_, _, _, _, rfl, D2, hm0, hml, fun r H3 r0 r1 D3 K3 => ?_⟩
    walk_at "g"
    refine ⟨_, rfl, by omega, by omega, ?_⟩
    refine for_rangeA (fun i σ' H' => ∃ (s4 s5 s6 : Option V) (cs : List (Str × Bool)), σ' = [some (.ref d), some (.int m), some (.ref Ln), some (.ref L), s4, s5, s6] ∧ Dr H' d sc ns ∧ Keep d H H' ∧ H' Ln = some (.lst ((cs.map (·.1)).map V.str)) ∧ ColsAt H' L cs ∧ cs.length = i ∧ (cs.map (·.1)).Nodup ∧ ∀ c ∈ cs, nameP c.1) ⟨none, none, none, [], rfl, D3, K2.trans K3, K3 _ _ nd.1 e3, ⟨[], K3 _ _ nL.1 e2, rfl, fun i q c h => by simp at h⟩, rfl, List.nodup_nil, fun c hc => nomatch hc⟩ ?_ ?_
    · rintro i σ' H4 D' hi ⟨s4, s5, s6, cs, rfl, D4, K4, hN4, hC4, rfl, hnd, hnm⟩ hnx hct hbk hrt
      have hi12 : cs.length < 12 := by omega
      walk_at "g"
      refine ⟨_, _, _, _, _, rfl, D4, nd.1, hN4, by rw [List.length_map]; omega, fun z H5 hz hzn D5 K5 => ?_⟩
      have hN5 := K5 _ _ nd.1 hN4
      have hC5 := hC4.draw D4 K5 nL.1
      walk_at "g"
      have kN : ∀ {o : HO}, Keep d H (upd H5 Ln o) := fun {o} => (K4.trans K5).new hLn
      have D6 := D5.other (o := .lst ((cs.map (·.1)).map V.str ++ [.str z])) nd.1 nd.2
      have hN6 : (upd H5 Ln (.lst ((cs.map (·.1)).map V.str ++ [.str z]))) Ln = some (.lst ((cs.map (·.1)).map V.str ++ [.str z])) := upd_same
      have hC6 : ColsAt (upd H5 Ln (.lst ((cs.map (·.1)).map V.str ++ [.str z]))) L cs := by
        obtain ⟨qs, h1, h2, h3⟩ := hC5
        refine ⟨qs, by rw [upd_ne (Ne.symm nLL)]; exact h1, h2, fun i q c hq hc => ?_⟩
        obtain ⟨fl, e⟩ := h3 i q c hq hc
        exact ⟨fl, by rw [upd_ne (fun w => by rw [w, hN5] at e; cases e)]; exact e⟩
      have K6 := kN (o := .lst ((cs.map (·.1)).map V.str ++ [.str z]))
      generalize upd H5 Ln (.lst ((cs.map (·.1)).map V.str ++ [.str z])) = H6 at D6 hN6 hC6 K6
      refine ⟨by show 2 ≤ sizeLine; decide, fun p hp => ?_⟩
      have D7 := D6.new (o := .lst [.str (kS false), .str (kS true)]) hp
      have K7 := K6.new (o := .lst [.str (kS false), .str (kS true)]) (K6.back (D6.ne hp).1 hp)
      have x7 : ∀ q o, H6 q = some o → (upd H6 p (.lst [.str (kS false), .str (kS true)])) q = some o := fun q o h => by rw [upd_ne (ne_of_none h hp)]; exact h
      have hN7 := x7 _ _ hN6
      have hC7 := hC6.keep x7
      have hp7 : (upd H6 p (.lst [.str (kS false), .str (kS true)])) p = some (.lst [.str (kS false), .str (kS true)]) := upd_same
      have npd := (D6.ne hp).1
      have e0 : upd H6 p (.lst [.str (Str.ofString "number"), .str (Str.ofString "text")]) = upd H6 p (.lst [.str (kS false), .str (kS true)]) := rfl
      rw [e0]
      generalize upd H6 p (.lst [.str (kS false), .str (kS true)]) = H7 at D7 K7 hN7 hC7 hp7
      clear D5 D6 K6 hN6 hC6 hN5 hC5 hN4 hC4 x7 kN
      walk_at "g"
      refine ⟨_, _, _, _, rfl, D7, by decide, by decide +kernel, fun r2 H8 r20 r21 D8 K8 => ?_⟩
      obtain ⟨kd, ek⟩ : ∃ kd : Bool, atI [V.str (kS false), V.str (kS true)] r2 = some (.str (kS kd)) := by
        have : r2 = 0 ∨ r2 = 1 := by omega
        rcases this with rfl | rfl
        · exact ⟨false, rfl⟩
        · exact ⟨true, rfl⟩
      refine g_ixL (SqL.of (K8 _ _ npd hp7)) ek ?_
      have hN8 := K8 _ _ nd.1 hN7
      have hC8 := hC7.draw D7 K8 nL.1
      have K08 := K7.trans K8
      clear D7 K7 hN7 hC7
      walk_at "g"
      refine g_cutA (M := fun σ' H' => ∃ kd : Bool, σ' = [some (.ref d), some (.int m), some (.ref Ln), some (.ref L), some (.int (0 + (cs.length : Int))), some (.str z), some (.str (kS kd))] ∧ Dr H' d sc ns ∧ Keep d H8 H') (fun D1' hn1 _ _ _ => ?_) ?_
      · walk_at "g"
        refine g_dec (fun h0 => ?_) (fun h0 => ?_)
        · walk_at "g"
          refine ⟨_, _, _, _, rfl, D8, by decide, by decide +kernel, fun r3 H9 r30 r31 D9 K9 => ?_⟩
          walk_at "g"
          refine g_dec (fun h1 => ?_) (fun h1 => ?_)
          · walk_at "g"
            obtain ⟨qs, h1', h2', h3'⟩ := hC8.draw D8 K9 nL.1
            obtain ⟨q, eq⟩ : ∃ q, qs[0]? = some q := ⟨_, List.getElem?_eq_getElem (by omega)⟩
            obtain ⟨c, ec⟩ : ∃ c, cs[0]? = some c := ⟨_, List.getElem?_eq_getElem (by omega)⟩
            obtain ⟨fl, e⟩ := h3' 0 q c eq ec
            refine g_ixL (SqL.of h1') (v := .ref q) (atI_nat (j := 0) (by rw [List.getElem?_map, eq]; rfl)) ?_
            walk_at "g"
            refine g_ixT (SqT.of e) (v := .str (kS c.2)) (by rfl) ?_
            walk_at "g"
            exact hn1 _ _ ⟨_, rfl, D9, K9⟩
          · walk_at "g"
            exact hn1 _ _ ⟨_, rfl, D9, K9⟩
        · walk_at "g"
          exact hn1 _ _ ⟨_, rfl, D8, Keep.refl _ _⟩
      rintro σ' H9 ⟨kd, rfl, D9, K9⟩
      have hN9 := K9 _ _ nd.1 hN8
      have hC9 := hC8.draw D8 K9 nL.1
      have hL9 := hC9.choose_spec.1
      walk_at "g"
      refine ⟨_, _, _, _, rfl, D9, by decide, by decide +kernel, fun r4 H10 r40 r41 D10 K10 => ?_⟩
      walk_at "g"
      refine ⟨by show 3 ≤ sizeLine; decide, fun t ht => ?_⟩
      have hN10 := K10 _ _ nd.1 hN9
      have hC10 := hC9.draw D9 K10 nL.1
      have K010 := (K08.trans K9).trans K10
      obtain ⟨qs, h1, h2, h3⟩ := hC10
      have xt : ∀ q o, H10 q = some o → (upd H10 t (.tup [.str z, .str (kS kd), .bl (decide (r4 = 0))])) q = some o := fun q o h => by rw [upd_ne (ne_of_none h ht)]; exact h
      have ntL : t ≠ L := Ne.symm (ne_of_none h1 ht)
      have Kt := K010.new (o := .tup [.str z, .str (kS kd), .bl (decide (r4 = 0))]) (K010.back (D10.ne ht).1 ht)
      have Dt := D10.new (o := .tup [.str z, .str (kS kd), .bl (decide (r4 = 0))]) ht
      have htt : (upd H10 t (.tup [.str z, .str (kS kd), .bl (decide (r4 = 0))])) t = some (.tup [.str z, .str (kS kd), .bl (decide (r4 = 0))]) := upd_same
      have h1t := xt _ _ h1
      have hNt := xt _ _ hN10
      have h3t : ∀ (i : Nat) (q : Addr) (c : Str × Bool), qs[i]? = some q → cs[i]? = some c → ColAt (upd H10 t (.tup [.str z, .str (kS kd), .bl (decide (r4 = 0))])) q c := fun i q c hq hc => by
        obtain ⟨fl, e⟩ := h3 i q c hq hc
        exact ⟨fl, xt _ _ e⟩
      generalize upd H10 t (.tup [.str z, .str (kS kd), .bl (decide (r4 = 0))]) = Ht at Kt Dt htt h1t hNt h3t
      walk_at "g"
      refine hnx _ _ ⟨_, _, _, cs ++ [(z, kd)], rfl, Dt.other nL.1 nL.2, Kt.new hLH, ?_, ⟨qs ++ [t], by rw [upd_same, List.map_append]; rfl, by rw [List.length_append, List.length_append, h2]; rfl, fun i q c hq hc => ?_⟩, by rw [List.length_append]; rfl, ?_, fun c hc => ?_⟩
      · rw [upd_ne nLL, hNt, List.map_append, List.map_append]
        rfl
      · have low : ∀ q, ColAt Ht q c → ColAt (upd Ht L (.lst (qs.map V.ref ++ [.ref t]))) q c := fun q ⟨fl, e⟩ => ⟨fl, by rw [upd_ne (fun w => by rw [w, h1t] at e; cases e)]; exact e⟩
        by_cases hlt : i < qs.length
        · rw [List.getElem?_append_left hlt] at hq
          rw [List.getElem?_append_left (by omega)] at hc
          exact low _ (h3t i q c hq hc)
        · rw [List.getElem?_append_right (by omega)] at hq
          rw [List.getElem?_append_right (by omega), ← h2] at hc
          obtain ⟨hi0, _⟩ := List.getElem?_eq_some_iff.mp hq
          have : i - qs.length = 0 := by simpa using hi0
          rw [this] at hq hc
          obtain rfl : t = q := by simpa using hq
          obtain rfl : (z, kd) = c := by simpa using hc
          exact low _ ⟨_, htt⟩
      · rw [List.map_append, List.nodup_append]
        refine ⟨hnd, by simp, fun a ha b hb => ?_⟩
        obtain rfl : b = z := by simpa using hb
        intro e
        exact hzn (e ▸ ha)
      · rcases List.mem_append.mp hc with hc | hc
        · exact hnm c hc
        · rw [List.mem_singleton.mp hc]; exact hz
    · rintro σ' H4 ⟨s4, s5, s6, cs, rfl, D4, K4, hN4, hC4, hlen, hnd, hnm⟩
      walk_at "g"
      refine k L cs H4 ⟨fun e => ?_, by omega, hnd, hnm⟩ hC4 nL.1 nL.2 hLH D4 K4
      rw [e] at hlen
      simp at hlen
      omega
end
/-! forms on the heap -/
/-- the draws stand, and what stood but for them -/
structure DK (d sc : Addr) (ns : List Int) (H H1 : Hp) : Prop where
  D : Dr H1 d sc ns
  K : Keep d H H1
theorem DK.refl {d sc : Addr} {ns : List Int} {H : Hp} (D : Dr H d sc ns) : DK d sc ns H H := ⟨D, Keep.refl _ _⟩
theorem DK.step {d sc : Addr} {ns : List Int} {H H1 H2 : Hp} (a : DK d sc ns H H1) (D : Dr H2 d sc ns) (K : Keep d H1 H2) : DK d sc ns H H2 := ⟨D, a.K.trans K⟩
theorem DK.new {d sc p : Addr} {ns : List Int} {H H1 : Hp} {o : HO} (a : DK d sc ns H H1) (hp : H1 p = none) : DK d sc ns H (upd H1 p o) := ⟨a.D.new hp, a.K.new (a.K.back (a.D.ne hp).1 hp)⟩
theorem DK.ext {d sc : Addr} {ns : List Int} {H H1 H2 : Hp} (a : DK d sc ns H H1) (k : ∀ q o, H1 q = some o → H2 q = some o) : DK d sc ns H H2 := ⟨a.D.keepAll k, a.K.trans fun q o _ h => k q o h⟩
theorem DK.put {d sc p : Addr} {ns : List Int} {H H1 : Hp} {o : HO} (a : DK d sc ns H H1) (hp : H p = none) (h1 : p ≠ d) (h2 : p ≠ sc) : DK d sc ns H (upd H1 p o) := ⟨a.D.other h1 h2, a.K.new hp⟩
theorem ext_new {H : Hp} {p : Addr} {o : HO} (hp : H p = none) : ∀ q u, H q = some u → (upd H p o) q = some u := fun q u h => by rw [upd_ne (ne_of_none h hp)]; exact h
/-- no part of a form stands there -/
def NF (o : HO) : Prop := (∀ l, o ≠ .tup l) ∧ ∀ vs k, o = .lst vs → vs ≠ [] → (∀ v ∈ vs, isV k v) → False
theorem isV_ref {k : Bool} {p : Addr} (h : isV k (.ref p)) : False := by
  cases k with
  | false => obtain ⟨i, e⟩ := h; cases e
  | true => obtain ⟨z, e, _⟩ := h; cases e
theorem NF.refs {qs : List Addr} : NF (.lst (qs.map V.ref)) := by
  refine ⟨(fun l e => nomatch e), fun vs k e hne h => ?_⟩
  injection e with e
  subst e
  cases qs with
  | nil => exact hne rfl
  | cons q r => exact isV_ref (h (.ref q) List.mem_cons_self)
theorem Dr.nf {H : Hp} {d sc : Addr} {ns : List Int} (D : Dr H d sc ns) : ∃ o, H d = some o ∧ NF o := by
  obtain ⟨i, b, c, e, h1, h2, h3, h4⟩ := D.ex
  refine ⟨_, h3, fun l e => (nomatch e), fun vs k e hne h => ?_⟩
  injection e with e
  subst e
  exact isV_ref (h (.ref sc) List.mem_cons_self)
theorem NF.dict {kvs : List (Key × V)} : NF (.dK kvs) := ⟨(fun l e => nomatch e), (fun vs k e => nomatch e)⟩
def AtomForm (H : Hp) (p : Addr) : At → Prop
  | .always => H p = some (.tup [.str "always"])
  | .never => H p = some (.tup [.str "never"])
  | .empty c => H p = some (.tup [.str "empty", .str c])
  | .among c vs => ∃ l k, H p = some (.tup [.str "among", .str c, .ref l]) ∧ H l = some (.lst vs) ∧ vs ≠ [] ∧ ∀ v ∈ vs, isV k v
  | .begins c z => H p = some (.tup [.str "begins", .str c, .str z])
  | .compare c op v => H p = some (.tup [.str "compare", .str c, .str op, v])
  | .against c op d n => H p = some (.tup [.str "against", .str c, .str op, .str d, .int n])
theorem AtomForm.keepN {H H' : Hp} {p q : Addr} {a : At} (h : AtomForm H q a) (k : ∀ b o, b ≠ p → H b = some o → H' b = some o) (n : ∃ o, H p = some o ∧ NF o) : AtomForm H' q a := by
  obtain ⟨o, ho, n1, n2⟩ := n
  have nt : ∀ {b : Addr} {l : List V}, H b = some (.tup l) → b ≠ p := fun h z => n1 _ (by rw [z, ho] at h; injection h)
  cases a with
  | among c vs =>
    obtain ⟨l, kd, h1, h2, h3, h4⟩ := h
    exact ⟨l, kd, k _ _ (nt h1) h1, k _ _ (fun z => n2 vs kd (by rw [z, ho] at h2; injection h2) h3 h4) h2, h3, h4⟩
  | always => exact k _ _ (nt h) h
  | never => exact k _ _ (nt h) h
  | empty c => exact k _ _ (nt h) h
  | begins c z => exact k _ _ (nt h) h
  | compare c op v => exact k _ _ (nt h) h
  | against c op d m => exact k _ _ (nt h) h
theorem AtomForm.keep {H H' : Hp} {q : Addr} {a : At} (h : AtomForm H q a) (k : ∀ b o, H b = some o → H' b = some o) : AtomForm H' q a := by
  cases a with
  | among c vs =>
    obtain ⟨l, kd, h1, h2, h3, h4⟩ := h
    exact ⟨l, kd, k _ _ h1, k _ _ h2, h3, h4⟩
  | always => exact k _ _ h
  | never => exact k _ _ h
  | empty c => exact k _ _ h
  | begins c z => exact k _ _ h
  | compare c op v => exact k _ _ h
  | against c op d m => exact k _ _ h
def FormAt (H : Hp) : Fm → Addr → Prop
  | .at a, p => AtomForm H p a
  | .un w f, p => ∃ q, H p = some (.tup [.str w, .ref q]) ∧ FormAt H f q
  | .bi w f g, p => ∃ q r, H p = some (.tup [.str w, .ref q, .ref r]) ∧ FormAt H f q ∧ FormAt H g r
theorem FormAt.keepN {H H' : Hp} {p : Addr} (k : ∀ b o, b ≠ p → H b = some o → H' b = some o) (n : ∃ o, H p = some o ∧ NF o) : ∀ {f : Fm} {q : Addr}, FormAt H f q → FormAt H' f q
  | .at _, _, h => AtomForm.keepN h k n
  | .un _ _, _, ⟨q, h1, h2⟩ =>
    have nt : ∀ {b : Addr} {l : List V}, H b = some (.tup l) → b ≠ p := fun h z => by obtain ⟨o, ho, n1, _⟩ := n; exact n1 _ (by rw [z, ho] at h; injection h)
    ⟨q, k _ _ (nt h1) h1, FormAt.keepN k n h2⟩
  | .bi _ _ _, _, ⟨q, r, h1, h2, h3⟩ =>
    have nt : ∀ {b : Addr} {l : List V}, H b = some (.tup l) → b ≠ p := fun h z => by obtain ⟨o, ho, n1, _⟩ := n; exact n1 _ (by rw [z, ho] at h; injection h)
    ⟨q, r, k _ _ (nt h1) h1, FormAt.keepN k n h2, FormAt.keepN k n h3⟩
theorem FormAt.keep {H H' : Hp} (k : ∀ b o, H b = some o → H' b = some o) : ∀ {f : Fm} {q : Addr}, FormAt H f q → FormAt H' f q
  | .at _, _, h => AtomForm.keep h k
  | .un _ _, _, ⟨q, h1, h2⟩ => ⟨q, k _ _ h1, FormAt.keep k h2⟩
  | .bi _ _ _, _, ⟨q, r, h1, h2, h3⟩ => ⟨q, r, k _ _ h1, FormAt.keep k h2, FormAt.keep k h3⟩
theorem FormAt.draw {H H' : Hp} {d sc : Addr} {ns : List Int} {f : Fm} {q : Addr} (h : FormAt H f q) (D : Dr H d sc ns) (k : Keep d H H') : FormAt H' f q := h.keepN (p := d) k D.nf
def spAtom : Sp := fun vs H Q _ => ∃ (d sc : Addr) (ns : List Int) (L : Addr) (cs : List (Str × Bool)), vs = [.ref d, .ref L] ∧ Dr H d sc ns ∧ GoodCols cs ∧ ColsAt H L cs ∧ L ≠ d ∧ ∀ q a H', AtomForm H' q a → a.Wf cs → DK d sc ns H H' → Q (.ref q) H'
section
variable {P : Program} {w : World} {K : PySem.W.Frag} {mg : Str → Option Value} {base : Heap}
theorem ok__law_atom (T : Txt K mg) : Def P w K mg base 4 "_law_atom" ["_law_draw", "_law_columns_here"] spAtom := by
  obtain ⟨f, fd, h⟩ := T.d__law_atom
  refine h.def (Fun.okM h.fn sc__law_atom (fun vs H Q E h => ?_) (fun cdv A outer s H vs Q E hr h => ?_))
  · obtain ⟨d, sc, ns, L, cs, rfl, _⟩ := h
    rfl
  · obtain ⟨d, sc, ns, L, cs, rfl, hD, hG, hC, hLd, k⟩ := h
    refine ⟨_, (pss_cons (ps_set (i := 2) sc__law_atom.nd rfl (Or.inl rfl) (pe_ix (ix_seqG (K := K) rfl) (pv 1) (pe_def (ok__law_take T) hr rfl (pa_cons (pv 0) (pa_cons (pe_callB (call_lenG (K := K) rfl) (by rfl) T.h_len (by decide +kernel) (pa_cons (pv 1) pa_nil)) pa_nil))) (fun _ _ => rfl)))
  (pss_cons (ps_set (i := 3) sc__law_atom.nd rfl (Or.inr rfl) (pe_ix (ix_seqG (K := K) rfl) (pv 2) pe_int (fun _ _ => rfl)))
  (pss_cons (ps_set (i := 4) sc__law_atom.nd rfl (Or.inr rfl) (pe_ix (ix_seqG (K := K) rfl) (pv 2) pe_int (fun _ _ => rfl)))
  (pss_cons (ps_set (i := 5) sc__law_atom.nd rfl (Or.inl rfl) (pe_ix (ix_seqG (K := K) rfl) (pe_lst (pa_cons pe_str (pa_cons pe_str (pa_cons pe_str (pa_cons pe_str (pa_cons pe_str (pa_cons pe_str pa_nil))))))) (pe_def (ok__law_take T) hr rfl (pa_cons (pv 0) (pa_cons pe_int pa_nil))) (fun _ _ => rfl)))
  (pss_cons (ps_set (i := 6) sc__law_atom.nd rfl (Or.inl rfl) (pe_def (ok__law_take T) hr rfl (pa_cons (pv 0) (pa_cons pe_int pa_nil))))
  (pss_cons (ps_setLc (i := 7) (own := [("_law_one", 9)]) rfl sc__law_atom.nd rfl rfl (sw_true rfl rfl rfl (by decide +kernel)) (pi_list (pv 1)) (blkOk_by (N := N__law_atom) (sc := defScope S__law_atom) (by decide +kernel)) (fun _ _ _ _ _ => pg_name (i := 9) sc__law_atom.nd rfl (Or.inl rfl)) (fun _ _ _ _ _ => pts_one (PW.pt (pw_and (pt_cmpR op_eq (pe_ix (ix_seqG (K := K) rfl) (pv 9) pe_int (fun _ _ => rfl)) (pv 4) (nomark _)) (pw_and1 (pt_cmpR op_ne (pe_ix (ix_seqG (K := K) rfl) (pv 9) pe_int (fun _ _ => rfl)) (pv 3) (nomark _)))))) (fun _ _ _ _ _ => (pe_ix (ix_seqG (K := K) rfl) (pv 9) pe_int (fun _ _ => rfl))))
  (pss_cons (ps_if (pt_cmpR op_eq (pv 6) pe_int (nomark _))
  (pss_one (ps_ret (pe_tup (pa_cons pe_str pa_nil))))
  pss_nil)
  (pss_cons (ps_if (pt_cmpR op_eq (pv 6) pe_int (nomark _))
  (pss_one (ps_ret (pe_tup (pa_cons pe_str pa_nil))))
  pss_nil)
  (pss_cons (ps_if (pt_cmpR op_eq (pv 6) pe_int (nomark _))
  (pss_one (ps_ret (pe_tup (pa_cons pe_str (pa_cons (pv 3) pa_nil)))))
  pss_nil)
  (pss_cons (ps_if (pt_cmpR op_eq (pv 6) pe_int (nomark _))
  (pss_one (ps_ret (pe_tup (pa_cons pe_str (pa_cons (pv 3) (pa_cons (pe_lc (own := [("_law_k", 10)]) rfl sc__law_atom.nd (pi_range1 rfl T.h_range (pa_cons (pe_op op_addG pe_int (pe_def (ok__law_take T) hr rfl (pa_cons (pv 0) (pa_cons pe_int pa_nil)))) pa_nil)) (blkOk_by (N := N__law_atom) (sc := defScope S__law_atom) (by decide +kernel)) (fun _ _ _ _ _ => pg_name (i := 10) sc__law_atom.nd rfl (Or.inl rfl)) (fun _ _ _ _ _ => pts_nil) (fun _ _ _ _ _ => (pe_def (ok__law_value T) hr rfl (pa_cons (pv 0) (pa_cons (pv 4) pa_nil))))) pa_nil))))))
  pss_nil)
  (Evl.pss_cut (ps_if (PW.pt (pw_and (pt_cmpR op_eq (pv 6) pe_int (nomark _)) (pw_and1 (pt_cmpR op_eq (pv 4) pe_str (nomark _)))))
  (pss_one (ps_ret (pe_tup (pa_cons pe_str (pa_cons (pv 3) (pa_cons (pe_def (ok__law_text T) hr rfl (pa_cons (pv 0) pa_nil)) pa_nil))))))
  pss_nil)
  (Evl.pss_cut (ps_if (PW.pt (pw_and (pt_cmpR op_gtG (pv 6) pe_int (nomark _)) (pw_and1 (pt_cmpR op_gtG (pe_callB (call_lenG (K := K) rfl) (by rfl) T.h_len (by decide +kernel) (pa_cons (pv 7) pa_nil)) pe_int (nomark _)))))
  (pss_cons (ps_set (i := 8) sc__law_atom.nd rfl (Or.inl rfl) pe_int)
  (Evl.pss_cut (ps_if (PW.pt (pw_and (pt_cmpR op_eq (pv 4) pe_str (nomark _)) (pw_and1 (pt_cmpR op_eq (pe_def (ok__law_take T) hr rfl (pa_cons (pv 0) (pa_cons pe_int pa_nil))) pe_int (nomark _)))))
  (pss_one (ps_set (i := 8) sc__law_atom.nd rfl (Or.inl rfl) (pe_def (ok__law_number T) hr rfl (pa_cons (pv 0) pa_nil))))
  pss_nil)
  (pss_one (ps_ret (pe_tup (pa_cons pe_str (pa_cons (pv 3) (pa_cons (pv 5) (pa_cons (pe_ix (ix_seqG (K := K) rfl) (pv 7) (pe_def (ok__law_take T) hr rfl (pa_cons (pv 0) (pa_cons (pe_callB (call_lenG (K := K) rfl) (by rfl) T.h_len (by decide +kernel) (pa_cons (pv 7) pa_nil)) pa_nil))) (fun _ _ => rfl)) (pa_cons (pv 8) pa_nil))))))))))
  pss_nil)
  (pss_one (ps_ret (pe_tup (pa_cons pe_str (pa_cons (pv 3) (pa_cons (pv 5) (pa_cons (pe_def (ok__law_value T) hr rfl (pa_cons (pv 0) (pa_cons (pv 4) pa_nil))) pa_nil))))))))))))))))))), ?_⟩
    obtain ⟨qs, hL, hlen, hcol⟩ := id hC
    have hq0 : 0 < qs.length := by
      rw [hlen]
      exact List.length_pos_iff.mpr hG.ne
    have hq12 := hG.few
    walk_at "g"
    have hlog : ((qs.map V.ref).length : Int).natAbs.log2 < 9000 := by
      have : (((qs.map V.ref).length : Nat) : Int).natAbs < 2 ^ 64 := by rw [List.length_map]; omega
      exact Nat.lt_of_lt_of_le (PySem.Flt.log2_lt_of (by decide) this) (by decide)
    refine ⟨_, _, _, _, rfl, hD, by rw [List.length_map]; omega, hlog, fun r H1 r0 r1 D1 K1 => ?_⟩
    have B1 : DK d sc ns H H1 := ⟨D1, K1⟩
    rw [List.length_map] at r1
    obtain ⟨j, rfl⟩ := Int.eq_ofNat_of_zero_le r0
    obtain ⟨q, hq⟩ : ∃ q, qs[j]? = some q := ⟨_, List.getElem?_eq_getElem (by omega)⟩
    obtain ⟨⟨c, kd⟩, hc⟩ : ∃ c, cs[j]? = some c := ⟨_, List.getElem?_eq_getElem (by omega)⟩
    have hcm := List.mem_of_getElem? hc
    have hcn : nameP c := hG.nm _ hcm
    have hC1 := hC.draw hD K1 hLd
    have hL1 := K1 _ _ hLd hL
    obtain ⟨fl, e1⟩ := hcol j q _ hq hc
    have e1 := K1 _ _ (hD.tne e1) e1
    refine g_ixL (SqL.of hL1) (v := .ref q) (atI_nat (by rw [List.getElem?_map, hq]; rfl)) ?_
    walk_at "g"
    refine g_ixT (SqT.of e1) (v := .str c) (by rfl) ?_
    walk_at "g"
    refine g_ixT (SqT.of e1) (v := .str (kS kd)) (by rfl) ?_
    walk_at "g"
    refine ⟨by show 6 ≤ sizeLine; decide, fun p hp => ?_⟩
    have B2 := B1.new (o := .lst (opsL.map V.str)) hp
    have hC2 := hC1.keep (ext_new (o := .lst (opsL.map V.str)) hp)
    have hp2 : (upd H1 p (.lst (opsL.map V.str))) p = some (.lst (opsL.map V.str)) := upd_same
    have hpd := (D1.ne hp).1
    have e0 : upd H1 p (.lst [.str (Str.ofString "<"), .str (Str.ofString "<="), .str (Str.ofString "=="), .str (Str.ofString "!="), .str (Str.ofString ">"), .str (Str.ofString ">=")]) = upd H1 p (.lst (opsL.map V.str)) := rfl
    rw [e0]
    generalize upd H1 p (.lst (opsL.map V.str)) = H2 at B2 hC2 hp2
    clear hC1 hL1 e1 hcol hL B1
    walk_at "g"
    refine ⟨_, _, _, _, rfl, B2.D, by decide, by decide +kernel, fun r2 H3 r20 r21 D3 K3 => ?_⟩
    have B3 := B2.step D3 K3
    obtain ⟨op, hop, eop⟩ := atI_strs (ws := opsL) r20 (by show r2 < 6; exact r21)
    refine g_ixL (SqL.of (K3 _ _ hpd hp2)) eop ?_
    have hC3 := hC2.draw B2.D K3 hLd
    walk_at "g"
    refine ⟨_, _, _, _, rfl, D3, by decide, by decide +kernel, fun r3 H4 r30 r31 D4 K4 => ?_⟩
    have B4 := B3.step D4 K4
    have hC4 := hC3.draw D3 K4 hLd
    clear hC3 hC2 B3 B2 D3
    obtain ⟨qs, hL, hlen, hcol⟩ := id hC4
    walk_at "g"
    refine ⟨L, rfl, ⟨_, SqL.of hL⟩, fun Do hDo => ?_⟩
    refine lc_any (qs.map V.ref) (fun y => ∃ c2, y = .str c2 ∧ c2 ≠ c ∧ (c2, kd) ∈ cs) hDo (fun H2 k2 => fits_l (SqL.of (k2 _ _ hL))) (by rw [List.length_map]; omega) (fun x Hh R S hx kh hR hS => ?_) (fun H5 ys k5 h5' hys hyl => ?_)
    · obtain ⟨q2, hq2, rfl⟩ := List.mem_map.mp hx
      obtain ⟨j2, hj2, rfl⟩ := List.mem_iff_getElem.mp hq2
      obtain ⟨⟨c2, kd2⟩, hc2⟩ : ∃ c, cs[j2]? = some c := ⟨_, List.getElem?_eq_getElem (by omega)⟩
      obtain ⟨fl2, e2⟩ := hcol j2 qs[j2] _ (List.getElem?_eq_getElem hj2) hc2
      have e2 := kh _ _ e2
      walk_at "g"
      refine ⟨rfl, ?_⟩
      walk_at "g"
      refine g_ixT (SqT.of e2) (v := .str (kS kd2)) (by rfl) ?_
      walk_at "g"
      refine g_dec (fun h1 => ?_) (fun h1 => ?_)
      · obtain rfl := kS_inj h1
        walk_at "g"
        refine g_ixT (SqT.of e2) (v := .str c2) (by rfl) ?_
        walk_at "g"
        refine g_ndec (fun h2 => ?_) (fun h2 => ?_)
        · walk_at "g"
          refine g_ixT (SqT.of e2) (v := .str c2) (by rfl) ?_
          exact hR _ ⟨c2, rfl, h2, List.mem_of_getElem? hc2⟩
        · exact hS
      · walk_at "g"
        exact hS
    have B5 := B4.ext k5
    have hyl12 : ys.length ≤ 12 := by
      rw [List.length_map] at hyl
      omega
    clear hC4 hL hcol hlen hC
    clear B4 D4 K4
    walk_at "g"
    refine g_dec (fun h0 => ?_) (fun h0 => ?_)
    · walk_at "g"
      refine ⟨by show 1 ≤ sizeLine; decide, fun t ht => ?_⟩
      walk_at "g"
      exact k t .always _ upd_same True.intro (B5.new ht)
    walk_at "g"
    refine g_dec (fun h1 => ?_) (fun h1 => ?_)
    · walk_at "g"
      refine ⟨by show 1 ≤ sizeLine; decide, fun t ht => ?_⟩
      walk_at "g"
      exact k t .never _ upd_same True.intro (B5.new ht)
    walk_at "g"
    refine g_dec (fun h2 => ?_) (fun h2 => ?_)
    · walk_at "g"
      refine ⟨by show 2 ≤ sizeLine; decide, fun t ht => ?_⟩
      walk_at "g"
      exact k t (.empty c) _ upd_same ⟨hcn, kd, hcm⟩ (B5.new ht)
    walk_at "g"
    refine g_dec (fun h3 => ?_) (fun h3 => ?_)
    · walk_at "g"
      refine ⟨_, _, _, _, rfl, B5.D, by decide, by decide +kernel, fun r6 H6 r60 r61 D6 K6 => ?_⟩
      have B6 := B5.step D6 K6
      walk_at "g"
      refine ⟨_, rfl, by omega, by omega, fun Da hDa => ?_⟩
      have hDaH := B6.K.back (D6.ne hDa).1 hDa
      obtain ⟨n1, n2⟩ := D6.ne hDa
      refine lc_range (fun i Hi => DK d sc ns H Hi ∧ ∃ ys : List V, ys.length = i ∧ Hi Da = some (.lst ys) ∧ ∀ y ∈ ys, isV kd y) ?_ ?_ ?_
      · exact ⟨B6.new hDa, [], rfl, upd_same, fun y hy => nomatch hy⟩
      · rintro i Hi hi ⟨Bi, ys, rfl, hDi, hys⟩
        refine ⟨rfl, ?_⟩
        walk_at "g"
        refine ⟨_, _, _, kd, rfl, Bi.D, fun v H7 hv D7 K7 => ?_⟩
        refine ⟨_, K7 _ _ n1 hDi, ?_, (Bi.step D7 K7).put hDaH n1 n2, ys ++ [v], by simp, upd_same, fun y hy => ?_⟩
        · rw [sizeLine_eq]; omega
        · rcases List.mem_append.mp hy with hy | hy
          · exact hys y hy
          · rw [List.mem_singleton.mp hy]; exact hv
      · rintro Hi ⟨Bi, ys, hyl2, hDi, hys⟩
        walk_at "g"
        refine ⟨by show 3 ≤ sizeLine; decide, fun t ht => ?_⟩
        walk_at "g"
        have hne : ys ≠ [] := fun e => by rw [e] at hyl2; simp at hyl2; omega
        exact k t (.among c ys) _ ⟨Da, kd, upd_same, ext_new ht _ _ hDi, hne, hys⟩ ⟨hcn, hne, by omega, kd, hcm, hys⟩ (Bi.new ht)
    walk_at "g"
    refine g_cutA (M := fun σ' H' => σ' = [some (.ref d), some (.ref L), some (.ref q), some (.str c), some (.str (kS kd)), some (.str op), some (.int r3), some (.ref Do), none, none, none] ∧ H' = H5) (fun D1' hn1 hr1 _ _ => ?_) ?_
    · walk_at "g"
      refine g_dec (fun h4 => ?_) (fun h4 => ?_)
      · walk_at "g"
        refine g_dec (fun h5 => ?_) (fun h5 => ?_)
        · walk_at "g"
          refine ⟨_, _, _, rfl, B5.D, fun v H6 hv D6 K6 => ?_⟩
          have B6 := B5.step D6 K6
          walk_at "g"
          refine ⟨by show 3 ≤ sizeLine; decide, fun t ht => ?_⟩
          rw [hr1]
          refine g_rt ?_
          obtain rfl : kd = true := kS_inj (b := true) h5
          obtain ⟨z, rfl, hz⟩ := hv
          exact k t (.begins c z) _ upd_same ⟨hcn, hcm, z, rfl, hz⟩ (B6.new ht)
        · walk_at "g"
          exact hn1 _ _ ⟨rfl, rfl⟩
      · walk_at "g"
        exact hn1 _ _ ⟨rfl, rfl⟩
    rintro σ' H6 ⟨rfl, rfl⟩
    walk_at "g"
    refine g_cutA (M := fun σ' H' => σ' = [some (.ref d), some (.ref L), some (.ref q), some (.str c), some (.str (kS kd)), some (.str op), some (.int r3), some (.ref Do), none, none, none] ∧ H' = H6) (fun D1' hn1 hr1 _ _ => ?_) ?_
    · walk_at "g"
      refine g_dec (fun h4 => ?_) (fun h4 => ?_)
      · walk_at "g"
        refine g_dec (fun h5 => ?_) (fun h5 => ?_)
        · walk_at "g"
          refine g_cutA (M := fun σ' H' => ∃ n : Int, (kd = true → n = 0) ∧ σ' = [some (.ref d), some (.ref L), some (.ref q), some (.str c), some (.str (kS kd)), some (.str op), some (.int r3), some (.ref Do), some (.int n), none, none] ∧ DK d sc ns H H' ∧ Keep d H6 H') (fun D2' hn2 hr2 _ _ => ?_) ?_
          · walk_at "g"
            refine g_dec (fun h6 => ?_) (fun h6 => ?_)
            · walk_at "g"
              refine ⟨_, _, _, _, rfl, B5.D, by decide, by decide +kernel, fun r6 H7 r60 r61 D7 K7 => ?_⟩
              have B7 := B5.step D7 K7
              walk_at "g"
              refine g_dec (fun h7 => ?_) (fun h7 => ?_)
              · walk_at "g"
                refine ⟨_, _, _, rfl, B7.D, fun v H8 hv D8 K8 => ?_⟩
                obtain ⟨n, rfl⟩ := hv
                walk_at "g"
                obtain rfl : kd = false := kS_inj (b := false) h6
                exact hn2 _ _ ⟨n, (fun e => nomatch e), rfl, B7.step D8 K8, K7.trans K8⟩
              · walk_at "g"
                exact hn2 _ _ ⟨0, fun _ => rfl, rfl, B7, K7⟩
            · walk_at "g"
              exact hn2 _ _ ⟨0, fun _ => rfl, rfl, B5, Keep.refl _ _⟩
          rintro σ' H7 ⟨n, hn, rfl, B7, K7⟩
          have hDod : Do ≠ d := fun z => by
            obtain ⟨o, ho, n1, n2⟩ := B5.D.nf
            rw [← z, h5'] at ho
            cases ho
            obtain ⟨c2, e2, _⟩ := hys (ys[0]'(by rw [List.length_pos_iff]; intro e; rw [e] at h5; simp at h5)) (List.getElem_mem _)
            obtain ⟨i, b, c, e, g1, g2, g3, g4⟩ := B5.D.ex
            rw [← z, h5'] at g3
            injection g3 with g3
            injection g3 with g3
            subst g3
            cases e2
          have h7' := K7 _ _ hDod h5'
          walk_at "g"
          have hyp : 0 < ys.length := by omega
          have hlog2 : ((ys.length : Nat) : Int).natAbs.log2 < 9000 := by
            have : ((ys.length : Nat) : Int).natAbs < 2 ^ 64 := by omega
            exact Nat.lt_of_lt_of_le (PySem.Flt.log2_lt_of (by decide) this) (by decide)
          refine ⟨_, _, _, _, rfl, B7.D, by omega, hlog2, fun r6 H8 r60 r61 D8 K8 => ?_⟩
          have B8 := B7.step D8 K8
          obtain ⟨j6, rfl⟩ := Int.eq_ofNat_of_zero_le r60
          have hj6 : j6 < ys.length := by omega
          obtain ⟨c2, e2, hc21, hc22⟩ := hys ys[j6] (List.getElem_mem hj6)
          refine g_ixL (SqL.of (K8 _ _ hDod h7')) (v := .str c2) (atI_nat (by rw [List.getElem?_eq_getElem hj6, e2])) ?_
          walk_at "g"
          refine ⟨by show 5 ≤ sizeLine; decide, fun t ht => ?_⟩
          rw [hr1]
          refine g_rt ?_
          exact k t (.against c op c2 n) _ upd_same ⟨hcn, hG.nm _ hc22, hc21, hop, kd, hcm, hc22, hn⟩ (B8.new ht)
        · walk_at "g"
          exact hn1 _ _ ⟨rfl, rfl⟩
      · walk_at "g"
        exact hn1 _ _ ⟨rfl, rfl⟩
    rintro σ' H7 ⟨rfl, rfl⟩
    walk_at "g"
    refine ⟨_, _, _, kd, rfl, B5.D, fun v H8 hv D8 K8 => ?_⟩
    have B8 := B5.step D8 K8
    walk_at "g"
    refine ⟨by show 4 ≤ sizeLine; decide, fun t ht => ?_⟩
    walk_at "g"
    exact k t (.compare c op v) _ upd_same ⟨hcn, hop, kd, hcm, hv⟩ (B8.new ht)
end
/-! drawn forms -/
theorem cut_to {a b : List V} : cutV (a ++ b) none (some (a.length : Int)) = a := by
  unfold cutV
  rw [HT.sIx_nat, HT.sIx_none, List.length_append, Nat.min_eq_left (by omega), List.drop_zero, Nat.sub_zero, List.take_left']
  rfl
theorem cut_from {a b : List V} {n : Nat} (h : n = a.length) : cutV (a ++ b) (some (n : Int)) none = b := by
  subst h
  unfold cutV
  rw [HT.sIx_nat, HT.sIx_none, List.length_append, Nat.min_eq_left (by omega), List.drop_left', Nat.add_sub_cancel_left, List.take_length]
  rfl
inductive RF (R : Fm → Addr → Prop) : List Fm → List Addr → Prop
  | nil : RF R [] []
  | cons {f : Fm} {q : Addr} {fs : List Fm} {qs : List Addr} (h : R f q) (r : RF R fs qs) : RF R (f :: fs) (q :: qs)
theorem RF.mono {R S : Fm → Addr → Prop} (h : ∀ t q, R t q → S t q) : ∀ {ts : List Fm} {qs : List Addr}, RF R ts qs → RF S ts qs
  | _, _, .nil => .nil
  | _, _, .cons a r => .cons (h _ _ a) (r.mono h)
theorem RF.len {R : Fm → Addr → Prop} : ∀ {ts : List Fm} {qs : List Addr}, RF R ts qs → qs.length = ts.length
  | _, _, .nil => rfl
  | _, _, .cons _ r => congrArg (· + 1) r.len
theorem RF.app {R : Fm → Addr → Prop} : ∀ {ts us : List Fm} {qs ps : List Addr}, RF R ts qs → RF R us ps → RF R (ts ++ us) (qs ++ ps)
  | _, _, _, _, .nil, s => s
  | _, _, _, _, .cons a r, s => .cons a (r.app s)
theorem RF.split {R : Fm → Addr → Prop} : ∀ {qa qb : List Addr} {fs : List Fm}, RF R fs (qa ++ qb) → ∃ fa fb, fs = fa ++ fb ∧ RF R fa qa ∧ RF R fb qb
  | [], _, fs, h => ⟨[], fs, rfl, .nil, h⟩
  | q :: qa, qb, fs, h => by
    cases h with
    | cons a r =>
      obtain ⟨fa, fb, e, x, y⟩ := r.split
      exact ⟨_ :: fa, fb, by rw [e]; rfl, .cons a x, y⟩
theorem two_at : ∀ {qs : List Addr} {n : Nat}, n + 1 < qs.length → ∃ qa q1 q2 qb, qs = qa ++ q1 :: q2 :: qb ∧ qa.length = n
  | q1 :: q2 :: qb, 0, _ => ⟨[], q1, q2, qb, rfl, rfl⟩
  | q :: qs, n + 1, h => by
    obtain ⟨qa, q1, q2, qb, e, l⟩ := two_at (qs := qs) (n := n) (by simp at h; omega)
    exact ⟨q :: qa, q1, q2, qb, by rw [e]; rfl, by rw [List.length_cons, l]⟩
  | [], n, h => absurd h (by simp)
  | [q], 0, h => absurd h (by simp)
def GoodF (cs : List (Str × Bool)) (f : Fm) : Prop := f.Wf cs ∧ f.ts.depth + 1 ≤ 2 * f.ts.size
def sizeF (fs : List Fm) : Nat := (fs.map fun f => f.ts.size).sum
theorem sizeF_app (a b : List Fm) : sizeF (a ++ b) = sizeF a + sizeF b := by
  unfold sizeF
  rw [List.map_append, List.sum_append]
def spWrapped : Sp := fun vs H Q _ => ∃ (q : Addr) (i : Int) (f : Fm), vs = [.ref q, .int i] ∧ FormAt H f q ∧ ∀ t f' H', (∀ q o, H q = some o → H' q = some o) → FormAt H' f' t → (f' = f ∨ f' = .un "not" f ∨ f' = .un "sure" f) → Q (.ref t) H'
def spForm : Sp := fun vs H Q _ => ∃ (d sc : Addr) (ns : List Int) (L : Addr) (cs : List (Str × Bool)) (m : Int), vs = [.ref d, .ref L, .int m] ∧ Dr H d sc ns ∧ GoodCols cs ∧ ColsAt H L cs ∧ L ≠ d ∧ 0 < m ∧ m ≤ 6 ∧ ∀ q f H', FormAt H' f q → GoodF cs f → f.ts.size ≤ 6 → DK d sc ns H H' → Q (.ref q) H'
section
variable {P : Program} {w : World} {K : PySem.W.Frag} {mg : Str → Option Value} {base : Heap}
theorem ok__law_wrapped (T : Txt K mg) : Def P w K mg base 1 "_law_wrapped" ["_law_form_here", "_law_choice"] spWrapped := by
  obtain ⟨f, fd, h⟩ := T.d__law_wrapped
  refine h.def (Fun.okM h.fn sc__law_wrapped (fun vs H Q E h => ?_) (fun cdv A outer s H vs Q E hr h => ?_))
  · obtain ⟨q, i, f0, rfl, _⟩ := h
    rfl
  · obtain ⟨q, i, f0, rfl, hF, k⟩ := h
    refine ⟨_, (pss_cons (ps_if (pt_cmpR op_eq (pv 1) pe_int (nomark _))
  (pss_one (ps_ret (pe_tup (pa_cons pe_str (pa_cons (pv 0) pa_nil)))))
  pss_nil)
  (pss_cons (ps_if (pt_cmpR op_eq (pv 1) pe_int (nomark _))
  (pss_one (ps_ret (pe_tup (pa_cons pe_str (pa_cons (pv 0) pa_nil)))))
  pss_nil)
  (pss_one (ps_ret (pv 0))))), ?_⟩
    walk_at "g"
    refine g_dec (fun h0 => ?_) (fun h0 => ?_)
    · walk_at "g"
      refine ⟨by show 2 ≤ sizeLine; decide, fun t ht => ?_⟩
      walk_at "g"
      exact k t (.un "not" f0) _ (ext_new ht) ⟨q, upd_same, hF.keep (ext_new ht)⟩ (.inr (.inl rfl))
    walk_at "g"
    refine g_dec (fun h0 => ?_) (fun h0 => ?_)
    · walk_at "g"
      refine ⟨by show 2 ≤ sizeLine; decide, fun t ht => ?_⟩
      walk_at "g"
      exact k t (.un "sure" f0) _ (ext_new ht) ⟨q, upd_same, hF.keep (ext_new ht)⟩ (.inr (.inr rfl))
    walk_at "g"
    exact k q f0 _ (fun _ _ h => h) hF (.inl rfl)
theorem wrap_good {cs : List (Str × Bool)} {f f' : Fm} (w : f.Wf cs) (h : f' = f ∨ f' = .un "not" f ∨ f' = .un "sure" f) : f'.Wf cs ∧ f'.ts.size = f.ts.size ∧ f'.ts.depth ≤ f.ts.depth + 1 := by
  rcases h with rfl | rfl | rfl
  · exact ⟨w, rfl, Nat.le_succ _⟩
  · exact ⟨⟨.inl rfl, w⟩, rfl, Nat.le_refl _⟩
  · exact ⟨⟨.inr rfl, w⟩, rfl, Nat.le_refl _⟩
theorem ok__law_form (T : Txt K mg) : Def P w K mg base 5 "_law_form" ["_law_draw", "_law_columns_here", "_law_most"] spForm := by
  obtain ⟨f, fd, h⟩ := T.d__law_form
  refine h.def (Fun.okM h.fn sc__law_form (fun vs H Q E h => ?_) (fun cdv A outer s H vs Q E hr h => ?_))
  · obtain ⟨d, sc, ns, L, cs, m, rfl, _⟩ := h
    rfl
  · obtain ⟨d, sc, ns, L, cs, m, rfl, hD, hG, hC, hLd, hm0, hm6, k⟩ := h
    refine ⟨_, (pss_cons (ps_set (i := 3) sc__law_form.nd rfl (Or.inl rfl) (pe_lst pa_nil))
  (pss_cons (ps_for PassesOwn.never rfl (pi_range1 rfl T.h_range (pa_cons (pe_op op_addG pe_int (pe_def (ok__law_take T) hr rfl (pa_cons (pv 0) (pa_cons (pv 2) pa_nil)))) pa_nil)) (pg_name (i := 4) sc__law_form.nd rfl (Or.inl rfl))
  (pss_one (ps_expr (pe_bm PySem.F.plainAttrs_list PySem.F.slot_list_append PySem.F.type_list_append mt_append (pv 3) (pa_cons (pe_def (ok__law_wrapped T) hr rfl (pa_cons (pe_def (ok__law_atom T) hr rfl (pa_cons (pv 0) (pa_cons (pv 1) pa_nil))) (pa_cons (pe_def (ok__law_take T) hr rfl (pa_cons (pv 0) (pa_cons pe_int pa_nil))) pa_nil))) pa_nil)))))
  (pss_cons (ps_for PassesOwn.never rfl (pi_range1 rfl T.h_range (pa_cons (pe_op op_subG (pe_callB (call_lenG (K := K) rfl) (by rfl) T.h_len (by decide +kernel) (pa_cons (pv 3) pa_nil)) pe_int) pa_nil)) (pg_name (i := 4) sc__law_form.nd rfl (Or.inl rfl))
  (pss_cons (ps_set (i := 5) sc__law_form.nd rfl (Or.inl rfl) (pe_def (ok__law_take T) hr rfl (pa_cons (pv 0) (pa_cons (pe_op op_subG (pe_callB (call_lenG (K := K) rfl) (by rfl) T.h_len (by decide +kernel) (pa_cons (pv 3) pa_nil)) pe_int) pa_nil))))
  (pss_cons (ps_set (i := 6) sc__law_form.nd rfl (Or.inl rfl) (pe_ix (ix_seqG (K := K) rfl) (pe_lst (pa_cons pe_str (pa_cons pe_str pa_nil))) (pe_def (ok__law_take T) hr rfl (pa_cons (pv 0) (pa_cons pe_int pa_nil))) (fun _ _ => rfl)))
  (pss_cons (ps_set (i := 7) sc__law_form.nd rfl (Or.inl rfl) (pe_def (ok__law_wrapped T) hr rfl (pa_cons (pe_tup (pa_cons (pv 6) (pa_cons (pe_ix (ix_seqG (K := K) rfl) (pv 3) (pv 5) (fun _ _ => rfl)) (pa_cons (pe_ix (ix_seqG (K := K) rfl) (pv 3) (pe_op op_addG (pv 5) pe_int) (fun _ _ => rfl)) pa_nil)))) (pa_cons (pe_def (ok__law_take T) hr rfl (pa_cons (pv 0) (pa_cons pe_int pa_nil))) pa_nil))))
  (pss_one (ps_set (i := 3) sc__law_form.nd rfl (Or.inl rfl) (pe_op op_addG (pe_op op_addG (pe_slice (sl_G (K := K) rfl) (pv 3) po_none (po_some (pv 5))) (pe_lst (pa_cons (pv 7) pa_nil))) (pe_slice (sl_G (K := K) rfl) (pv 3) (po_some (pe_op op_addG (pv 5) pe_int)) po_none))))))))
  (pss_one (ps_ret (pe_ix (ix_seqG (K := K) rfl) (pv 3) pe_int (fun _ _ => rfl))))))), ?_⟩
    walk_at "g"
    refine ⟨Nat.zero_le _, fun Lp hLp => ?_⟩
    have B1 := (DK.refl hD).new (o := .lst []) hLp
    have hC1 := hC.keep (ext_new (o := .lst []) hLp)
    have nLp := hD.ne hLp
    have hLH : H Lp = none := hLp
    have hLpL : Lp ≠ L := by
      obtain ⟨qs, h1, _⟩ := hC
      exact Ne.symm (ne_of_none h1 hLp)
    have e1 : (upd H Lp (.lst [])) Lp = some (.lst (([] : List Addr).map V.ref)) := upd_same
    generalize upd H Lp (.lst []) = H1 at B1 hC1 e1
    walk_at "g"
    have hml : m.natAbs.log2 < 9000 := by
      have : m.natAbs < 2 ^ 64 := by omega
      exact Nat.lt_of_lt_of_le (PySem.Flt.log2_lt_of (by decide) this) (by decide)
    refine ⟨_, _, _, _, rfl, B1.D, hm0, hml, fun r H2 r0 r1 D2 K2 => ?_⟩
    have B2 := B1.step D2 K2
    have hC2 := hC1.draw B1.D K2 hLd
    have e2 := K2 _ _ nLp.1 e1
    walk_at "g"
    refine ⟨_, rfl, by omega, by omega, ?_⟩
    refine for_rangeA (fun i σ' H' => ∃ (s4 : Option V) (fs : List Fm) (qs : List Addr), σ' = [some (.ref d), some (.ref L), some (.int m), some (.ref Lp), s4, none, none, none] ∧ DK d sc ns H H' ∧ ColsAt H' L cs ∧ H' Lp = some (.lst (qs.map V.ref)) ∧ RF (FormAt H') fs qs ∧ fs.length = i ∧ sizeF fs = i ∧ ∀ f ∈ fs, GoodF cs f) ⟨none, [], [], rfl, B2, hC2, e2, .nil, rfl, rfl, fun f hf => nomatch hf⟩ ?_ ?_
    · rintro i σ' H3 D' hi ⟨s4, fs, qs, rfl, B3, hC3, hL3, hR3, hlen, hsz, hgood⟩ hnx hct hbk hrt
      have hi6 : i < 6 := by omega
      have hql := hR3.len
      walk_at "g"
      refine ⟨_, _, _, _, _, rfl, B3.D, hG, hC3, hLd, fun q a H4 hA hwf B4 => ?_⟩
      have hC4 := hC3.draw B3.D B4.K hLd
      have hL4 := B4.K _ _ nLp.1 hL3
      have hR4 := hR3.mono fun f q h => FormAt.draw h B3.D B4.K
      have C4 := B3.step B4.D B4.K
      walk_at "g"
      refine ⟨_, _, _, _, rfl, B4.D, by decide, by decide +kernel, fun r5 H5 r50 r51 D5 K5 => ?_⟩
      have C5 := C4.step D5 K5
      have hC5 := hC4.draw B4.D K5 hLd
      have hL5 := K5 _ _ nLp.1 hL4
      have hR5 := hR4.mono fun f q h => FormAt.draw h B4.D K5
      have hA5 : FormAt H5 (.at a) q := FormAt.draw (f := .at a) hA B4.D K5
      walk_at "g"
      refine ⟨q, _, .at a, rfl, hA5, fun t f' H6 x6 hF6 hor => ?_⟩
      obtain ⟨w1, w2, w3⟩ := wrap_good (cs := cs) (f := .at a) hwf hor
      have C6 := C5.ext x6
      have hC6 := hC5.keep x6
      have hL6 := x6 _ _ hL5
      have hR6 := hR5.mono fun f q h => FormAt.keep x6 h
      walk_at "g"
      have kL : ∀ b o, b ≠ Lp → H6 b = some o → (upd H6 Lp (.lst (qs.map V.ref ++ [.ref t]))) b = some o := fun b o hb h => by rw [upd_ne hb]; exact h
      have nL : ∃ o, H6 Lp = some o ∧ NF o := ⟨_, hL6, NF.refs⟩
      refine hnx _ _ ⟨_, fs ++ [f'], qs ++ [t], rfl, C6.put hLH nLp.1 nLp.2, ?_, by rw [upd_same, List.map_append]; rfl, (hR6.mono fun f q h => FormAt.keepN kL nL h).app (.cons (FormAt.keepN kL nL hF6) .nil), by rw [List.length_append, hlen]; rfl, ?_, fun f hf => ?_⟩
      · obtain ⟨ps, h1, h2, h3⟩ := hC6
        refine ⟨ps, kL _ _ (Ne.symm hLpL) h1, h2, fun i q c hq hc => ?_⟩
        obtain ⟨fl, e⟩ := h3 i q c hq hc
        exact ⟨fl, kL _ _ (fun z => by rw [z, hL6] at e; cases e) e⟩
      · rw [sizeF_app, hsz]
        show i + (f'.ts.size + 0) = i + 1
        rw [w2]; rfl
      · rcases List.mem_append.mp hf with hf | hf
        · exact hgood f hf
        · rw [List.mem_singleton.mp hf]
          refine ⟨w1, ?_⟩
          have e1 : (Fm.at a).ts.depth = 0 := rfl
          have e2 : (Fm.at a).ts.size = 1 := rfl
          rw [e1] at w3
          rw [e2] at w2
          omega
    · rintro σ' H3 ⟨s4, fs, qs, rfl, B3, hC3, hL3, hR3, hlen, hsz, hgood⟩
      have hql := hR3.len
      clear hC2 e2 B2 K2 D2 e1 hC1 B1
      walk_at "g"
      have hn6 : fs.length ≤ 6 := by omega
      have hn1 : 1 ≤ fs.length := by omega
      refine ⟨_, rfl, by rw [List.length_map]; omega, by rw [List.length_map]; omega, ?_⟩
      refine for_rangeA (fun i σ' H' => ∃ (s4 s5 s6 s7 : Option V) (Lq : Addr) (fs' : List Fm) (qs' : List Addr), σ' = [some (.ref d), some (.ref L), some (.int m), some (.ref Lq), s4, s5, s6, s7] ∧ DK d sc ns H H' ∧ Lq ≠ d ∧ H' Lq = some (.lst (qs'.map V.ref)) ∧ RF (FormAt H') fs' qs' ∧ fs'.length + i = fs.length ∧ sizeF fs' = fs.length ∧ ∀ f ∈ fs', GoodF cs f) ⟨_, none, none, none, Lp, fs, qs, rfl, B3, nLp.1, hL3, hR3, rfl, by omega, hgood⟩ ?_ ?_
      · rintro i σ' H4 D' hi ⟨s4, s5, s6, s7, Lq, fs', qs', rfl, B4, hLq, hL4, hR4, hlen4, hsz4, hgood4⟩ hnx hct hbk hrt
        have hql4 := hR4.len
        rw [List.length_map] at hi
        have hlt : 2 ≤ qs'.length := by omega
        walk_at "g"
        have hlog : (((qs'.map V.ref).length : Int) - 1).natAbs.log2 < 9000 := by
          have : (((qs'.map V.ref).length : Int) - 1).natAbs < 2 ^ 64 := by rw [List.length_map]; omega
          exact Nat.lt_of_lt_of_le (PySem.Flt.log2_lt_of (by decide) this) (by decide)
        refine ⟨_, _, _, _, rfl, B4.D, by rw [List.length_map]; omega, hlog, fun r5 H5 r50 r51 D5 K5 => ?_⟩
        rw [List.length_map] at r51
        obtain ⟨n, rfl⟩ := Int.eq_ofNat_of_zero_le r50
        obtain ⟨qa, q1, q2, qb, rfl, rfl⟩ := two_at (qs := qs') (n := n) (by omega)
        have hqlen : qa.length + qb.length + 2 ≤ 6 := by
          have := hql4
          simp at this
          omega
        have B5 := B4.step D5 K5
        have hL5 := K5 _ _ hLq hL4
        have hR5 := hR4.mono fun f q h => FormAt.draw h B4.D K5
        clear hL4 hR4 K5
        walk_at "g"
        refine ⟨by show 2 ≤ sizeLine; decide, fun W hW => ?_⟩
        have B6 := B5.new (o := .lst [.str "and", .str "or"]) hW
        have x6 := ext_new (o := .lst [.str "and", .str "or"]) hW
        have hL6 := x6 _ _ hL5
        have hR6 := hR5.mono fun f q h => FormAt.keep x6 h
        have hW6 : (upd H5 W (.lst [.str "and", .str "or"])) W = some (.lst [.str "and", .str "or"]) := upd_same
        have hWd := (D5.ne hW).1
        have e0 : upd H5 W (.lst [.str (Str.ofString "and"), .str (Str.ofString "or")]) = upd H5 W (.lst [.str "and", .str "or"]) := rfl
        rw [e0]
        generalize upd H5 W (.lst [.str "and", .str "or"]) = H6 at B6 x6 hL6 hR6 hW6
        clear hL5 hR5
        walk_at "g"
        refine ⟨_, _, _, _, rfl, B6.D, by decide, by decide +kernel, fun r7 H7 r70 r71 D7 K7 => ?_⟩
        obtain ⟨wd, hwd, ewd⟩ : ∃ wd : Str, (wd = "and" ∨ wd = "or") ∧ atI [V.str "and", V.str "or"] r7 = some (.str wd) := by
          have : r7 = 0 ∨ r7 = 1 := by omega
          rcases this with rfl | rfl
          · exact ⟨_, .inl rfl, rfl⟩
          · exact ⟨_, .inr rfl, rfl⟩
        refine g_ixL (SqL.of (K7 _ _ hWd hW6)) ewd ?_
        have B7 := B6.step D7 K7
        have hL7 := K7 _ _ hLq hL6
        have hR7 := hR6.mono fun f q h => FormAt.draw h B6.D K7
        obtain ⟨fa, fr, rfl, ha7, hr7⟩ := hR7.split
        obtain ⟨f1, f2, fb, rfl, h17, h27, hb7⟩ : ∃ f1 f2 fb, fr = f1 :: f2 :: fb ∧ FormAt H7 f1 q1 ∧ FormAt H7 f2 q2 ∧ RF (FormAt H7) fb qb := by
          cases hr7 with
          | cons a r =>
            cases r with
            | cons b r => exact ⟨_, _, _, rfl, a, b, r⟩
        clear hL6 hR6 hR7 hr7 hW6
        have hm : (qa ++ q1 :: q2 :: qb).map V.ref = qa.map V.ref ++ (V.ref q1 :: V.ref q2 :: qb.map V.ref) := by rw [List.map_append]; rfl
        have i1 : atI ((qa ++ q1 :: q2 :: qb).map V.ref) (qa.length : Int) = some (.ref q1) := by
          refine atI_nat ?_
          rw [hm, List.getElem?_append_right (by rw [List.length_map]; omega), List.length_map, Nat.sub_self]; rfl
        have i2 : atI ((qa ++ q1 :: q2 :: qb).map V.ref) ((qa.length : Int) + 1) = some (.ref q2) := by
          refine atI_nat (j := qa.length + 1) ?_
          rw [hm, List.getElem?_append_right (by rw [List.length_map]; omega), List.length_map, Nat.add_sub_cancel_left]; rfl
        walk_at "g"
        refine g_ixL (SqL.of hL7) i1 ?_
        walk_at "g"
        refine g_ixL (SqL.of hL7) i2 ?_
        walk_at "g"
        refine ⟨by show 3 ≤ sizeLine; decide, fun t ht => ?_⟩
        have x8 := ext_new (o := .tup [.str wd, .ref q1, .ref q2]) ht
        have B8 := B7.new (o := .tup [.str wd, .ref q1, .ref q2]) ht
        have hL8 := x8 _ _ hL7
        have ha8 := ha7.mono fun f q h => FormAt.keep x8 h
        have hb8 := hb7.mono fun f q h => FormAt.keep x8 h
        have ht8 : FormAt (upd H7 t (.tup [.str wd, .ref q1, .ref q2])) (.bi wd f1 f2) t := ⟨q1, q2, upd_same, h17.keep x8, h27.keep x8⟩
        generalize upd H7 t (.tup [.str wd, .ref q1, .ref q2]) = H8 at x8 B8 hL8 ha8 hb8 ht8
        clear hL7 ha7 hb7
        walk_at "g"
        refine ⟨_, _, _, _, rfl, B8.D, by decide, by decide +kernel, fun r9 H9 r90 r91 D9 K9 => ?_⟩
        have B9 := B8.step D9 K9
        have hL9 := K9 _ _ hLq hL8
        have ha9 := ha8.mono fun f q h => FormAt.draw h B8.D K9
        have hb9 := hb8.mono fun f q h => FormAt.draw h B8.D K9
        have ht9 := FormAt.draw ht8 B8.D K9
        clear hL8 ha8 hb8 ht8
        walk_at "g"
        refine ⟨t, _, _, rfl, ht9, fun t' f' H10 x10 hF10 hor => ?_⟩
        have g1 := hgood4 f1 (List.mem_append.mpr (.inr List.mem_cons_self))
        have g2 := hgood4 f2 (List.mem_append.mpr (.inr (List.mem_cons_of_mem _ List.mem_cons_self)))
        obtain ⟨w1, w2, w3⟩ := wrap_good (cs := cs) (f := .bi wd f1 f2) ⟨hwd, g1.1, g2.1⟩ hor
        have B10 := B9.ext x10
        have hL10 := x10 _ _ hL9
        have ha10 := ha9.mono fun f q h => FormAt.keep x10 h
        have hb10 := hb9.mono fun f q h => FormAt.keep x10 h
        clear hL9 ha9 hb9 ht9
        rw [hm] at hL10
        walk_at "g"
        have hlq : (qa.length : Int) = ((qa.map V.ref).length : Int) := by rw [List.length_map]
        refine g_slL (SqL.of hL10) fun A hA => ?_
        rw [hlq, cut_to]
        have xA := ext_new (o := .lst (qa.map V.ref)) hA
        have BA := B10.new (o := .lst (qa.map V.ref)) hA
        have hAA : (upd H10 A (.lst (qa.map V.ref))) A = some (.lst (qa.map V.ref)) := upd_same
        have hLA := xA _ _ hL10
        have haA := ha10.mono fun f q h => FormAt.keep xA h
        have hbA := hb10.mono fun f q h => FormAt.keep xA h
        have hFA := hF10.keep xA
        generalize upd H10 A (.lst (qa.map V.ref)) = H11 at BA hAA hLA haA hbA hFA
        clear xA hL10 ha10 hb10 hF10
        walk_at "g"
        refine ⟨by show 1 ≤ sizeLine; decide, fun Bq hB => ?_⟩
        have xB := ext_new (o := .lst [.ref t']) hB
        have BB := BA.new (o := .lst [.ref t']) hB
        have hBB : (upd H11 Bq (.lst [.ref t'])) Bq = some (.lst [.ref t']) := upd_same
        have hAB := xB _ _ hAA
        have hLB := xB _ _ hLA
        have haB := haA.mono fun f q h => FormAt.keep xB h
        have hbB := hbA.mono fun f q h => FormAt.keep xB h
        have hFB := hFA.keep xB
        generalize upd H11 Bq (.lst [.ref t']) = H12 at BB hBB hAB hLB haB hbB hFB
        clear xB hAA hLA haA hbA hFA
        refine .inr (.inr ⟨A, Bq, _, _, rfl, rfl, hAB, hBB, ?_, fun Cq hCq => ?_⟩)
        · rw [List.length_map, sizeLine_eq]
          show qa.length + 1 ≤ _
          omega
        have xC := ext_new (o := .lst (qa.map V.ref ++ [.ref t'])) hCq
        have BC := BB.new (o := .lst (qa.map V.ref ++ [.ref t'])) hCq
        have hCC : (upd H12 Cq (.lst (qa.map V.ref ++ [.ref t']))) Cq = some (.lst (qa.map V.ref ++ [.ref t'])) := upd_same
        have hLC := xC _ _ hLB
        have haC := haB.mono fun f q h => FormAt.keep xC h
        have hbC := hbB.mono fun f q h => FormAt.keep xC h
        have hFC := hFB.keep xC
        generalize upd H12 Cq (.lst (qa.map V.ref ++ [.ref t'])) = H13 at BC hCC hLC haC hbC hFC
        clear xC hBB hAB hLB haB hbB hFB
        walk_at "g"
        refine g_slL (SqL.of hLC) fun Dq hDq => ?_
        have ecut : cutV (qa.map V.ref ++ V.ref q1 :: V.ref q2 :: qb.map V.ref) (some (((qa.map V.ref).length : Int) + 2)) none = qb.map V.ref := by
          rw [show qa.map V.ref ++ V.ref q1 :: V.ref q2 :: qb.map V.ref = (qa.map V.ref ++ [V.ref q1, V.ref q2]) ++ qb.map V.ref by simp]
          exact cut_from (n := (qa.map V.ref).length + 2) (by simp)
        rw [ecut]
        have xD := ext_new (o := .lst (qb.map V.ref)) hDq
        have BD := BC.new (o := .lst (qb.map V.ref)) hDq
        have hDD : (upd H13 Dq (.lst (qb.map V.ref))) Dq = some (.lst (qb.map V.ref)) := upd_same
        have hCD := xD _ _ hCC
        have haD := haC.mono fun f q h => FormAt.keep xD h
        have hbD := hbC.mono fun f q h => FormAt.keep xD h
        have hFD := hFC.keep xD
        generalize upd H13 Dq (.lst (qb.map V.ref)) = H14 at BD hDD hCD haD hbD hFD
        clear xD hCC hLC haC hbC hFC
        refine .inr (.inr ⟨Cq, Dq, _, _, rfl, rfl, hCD, hDD, ?_, fun Eq hEq => ?_⟩)
        · rw [List.length_append, List.length_map, List.length_map, sizeLine_eq]
          show qa.length + 1 + qb.length ≤ _
          omega
        have xE := ext_new (o := .lst (qa.map V.ref ++ [.ref t'] ++ qb.map V.ref)) hEq
        have em : qa.map V.ref ++ [V.ref t'] ++ qb.map V.ref = (qa ++ t' :: qb).map V.ref := by simp
        walk_at "g"
        refine hnx _ _ ⟨_, _, _, _, Eq, fa ++ f' :: fb, qa ++ t' :: qb, rfl, BD.new hEq, (BD.D.ne hEq).1, by rw [upd_same, em], (haD.mono fun f q h => FormAt.keep xE h).app (.cons (hFD.keep xE) (hbD.mono fun f q h => FormAt.keep xE h)), ?_, ?_, fun f hf => ?_⟩
        · rw [List.length_append] at hlen4 ⊢
          simp at hlen4 ⊢
          omega
        · rw [sizeF_app] at hsz4 ⊢
          have a1 : sizeF (f1 :: f2 :: fb) = f1.ts.size + (f2.ts.size + sizeF fb) := rfl
          have a2 : sizeF (f' :: fb) = f'.ts.size + sizeF fb := rfl
          have a3 : (Fm.bi wd f1 f2).ts.size = f1.ts.size + f2.ts.size := rfl
          rw [a1] at hsz4
          rw [a2, w2, a3]
          omega
        · rcases List.mem_append.mp hf with hf | hf
          · exact hgood4 f (List.mem_append.mpr (.inl hf))
          · rcases List.mem_cons.mp hf with rfl | hf
            · refine ⟨w1, ?_⟩
              have a3 : (Fm.bi wd f1 f2).ts.size = f1.ts.size + f2.ts.size := rfl
              have a4 : (Fm.bi wd f1 f2).ts.depth = max f1.ts.depth f2.ts.depth + 1 := rfl
              have p1 := f1.ts.size_pos
              have p2 := f2.ts.size_pos
              have b1 := g1.2
              have b2 := g2.2
              rw [w2, a3]
              rw [a4] at w3
              omega
            · exact hgood4 f (List.mem_append.mpr (.inr (List.mem_cons_of_mem _ (List.mem_cons_of_mem _ hf))))
      · rintro σ' H4 ⟨s4, s5, s6, s7, Lq, fs', qs', rfl, B4, hLq, hL4, hR4, hlen4, hsz4, hgood4⟩
        rw [List.length_map, hql] at hlen4
        cases hR4 with
        | nil => simp at hlen4; omega
        | cons a r =>
          rename_i f q fr qr
          cases r with
          | nil =>
            walk_at "g"
            refine k q f H4 a (hgood4 f List.mem_cons_self) ?_ B4
            have : sizeF [f] = f.ts.size + 0 := rfl
            omega
          | cons b r => simp at hlen4; omega
end
section
variable {σ : L2.St} {H : Hp} {D : Ends} {n : Nat} {x z : Str} {t1 tz : TS}
/-- if x == 'z': of texts that are known -/
theorem g_skipS (hv : σ[n]? = some (some (.str x))) (hne : x ≠ z) (q : tz D σ H) : tSeq (tIfS (tTest (tOp rEq (tVar n) (tC (.str z)))) t1 tNext) tz D σ H := by
  refine g_seq (g_if (g_test (g_op (g_var hv (g_c (g_eqS (g_bl ?_)))))))
  rw [decide_eq_false hne, if_neg Bool.false_ne_true]
  exact q
theorem g_takeS (hv : σ[n]? = some (some (.str z))) (q : t1 (mkE (tz D) D.rt D.bk D.ct) σ H) : tSeq (tIfS (tTest (tOp rEq (tVar n) (tC (.str z)))) t1 tNext) tz D σ H := by
  refine g_seq (g_if (g_test (g_op (g_var hv (g_c (g_eqS (g_bl ?_)))))))
  rw [decide_eq_true rfl, if_pos rfl]
  exact q
end
def spMake (C : Addr) (n : Nat) : Sp := fun vs H Q _ => ∃ (q : Addr) (f : Fm) (κ : List (Str × Bool)), vs = [.ref q] ∧ FormAt H f q ∧ f.WfW κ ∧ f.ts.depth ≤ n ∧ f.ts.depth ≤ 12 ∧ f.ts.size ≤ 24 ∧ ∀ t H', (∀ q o, H q = some o → H' q = some o) → TestAt C H' f.ts t → Q (.ref t) H'
section
variable {P : Program} {w : World} {K : PySem.W.Frag} {mg : Str → Option Value} {base : Heap}
theorem ok_makeN (T : Txt K mg) : ∀ n, Def P w K mg base (n + 6) "_law_make" ["_law_form_here"] (spMake (cadr mg "Test") n) := by
  intro n
  induction n with
  | zero =>
    obtain ⟨f, fd, h⟩ := T.d__law_make
    refine h.def (Fun.okM h.fn sc__law_make (fun vs H Q E h => ?_) (fun cdv A outer s H vs Q E hr h => ?_))
    · obtain ⟨q, f, κ, rfl, _⟩ := h
      rfl
    · obtain ⟨q, f, κ, rfl, hF, hw, hd, hd2, hz, k⟩ := h
      refine ⟨_, (pss_cons (ps_set (i := 1) sc__law_make.nd rfl (Or.inl rfl) (pe_ix (ix_seqG (K := K) rfl) (pv 0) pe_int (fun _ _ => rfl)))
  (pss_cons (ps_if (pt_cmpR op_eq (pv 1) pe_str (nomark _))
  (pss_one ps_never)
  pss_nil)
  (pss_cons (ps_if (pt_cmpR op_eq (pv 1) pe_str (nomark _))
  (pss_one ps_never)
  pss_nil)
  (pss_cons (ps_if (pt_cmpR op_eq (pv 1) pe_str (nomark _))
  (pss_one ps_never)
  pss_nil)
  (pss_cons (ps_if (pt_cmpR op_eq (pv 1) pe_str (nomark _))
  (pss_one ps_never)
  pss_nil)
  (pss_cons (ps_if (pt_cmpR op_eq (pv 1) pe_str (nomark _))
  (pss_one (ps_ret (pe_def0 (ok_always T) hr rfl (hk := by omega))))
  pss_nil)
  (pss_cons (ps_if (pt_cmpR op_eq (pv 1) pe_str (nomark _))
  (pss_one (ps_ret (pe_def0 (ok_never T) hr rfl (hk := by omega))))
  pss_nil)
  (pss_cons (ps_if (pt_cmpR op_eq (pv 1) pe_str (nomark _))
  (pss_one (ps_ret (pe_def (ok_empty T) hr rfl (pa_cons (pe_ix (ix_seqG (K := K) rfl) (pv 0) pe_int (fun _ _ => rfl)) pa_nil) (hk := by omega))))
  pss_nil)
  (pss_cons (ps_if (pt_cmpR op_eq (pv 1) pe_str (nomark _))
  (pss_one (ps_ret (pe_def (ok_among T) hr rfl (pa_cons (pe_ix (ix_seqG (K := K) rfl) (pv 0) pe_int (fun _ _ => rfl)) (pa_cons (pe_callTy (call_listG (K := K) rfl) (by rfl) T.h_list (by decide +kernel) (pa_cons (pe_ix (ix_seqG (K := K) rfl) (pv 0) pe_int (fun _ _ => rfl)) pa_nil)) pa_nil)) (hk := by omega))))
  pss_nil)
  (pss_cons (ps_if (pt_cmpR op_eq (pv 1) pe_str (nomark _))
  (pss_one (ps_ret (pe_def (ok_begins T) hr rfl (pa_cons (pe_ix (ix_seqG (K := K) rfl) (pv 0) pe_int (fun _ _ => rfl)) (pa_cons (pe_ix (ix_seqG (K := K) rfl) (pv 0) pe_int (fun _ _ => rfl)) pa_nil)) (hk := by omega))))
  pss_nil)
  (pss_cons (ps_if (pt_cmpR op_eq (pv 1) pe_str (nomark _))
  (pss_one (ps_ret (pe_def (ok_compare T) hr rfl (pa_cons (pe_ix (ix_seqG (K := K) rfl) (pv 0) pe_int (fun _ _ => rfl)) (pa_cons (pe_ix (ix_seqG (K := K) rfl) (pv 0) pe_int (fun _ _ => rfl)) (pa_cons (pe_ix (ix_seqG (K := K) rfl) (pv 0) pe_int (fun _ _ => rfl)) pa_nil))) (hk := by omega))))
  pss_nil)
  (pss_cons (ps_if (pt_cmpR op_eq (pe_ix (ix_seqG (K := K) rfl) (pv 0) pe_int (fun _ _ => rfl)) pe_int (nomark _))
  (pss_one (ps_ret (pe_defK (ok_against T) hr rfl (pa_cons (pe_ix (ix_seqG (K := K) rfl) (pv 0) pe_int (fun _ _ => rfl)) (pa_cons (pe_ix (ix_seqG (K := K) rfl) (pv 0) pe_int (fun _ _ => rfl)) (pa_cons (pe_ix (ix_seqG (K := K) rfl) (pv 0) pe_int (fun _ _ => rfl)) pa_nil))) (hk := by omega))))
  pss_nil)
  (pss_one (ps_ret (pe_defKw (ok_against T) hr rfl (pa_cons (pe_ix (ix_seqG (K := K) rfl) (pv 0) pe_int (fun _ _ => rfl)) (pa_cons (pe_ix (ix_seqG (K := K) rfl) (pv 0) pe_int (fun _ _ => rfl)) (pa_cons (pe_ix (ix_seqG (K := K) rfl) (pv 0) pe_int (fun _ _ => rfl)) pa_nil))) (pe_ix (ix_seqG (K := K) rfl) (pv 0) pe_int (fun _ _ => rfl)) (hk := by omega)))))))))))))))), ?_⟩
      cases f with
      | un wd a => exact absurd hd (by show ¬ a.ts.depth + 1 ≤ 0; omega)
      | bi wd a b => exact absurd hd (by show ¬ max a.ts.depth b.ts.depth + 1 ≤ 0; omega)
      | «at» a =>
        cases a with
        | always =>
          have hA : H q = some (.tup [.str "always"]) := hF
          walk_at "g"
          refine g_ixT (SqT.of hA) (v := .str "always") (by rfl) ?_
          refine g_nx ?_
          refine g_skipS rfl (show ("always" : Str) ≠ "and" by decide +kernel) ?_
          refine g_skipS rfl (show ("always" : Str) ≠ "or" by decide +kernel) ?_
          refine g_skipS rfl (show ("always" : Str) ≠ "not" by decide +kernel) ?_
          refine g_skipS rfl (show ("always" : Str) ≠ "sure" by decide +kernel) ?_
          refine g_takeS rfl ?_
          walk_at "g"
          refine ⟨rfl, fun t H9 k9 A9 => ?_⟩
          walk_at "g"
          exact k t H9 k9 A9
        | never =>
          have hA : H q = some (.tup [.str "never"]) := hF
          walk_at "g"
          refine g_ixT (SqT.of hA) (v := .str "never") (by rfl) ?_
          refine g_nx ?_
          refine g_skipS rfl (show ("never" : Str) ≠ "and" by decide +kernel) ?_
          refine g_skipS rfl (show ("never" : Str) ≠ "or" by decide +kernel) ?_
          refine g_skipS rfl (show ("never" : Str) ≠ "not" by decide +kernel) ?_
          refine g_skipS rfl (show ("never" : Str) ≠ "sure" by decide +kernel) ?_
          refine g_skipS rfl (show ("never" : Str) ≠ "always" by decide +kernel) ?_
          refine g_takeS rfl ?_
          walk_at "g"
          refine ⟨rfl, fun t H9 k9 A9 => ?_⟩
          walk_at "g"
          exact k t H9 k9 A9
        | empty c =>
          have hA : H q = some (.tup [.str "empty", .str c]) := hF
          obtain ⟨hc, _⟩ := hw
          walk_at "g"
          refine g_ixT (SqT.of hA) (v := .str "empty") (by rfl) ?_
          refine g_nx ?_
          refine g_skipS rfl (show ("empty" : Str) ≠ "and" by decide +kernel) ?_
          refine g_skipS rfl (show ("empty" : Str) ≠ "or" by decide +kernel) ?_
          refine g_skipS rfl (show ("empty" : Str) ≠ "not" by decide +kernel) ?_
          refine g_skipS rfl (show ("empty" : Str) ≠ "sure" by decide +kernel) ?_
          refine g_skipS rfl (show ("empty" : Str) ≠ "always" by decide +kernel) ?_
          refine g_skipS rfl (show ("empty" : Str) ≠ "never" by decide +kernel) ?_
          refine g_takeS rfl ?_
          walk_at "g"
          refine g_ixT (SqT.of hA) (v := .str c) (by rfl) ?_
          walk_at "g"
          refine ⟨c, rfl, hc, fun t H9 k9 A9 => ?_⟩
          walk_at "g"
          exact k t H9 k9 A9
        | among c xs =>
          obtain ⟨l, kd0, hA, hl, _, _⟩ := hF
          obtain ⟨hc, hne, h8, kd, _, hvv⟩ := hw
          walk_at "g"
          refine g_ixT (SqT.of hA) (v := .str "among") (by rfl) ?_
          refine g_nx ?_
          refine g_skipS rfl (show ("among" : Str) ≠ "and" by decide +kernel) ?_
          refine g_skipS rfl (show ("among" : Str) ≠ "or" by decide +kernel) ?_
          refine g_skipS rfl (show ("among" : Str) ≠ "not" by decide +kernel) ?_
          refine g_skipS rfl (show ("among" : Str) ≠ "sure" by decide +kernel) ?_
          refine g_skipS rfl (show ("among" : Str) ≠ "always" by decide +kernel) ?_
          refine g_skipS rfl (show ("among" : Str) ≠ "never" by decide +kernel) ?_
          refine g_skipS rfl (show ("among" : Str) ≠ "empty" by decide +kernel) ?_
          refine g_takeS rfl ?_
          walk_at "g"
          refine g_ixT (SqT.of hA) (v := .str c) (by rfl) ?_
          walk_at "g"
          refine g_ixT (SqT.of hA) (v := .ref l) (by rfl) ?_
          walk_at "g"
          refine ⟨l, xs, rfl, .inl (SqL.of hl), fun l2 hl2 => ?_⟩
          walk_at "g"
          refine ⟨c, l2, xs, kd, rfl, hc, upd_same, hne, h8, hvv, fun t H9 k9 A9 => ?_⟩
          walk_at "g"
          exact k t H9 (fun q o h => k9 _ _ (ext_new hl2 _ _ h)) A9
        | begins c z =>
          have hA : H q = some (.tup [.str "begins", .str c, .str z]) := hF
          obtain ⟨hc, _, hz⟩ := hw
          walk_at "g"
          refine g_ixT (SqT.of hA) (v := .str "begins") (by rfl) ?_
          refine g_nx ?_
          refine g_skipS rfl (show ("begins" : Str) ≠ "and" by decide +kernel) ?_
          refine g_skipS rfl (show ("begins" : Str) ≠ "or" by decide +kernel) ?_
          refine g_skipS rfl (show ("begins" : Str) ≠ "not" by decide +kernel) ?_
          refine g_skipS rfl (show ("begins" : Str) ≠ "sure" by decide +kernel) ?_
          refine g_skipS rfl (show ("begins" : Str) ≠ "always" by decide +kernel) ?_
          refine g_skipS rfl (show ("begins" : Str) ≠ "never" by decide +kernel) ?_
          refine g_skipS rfl (show ("begins" : Str) ≠ "empty" by decide +kernel) ?_
          refine g_skipS rfl (show ("begins" : Str) ≠ "among" by decide +kernel) ?_
          refine g_takeS rfl ?_
          walk_at "g"
          refine g_ixT (SqT.of hA) (v := .str c) (by rfl) ?_
          walk_at "g"
          refine g_ixT (SqT.of hA) (v := .str z) (by rfl) ?_
          walk_at "g"
          refine ⟨c, z, rfl, hc, hz, fun t H9 k9 A9 => ?_⟩
          walk_at "g"
          exact k t H9 k9 A9
        | compare c op v =>
          have hA : H q = some (.tup [.str "compare", .str c, .str op, v]) := hF
          obtain ⟨hc, ho, kd, _, hvv⟩ := hw
          walk_at "g"
          refine g_ixT (SqT.of hA) (v := .str "compare") (by rfl) ?_
          refine g_nx ?_
          refine g_skipS rfl (show ("compare" : Str) ≠ "and" by decide +kernel) ?_
          refine g_skipS rfl (show ("compare" : Str) ≠ "or" by decide +kernel) ?_
          refine g_skipS rfl (show ("compare" : Str) ≠ "not" by decide +kernel) ?_
          refine g_skipS rfl (show ("compare" : Str) ≠ "sure" by decide +kernel) ?_
          refine g_skipS rfl (show ("compare" : Str) ≠ "always" by decide +kernel) ?_
          refine g_skipS rfl (show ("compare" : Str) ≠ "never" by decide +kernel) ?_
          refine g_skipS rfl (show ("compare" : Str) ≠ "empty" by decide +kernel) ?_
          refine g_skipS rfl (show ("compare" : Str) ≠ "among" by decide +kernel) ?_
          refine g_skipS rfl (show ("compare" : Str) ≠ "begins" by decide +kernel) ?_
          refine g_takeS rfl ?_
          walk_at "g"
          refine g_ixT (SqT.of hA) (v := .str c) (by rfl) ?_
          walk_at "g"
          refine g_ixT (SqT.of hA) (v := .str op) (by rfl) ?_
          walk_at "g"
          refine g_ixT (SqT.of hA) (v := v) (by rfl) ?_
          walk_at "g"
          refine ⟨c, op, v, kd, rfl, hc, ho, hvv, fun t H9 k9 A9 => ?_⟩
          walk_at "g"
          exact k t H9 k9 A9
        | against c op d n =>
          have hA : H q = some (.tup [.str "against", .str c, .str op, .str d, .int n]) := hF
          obtain ⟨hc, hdn, hdc, ho, _⟩ := hw
          walk_at "g"
          refine g_ixT (SqT.of hA) (v := .str "against") (by rfl) ?_
          refine g_nx ?_
          refine g_skipS rfl (show ("against" : Str) ≠ "and" by decide +kernel) ?_
          refine g_skipS rfl (show ("against" : Str) ≠ "or" by decide +kernel) ?_
          refine g_skipS rfl (show ("against" : Str) ≠ "not" by decide +kernel) ?_
          refine g_skipS rfl (show ("against" : Str) ≠ "sure" by decide +kernel) ?_
          refine g_skipS rfl (show ("against" : Str) ≠ "always" by decide +kernel) ?_
          refine g_skipS rfl (show ("against" : Str) ≠ "never" by decide +kernel) ?_
          refine g_skipS rfl (show ("against" : Str) ≠ "empty" by decide +kernel) ?_
          refine g_skipS rfl (show ("against" : Str) ≠ "among" by decide +kernel) ?_
          refine g_skipS rfl (show ("against" : Str) ≠ "begins" by decide +kernel) ?_
          refine g_skipS rfl (show ("against" : Str) ≠ "compare" by decide +kernel) ?_
          walk_at "g"
          refine g_ixT (SqT.of hA) (v := .int n) (by rfl) ?_
          walk_at "g"
          refine g_dec (fun h0 => ?_) (fun h0 => ?_)
          · subst h0
            walk_at "g"
            refine g_defK ?_
            walk_at "g"
            refine g_ixT (SqT.of hA) (v := .str c) (by rfl) ?_
            walk_at "g"
            refine g_ixT (SqT.of hA) (v := .str op) (by rfl) ?_
            walk_at "g"
            refine g_ixT (SqT.of hA) (v := .str d) (by rfl) ?_
            walk_at "g"
            refine ⟨c, op, d, 0, rfl, hc, ho, hdn, hdc, fun t H9 k9 A9 => ?_⟩
            walk_at "g"
            exact k t H9 k9 A9
          · walk_at "g"
            refine g_defKw ?_
            walk_at "g"
            refine g_ixT (SqT.of hA) (v := .str c) (by rfl) ?_
            walk_at "g"
            refine g_ixT (SqT.of hA) (v := .str op) (by rfl) ?_
            walk_at "g"
            refine g_ixT (SqT.of hA) (v := .str d) (by rfl) ?_
            walk_at "g"
            refine g_ixT (SqT.of hA) (v := .int n) (by rfl) ?_
            walk_at "g"
            refine ⟨rfl, rfl, c, op, d, n, rfl, hc, ho, hdn, hdc, fun t H9 k9 A9 => ?_⟩
            walk_at "g"
            exact k t H9 k9 A9
  | succ n ih =>
    have ok__law_make : Txt K mg → Def P w K mg base (n + 6) "_law_make" ["_law_form_here"] (spMake (cadr mg "Test") n) := fun _ => ih
    obtain ⟨f, fd, h⟩ := T.d__law_make
    refine h.def (Fun.okM h.fn sc__law_make (fun vs H Q E h => ?_) (fun cdv A outer s H vs Q E hr h => ?_))
    · obtain ⟨q, f, κ, rfl, _⟩ := h
      rfl
    · obtain ⟨q, f, κ, rfl, hF, hw, hd, hd2, hz, k⟩ := h
      refine ⟨_, (pss_cons (ps_set (i := 1) sc__law_make.nd rfl (Or.inl rfl) (pe_ix (ix_seqG (K := K) rfl) (pv 0) pe_int (fun _ _ => rfl)))
  (pss_cons (ps_if (pt_cmpR op_eq (pv 1) pe_str (nomark _))
  (pss_one (ps_ret (pe_opW (op_andW (K := K) rfl takes0 (ok_Test_and T) hr T.sf_Test T.nr_Test_and (hk := by omega)) (pe_def (ok__law_make T) hr rfl (pa_cons (pe_ix (ix_seqG (K := K) rfl) (pv 0) pe_int (fun _ _ => rfl)) pa_nil) (hk := by omega)) (pe_def (ok__law_make T) hr rfl (pa_cons (pe_ix (ix_seqG (K := K) rfl) (pv 0) pe_int (fun _ _ => rfl)) pa_nil) (hk := by omega)))))
  pss_nil)
  (pss_cons (ps_if (pt_cmpR op_eq (pv 1) pe_str (nomark _))
  (pss_one (ps_ret (pe_opW (op_orW (K := K) rfl takes0 (ok_Test_or T) hr T.sf_Test T.nr_Test_or (hk := by omega)) (pe_def (ok__law_make T) hr rfl (pa_cons (pe_ix (ix_seqG (K := K) rfl) (pv 0) pe_int (fun _ _ => rfl)) pa_nil) (hk := by omega)) (pe_def (ok__law_make T) hr rfl (pa_cons (pe_ix (ix_seqG (K := K) rfl) (pv 0) pe_int (fun _ _ => rfl)) pa_nil) (hk := by omega)))))
  pss_nil)
  (pss_cons (ps_if (pt_cmpR op_eq (pv 1) pe_str (nomark _))
  (pss_one (ps_ret (pe_invW takes0 (ok_Test_invert T) hr (pe_def (ok__law_make T) hr rfl (pa_cons (pe_ix (ix_seqG (K := K) rfl) (pv 0) pe_int (fun _ _ => rfl)) pa_nil) (hk := by omega)) (hk := by omega))))
  pss_nil)
  (pss_cons (ps_if (pt_cmpR op_eq (pv 1) pe_str (nomark _))
  (pss_one (ps_ret (pe_defX takes0 (ok_sure T) hr rfl (pa_cons (pe_def (ok__law_make T) hr rfl (pa_cons (pe_ix (ix_seqG (K := K) rfl) (pv 0) pe_int (fun _ _ => rfl)) pa_nil) (hk := by omega)) pa_nil) (hk := by omega))))
  pss_nil)
  (pss_cons (ps_if (pt_cmpR op_eq (pv 1) pe_str (nomark _))
  (pss_one (ps_ret (pe_def0 (ok_always T) hr rfl (hk := by omega))))
  pss_nil)
  (pss_cons (ps_if (pt_cmpR op_eq (pv 1) pe_str (nomark _))
  (pss_one (ps_ret (pe_def0 (ok_never T) hr rfl (hk := by omega))))
  pss_nil)
  (pss_cons (ps_if (pt_cmpR op_eq (pv 1) pe_str (nomark _))
  (pss_one (ps_ret (pe_def (ok_empty T) hr rfl (pa_cons (pe_ix (ix_seqG (K := K) rfl) (pv 0) pe_int (fun _ _ => rfl)) pa_nil) (hk := by omega))))
  pss_nil)
  (pss_cons (ps_if (pt_cmpR op_eq (pv 1) pe_str (nomark _))
  (pss_one (ps_ret (pe_def (ok_among T) hr rfl (pa_cons (pe_ix (ix_seqG (K := K) rfl) (pv 0) pe_int (fun _ _ => rfl)) (pa_cons (pe_callTy (call_listG (K := K) rfl) (by rfl) T.h_list (by decide +kernel) (pa_cons (pe_ix (ix_seqG (K := K) rfl) (pv 0) pe_int (fun _ _ => rfl)) pa_nil)) pa_nil)) (hk := by omega))))
  pss_nil)
  (pss_cons (ps_if (pt_cmpR op_eq (pv 1) pe_str (nomark _))
  (pss_one (ps_ret (pe_def (ok_begins T) hr rfl (pa_cons (pe_ix (ix_seqG (K := K) rfl) (pv 0) pe_int (fun _ _ => rfl)) (pa_cons (pe_ix (ix_seqG (K := K) rfl) (pv 0) pe_int (fun _ _ => rfl)) pa_nil)) (hk := by omega))))
  pss_nil)
  (pss_cons (ps_if (pt_cmpR op_eq (pv 1) pe_str (nomark _))
  (pss_one (ps_ret (pe_def (ok_compare T) hr rfl (pa_cons (pe_ix (ix_seqG (K := K) rfl) (pv 0) pe_int (fun _ _ => rfl)) (pa_cons (pe_ix (ix_seqG (K := K) rfl) (pv 0) pe_int (fun _ _ => rfl)) (pa_cons (pe_ix (ix_seqG (K := K) rfl) (pv 0) pe_int (fun _ _ => rfl)) pa_nil))) (hk := by omega))))
  pss_nil)
  (pss_cons (ps_if (pt_cmpR op_eq (pe_ix (ix_seqG (K := K) rfl) (pv 0) pe_int (fun _ _ => rfl)) pe_int (nomark _))
  (pss_one (ps_ret (pe_defK (ok_against T) hr rfl (pa_cons (pe_ix (ix_seqG (K := K) rfl) (pv 0) pe_int (fun _ _ => rfl)) (pa_cons (pe_ix (ix_seqG (K := K) rfl) (pv 0) pe_int (fun _ _ => rfl)) (pa_cons (pe_ix (ix_seqG (K := K) rfl) (pv 0) pe_int (fun _ _ => rfl)) pa_nil))) (hk := by omega))))
  pss_nil)
  (pss_one (ps_ret (pe_defKw (ok_against T) hr rfl (pa_cons (pe_ix (ix_seqG (K := K) rfl) (pv 0) pe_int (fun _ _ => rfl)) (pa_cons (pe_ix (ix_seqG (K := K) rfl) (pv 0) pe_int (fun _ _ => rfl)) (pa_cons (pe_ix (ix_seqG (K := K) rfl) (pv 0) pe_int (fun _ _ => rfl)) pa_nil))) (pe_ix (ix_seqG (K := K) rfl) (pv 0) pe_int (fun _ _ => rfl)) (hk := by omega)))))))))))))))), ?_⟩
      cases f with
      | bi wd a b =>
        obtain ⟨q1, q2, hA, h1, h2⟩ := hF
        obtain ⟨hwd, w1, w2⟩ := hw
        have hd' : max a.ts.depth b.ts.depth + 1 ≤ n + 1 := hd
        have hd2' : max a.ts.depth b.ts.depth + 1 ≤ 12 := hd2
        have hz' : a.ts.size + b.ts.size ≤ 24 := hz
        rcases hwd with rfl | rfl
        · walk_at "g"
          refine g_ixT (SqT.of hA) (v := .str "and") (by rfl) ?_
          refine g_nx ?_
          refine g_takeS rfl ?_
          walk_at "g"
          refine g_ixT (SqT.of hA) (v := .ref q1) (by rfl) ?_
          walk_at "g"
          refine ⟨q1, a, κ, rfl, h1, w1, by omega, by omega, by omega, fun t1 H1 x1 A1 => ?_⟩
          walk_at "g"
          refine g_ixT (SqT.of (x1 _ _ hA)) (v := .ref q2) (by rfl) ?_
          walk_at "g"
          refine ⟨q2, b, κ, rfl, h2.keep x1, w2, by omega, by omega, by omega, fun t2 H2 x2 A2 => ?_⟩
          have A1' := A1.keep x2
          obtain ⟨dx1, i1, f1, u1, qs1, hp1, _⟩ := A1'.node
          obtain ⟨dx2, i2, f2, u2, qs2, hp2, _⟩ := A2.node
          refine .inl ⟨t1, t2, dx1, dx2, _, _, rfl, rfl, hp1, hp2, t1, a.ts, _, rfl, A1', .inl ⟨t2, b.ts, rfl, A2, fun h => absurd h (by show ¬ 24 < a.ts.size + b.ts.size; omega), fun _ h => absurd h (by show ¬ 12 < max a.ts.depth b.ts.depth + 1; omega), fun _ _ r H' x A => ?_⟩⟩
          walk_at "g"
          exact k r H' (fun q o h => x _ _ (x2 _ _ (x1 _ _ h))) A
        · walk_at "g"
          refine g_ixT (SqT.of hA) (v := .str "or") (by rfl) ?_
          refine g_nx ?_
          refine g_skipS rfl (show ("or" : Str) ≠ "and" by decide +kernel) ?_
          refine g_takeS rfl ?_
          walk_at "g"
          refine g_ixT (SqT.of hA) (v := .ref q1) (by rfl) ?_
          walk_at "g"
          refine ⟨q1, a, κ, rfl, h1, w1, by omega, by omega, by omega, fun t1 H1 x1 A1 => ?_⟩
          walk_at "g"
          refine g_ixT (SqT.of (x1 _ _ hA)) (v := .ref q2) (by rfl) ?_
          walk_at "g"
          refine ⟨q2, b, κ, rfl, h2.keep x1, w2, by omega, by omega, by omega, fun t2 H2 x2 A2 => ?_⟩
          have A1' := A1.keep x2
          obtain ⟨dx1, i1, f1, u1, qs1, hp1, _⟩ := A1'.node
          obtain ⟨dx2, i2, f2, u2, qs2, hp2, _⟩ := A2.node
          refine .inl ⟨t1, t2, dx1, dx2, _, _, rfl, rfl, hp1, hp2, t1, a.ts, _, rfl, A1', .inl ⟨t2, b.ts, rfl, A2, fun h => absurd h (by show ¬ 24 < a.ts.size + b.ts.size; omega), fun _ h => absurd h (by show ¬ 12 < max a.ts.depth b.ts.depth + 1; omega), fun _ _ r H' x A => ?_⟩⟩
          walk_at "g"
          exact k r H' (fun q o h => x _ _ (x2 _ _ (x1 _ _ h))) A
      | un wd a =>
        obtain ⟨q1, hA, h1⟩ := hF
        obtain ⟨hwd, w1⟩ := hw
        have hd' : a.ts.depth + 1 ≤ n + 1 := hd
        have hd2' : a.ts.depth + 1 ≤ 12 := hd2
        have hz' : a.ts.size ≤ 24 := hz
        rcases hwd with rfl | rfl
        · walk_at "g"
          refine g_ixT (SqT.of hA) (v := .str "not") (by rfl) ?_
          refine g_nx ?_
          refine g_skipS rfl (show ("not" : Str) ≠ "and" by decide +kernel) ?_
          refine g_skipS rfl (show ("not" : Str) ≠ "or" by decide +kernel) ?_
          refine g_takeS rfl ?_
          walk_at "g"
          refine g_ixT (SqT.of hA) (v := .ref q1) (by rfl) ?_
          walk_at "g"
          refine ⟨q1, a, κ, rfl, h1, w1, by omega, by omega, by omega, fun t1 H1 x1 A1 => ?_⟩
          obtain ⟨dx1, i1, f1, u1, qs1, hp1, _⟩ := A1.node
          walk_at "g"
          refine ⟨t1, dx1, _, rfl, hp1, t1, a.ts, rfl, A1, fun h => absurd h (by show ¬ 24 < a.ts.size; omega), fun _ h => absurd h (by show ¬ 12 < a.ts.depth + 1; omega), fun _ _ r H' x A => ?_⟩
          walk_at "g"
          exact k r H' (fun q o h => x _ _ (x1 _ _ h)) A
        · walk_at "g"
          refine g_ixT (SqT.of hA) (v := .str "sure") (by rfl) ?_
          refine g_nx ?_
          refine g_skipS rfl (show ("sure" : Str) ≠ "and" by decide +kernel) ?_
          refine g_skipS rfl (show ("sure" : Str) ≠ "or" by decide +kernel) ?_
          refine g_skipS rfl (show ("sure" : Str) ≠ "not" by decide +kernel) ?_
          refine g_takeS rfl ?_
          walk_at "g"
          refine g_ixT (SqT.of hA) (v := .ref q1) (by rfl) ?_
          walk_at "g"
          refine ⟨q1, a, κ, rfl, h1, w1, by omega, by omega, by omega, fun t1 H1 x1 A1 => ?_⟩
          obtain ⟨dx1, i1, f1, u1, qs1, hp1, _⟩ := A1.node
          walk_at "g"
          refine ⟨t1, a.ts, rfl, A1, fun h => absurd h (by show ¬ 24 < a.ts.size; omega), fun _ h => absurd h (by show ¬ 12 < a.ts.depth + 1; omega), fun _ _ r H' x A => ?_⟩
          walk_at "g"
          exact k r H' (fun q o h => x _ _ (x1 _ _ h)) A
      | «at» a =>
        cases a with
        | always =>
          have hA : H q = some (.tup [.str "always"]) := hF
          walk_at "g"
          refine g_ixT (SqT.of hA) (v := .str "always") (by rfl) ?_
          refine g_nx ?_
          refine g_skipS rfl (show ("always" : Str) ≠ "and" by decide +kernel) ?_
          refine g_skipS rfl (show ("always" : Str) ≠ "or" by decide +kernel) ?_
          refine g_skipS rfl (show ("always" : Str) ≠ "not" by decide +kernel) ?_
          refine g_skipS rfl (show ("always" : Str) ≠ "sure" by decide +kernel) ?_
          refine g_takeS rfl ?_
          walk_at "g"
          refine ⟨rfl, fun t H9 k9 A9 => ?_⟩
          walk_at "g"
          exact k t H9 k9 A9
        | never =>
          have hA : H q = some (.tup [.str "never"]) := hF
          walk_at "g"
          refine g_ixT (SqT.of hA) (v := .str "never") (by rfl) ?_
          refine g_nx ?_
          refine g_skipS rfl (show ("never" : Str) ≠ "and" by decide +kernel) ?_
          refine g_skipS rfl (show ("never" : Str) ≠ "or" by decide +kernel) ?_
          refine g_skipS rfl (show ("never" : Str) ≠ "not" by decide +kernel) ?_
          refine g_skipS rfl (show ("never" : Str) ≠ "sure" by decide +kernel) ?_
          refine g_skipS rfl (show ("never" : Str) ≠ "always" by decide +kernel) ?_
          refine g_takeS rfl ?_
          walk_at "g"
          refine ⟨rfl, fun t H9 k9 A9 => ?_⟩
          walk_at "g"
          exact k t H9 k9 A9
        | empty c =>
          have hA : H q = some (.tup [.str "empty", .str c]) := hF
          obtain ⟨hc, _⟩ := hw
          walk_at "g"
          refine g_ixT (SqT.of hA) (v := .str "empty") (by rfl) ?_
          refine g_nx ?_
          refine g_skipS rfl (show ("empty" : Str) ≠ "and" by decide +kernel) ?_
          refine g_skipS rfl (show ("empty" : Str) ≠ "or" by decide +kernel) ?_
          refine g_skipS rfl (show ("empty" : Str) ≠ "not" by decide +kernel) ?_
          refine g_skipS rfl (show ("empty" : Str) ≠ "sure" by decide +kernel) ?_
          refine g_skipS rfl (show ("empty" : Str) ≠ "always" by decide +kernel) ?_
          refine g_skipS rfl (show ("empty" : Str) ≠ "never" by decide +kernel) ?_
          refine g_takeS rfl ?_
          walk_at "g"
          refine g_ixT (SqT.of hA) (v := .str c) (by rfl) ?_
          walk_at "g"
          refine ⟨c, rfl, hc, fun t H9 k9 A9 => ?_⟩
          walk_at "g"
          exact k t H9 k9 A9
        | among c xs =>
          obtain ⟨l, kd0, hA, hl, _, _⟩ := hF
          obtain ⟨hc, hne, h8, kd, _, hvv⟩ := hw
          walk_at "g"
          refine g_ixT (SqT.of hA) (v := .str "among") (by rfl) ?_
          refine g_nx ?_
          refine g_skipS rfl (show ("among" : Str) ≠ "and" by decide +kernel) ?_
          refine g_skipS rfl (show ("among" : Str) ≠ "or" by decide +kernel) ?_
          refine g_skipS rfl (show ("among" : Str) ≠ "not" by decide +kernel) ?_
          refine g_skipS rfl (show ("among" : Str) ≠ "sure" by decide +kernel) ?_
          refine g_skipS rfl (show ("among" : Str) ≠ "always" by decide +kernel) ?_
          refine g_skipS rfl (show ("among" : Str) ≠ "never" by decide +kernel) ?_
          refine g_skipS rfl (show ("among" : Str) ≠ "empty" by decide +kernel) ?_
          refine g_takeS rfl ?_
          walk_at "g"
          refine g_ixT (SqT.of hA) (v := .str c) (by rfl) ?_
          walk_at "g"
          refine g_ixT (SqT.of hA) (v := .ref l) (by rfl) ?_
          walk_at "g"
          refine ⟨l, xs, rfl, .inl (SqL.of hl), fun l2 hl2 => ?_⟩
          walk_at "g"
          refine ⟨c, l2, xs, kd, rfl, hc, upd_same, hne, h8, hvv, fun t H9 k9 A9 => ?_⟩
          walk_at "g"
          exact k t H9 (fun q o h => k9 _ _ (ext_new hl2 _ _ h)) A9
        | begins c z =>
          have hA : H q = some (.tup [.str "begins", .str c, .str z]) := hF
          obtain ⟨hc, _, hz⟩ := hw
          walk_at "g"
          refine g_ixT (SqT.of hA) (v := .str "begins") (by rfl) ?_
          refine g_nx ?_
          refine g_skipS rfl (show ("begins" : Str) ≠ "and" by decide +kernel) ?_
          refine g_skipS rfl (show ("begins" : Str) ≠ "or" by decide +kernel) ?_
          refine g_skipS rfl (show ("begins" : Str) ≠ "not" by decide +kernel) ?_
          refine g_skipS rfl (show ("begins" : Str) ≠ "sure" by decide +kernel) ?_
          refine g_skipS rfl (show ("begins" : Str) ≠ "always" by decide +kernel) ?_
          refine g_skipS rfl (show ("begins" : Str) ≠ "never" by decide +kernel) ?_
          refine g_skipS rfl (show ("begins" : Str) ≠ "empty" by decide +kernel) ?_
          refine g_skipS rfl (show ("begins" : Str) ≠ "among" by decide +kernel) ?_
          refine g_takeS rfl ?_
          walk_at "g"
          refine g_ixT (SqT.of hA) (v := .str c) (by rfl) ?_
          walk_at "g"
          refine g_ixT (SqT.of hA) (v := .str z) (by rfl) ?_
          walk_at "g"
          refine ⟨c, z, rfl, hc, hz, fun t H9 k9 A9 => ?_⟩
          walk_at "g"
          exact k t H9 k9 A9
        | compare c op v =>
          have hA : H q = some (.tup [.str "compare", .str c, .str op, v]) := hF
          obtain ⟨hc, ho, kd, _, hvv⟩ := hw
          walk_at "g"
          refine g_ixT (SqT.of hA) (v := .str "compare") (by rfl) ?_
          refine g_nx ?_
          refine g_skipS rfl (show ("compare" : Str) ≠ "and" by decide +kernel) ?_
          refine g_skipS rfl (show ("compare" : Str) ≠ "or" by decide +kernel) ?_
          refine g_skipS rfl (show ("compare" : Str) ≠ "not" by decide +kernel) ?_
          refine g_skipS rfl (show ("compare" : Str) ≠ "sure" by decide +kernel) ?_
          refine g_skipS rfl (show ("compare" : Str) ≠ "always" by decide +kernel) ?_
          refine g_skipS rfl (show ("compare" : Str) ≠ "never" by decide +kernel) ?_
          refine g_skipS rfl (show ("compare" : Str) ≠ "empty" by decide +kernel) ?_
          refine g_skipS rfl (show ("compare" : Str) ≠ "among" by decide +kernel) ?_
          refine g_skipS rfl (show ("compare" : Str) ≠ "begins" by decide +kernel) ?_
          refine g_takeS rfl ?_
          walk_at "g"
          refine g_ixT (SqT.of hA) (v := .str c) (by rfl) ?_
          walk_at "g"
          refine g_ixT (SqT.of hA) (v := .str op) (by rfl) ?_
          walk_at "g"
          refine g_ixT (SqT.of hA) (v := v) (by rfl) ?_
          walk_at "g"
          refine ⟨c, op, v, kd, rfl, hc, ho, hvv, fun t H9 k9 A9 => ?_⟩
          walk_at "g"
          exact k t H9 k9 A9
        | against c op d n =>
          have hA : H q = some (.tup [.str "against", .str c, .str op, .str d, .int n]) := hF
          obtain ⟨hc, hdn, hdc, ho, _⟩ := hw
          walk_at "g"
          refine g_ixT (SqT.of hA) (v := .str "against") (by rfl) ?_
          refine g_nx ?_
          refine g_skipS rfl (show ("against" : Str) ≠ "and" by decide +kernel) ?_
          refine g_skipS rfl (show ("against" : Str) ≠ "or" by decide +kernel) ?_
          refine g_skipS rfl (show ("against" : Str) ≠ "not" by decide +kernel) ?_
          refine g_skipS rfl (show ("against" : Str) ≠ "sure" by decide +kernel) ?_
          refine g_skipS rfl (show ("against" : Str) ≠ "always" by decide +kernel) ?_
          refine g_skipS rfl (show ("against" : Str) ≠ "never" by decide +kernel) ?_
          refine g_skipS rfl (show ("against" : Str) ≠ "empty" by decide +kernel) ?_
          refine g_skipS rfl (show ("against" : Str) ≠ "among" by decide +kernel) ?_
          refine g_skipS rfl (show ("against" : Str) ≠ "begins" by decide +kernel) ?_
          refine g_skipS rfl (show ("against" : Str) ≠ "compare" by decide +kernel) ?_
          walk_at "g"
          refine g_ixT (SqT.of hA) (v := .int n) (by rfl) ?_
          walk_at "g"
          refine g_dec (fun h0 => ?_) (fun h0 => ?_)
          · subst h0
            walk_at "g"
            refine g_defK ?_
            walk_at "g"
            refine g_ixT (SqT.of hA) (v := .str c) (by rfl) ?_
            walk_at "g"
            refine g_ixT (SqT.of hA) (v := .str op) (by rfl) ?_
            walk_at "g"
            refine g_ixT (SqT.of hA) (v := .str d) (by rfl) ?_
            walk_at "g"
            refine ⟨c, op, d, 0, rfl, hc, ho, hdn, hdc, fun t H9 k9 A9 => ?_⟩
            walk_at "g"
            exact k t H9 k9 A9
          · walk_at "g"
            refine g_defKw ?_
            walk_at "g"
            refine g_ixT (SqT.of hA) (v := .str c) (by rfl) ?_
            walk_at "g"
            refine g_ixT (SqT.of hA) (v := .str op) (by rfl) ?_
            walk_at "g"
            refine g_ixT (SqT.of hA) (v := .str d) (by rfl) ?_
            walk_at "g"
            refine g_ixT (SqT.of hA) (v := .int n) (by rfl) ?_
            walk_at "g"
            refine ⟨rfl, rfl, c, op, d, n, rfl, hc, ho, hdn, hdc, fun t H9 k9 A9 => ?_⟩
            walk_at "g"
            exact k t H9 k9 A9
theorem ok__law_make (T : Txt K mg) : Def P w K mg base 18 "_law_make" ["_law_form_here"] (spMake (cadr mg "Test") 12) := ok_makeN T 12
end
section
variable {X : Cx} {K : PySem.W.Frag} {H : Hp} {Q : VK}
theorem hu64_of {A : Around} {k : Nat} (hr : Room k A) : A.units + 64 < cLine := by
  have := hr.un
  omega
theorem op_neDu (h : X.K = K) (hu : X.A.units + 64 < cLine) : OpR X (compareOp .NotEq) (rNeD K) := by subst h; exact op_neD hu
theorem op_eqDu (h : X.K = K) (hu : X.A.units + 64 < cLine) : OpR X (compareOp .Eq) (rEqD K) := by subst h; exact op_eqD hu
/-- two tuples of the same two texts -/
theorem g_neSame {p q : Addr} {a b : Str} (h1 : H p = some (.tup [.str a, .str b])) (h2 : H q = some (.tup [.str a, .str b])) (hs : SeqAt.shaped (.tuple [.str a, .str b]) = true) (he : PyData.eqv (.tuple [.str a, .str b]) (.tuple [.str a, .str b]) = true) (k : Q (.bl false) H) : rNeD K (.ref p) (.ref q) H Q :=
  ⟨.tuple [.str a, .str b], .tuple [.str a, .str b], .tup (SqT.of h1) (.cons (.str a) (.cons (.str b) .nil)), .tup (SqT.of h2) (.cons (.str a) (.cons (.str b) .nil)), hs, hs, by rw [he]; exact k⟩
end
theorem hu0_of {A : Around} {k : Nat} (hr : Room k A) : A.units < cLine := by
  have := hr.un
  omega
theorem call_sortedSG {X : Cx} {K : PySem.W.Frag} (h : X.K = K) : CallR X (.builtin "sorted") (rSortedS K) := by subst h; exact cr_sortedS
theorem form_word {H : Hp} {a : At} {q : Addr} (h : AtomForm H q a) : ∃ r, H q = some (.tup (.str a.word :: r)) := by
  cases a with
  | among c vs => obtain ⟨l, k, e, _⟩ := h; exact ⟨_, e⟩
  | always => exact ⟨_, h⟩
  | never => exact ⟨_, h⟩
  | empty c => exact ⟨_, h⟩
  | begins c z => exact ⟨_, h⟩
  | compare c op v => exact ⟨_, h⟩
  | against c op d n => exact ⟨_, h⟩
theorem atom_words (a : At) : a.word ≠ "and" ∧ a.word ≠ "or" ∧ a.word ≠ "not" ∧ a.word ≠ "sure" := by
  cases a <;> (simp only [At.word]; decide +kernel)
theorem starts_cut {y z : Str} : Txt.startswith y z = decide (cutS y none (some (z.length : Int)) = z) := by
  unfold PySem.Txt.startswith
  rw [PySem.StrLaws.subAt_eq]
  have hx : y.cps.toList.length = y.length := Array.length_toList
  have hp : z.cps.toList.length = z.length := Array.length_toList
  have hc : (cutS y none (some (z.length : Int))).cps.toList = y.cps.toList.take z.length := by
    show ((y.cps.toList.drop 0).take (HT.sIx y.length y.length (some ((z.length : Nat) : Int)) - 0)) = _
    rw [HT.sIx_nat, List.drop_zero, Nat.sub_zero]
    by_cases h : z.length ≤ y.length
    · rw [Nat.min_eq_left h]
    · rw [Nat.min_eq_right (by omega), ← hx, List.take_length, List.take_of_length_le (by omega)]
  rw [Bool.eq_iff_iff, Bool.and_eq_true, decide_eq_true_eq, decide_eq_true_eq, beq_iff_eq, List.drop_zero]
  constructor
  · rintro ⟨_, h⟩
    exact str_ext (by rw [hc]; exact h)
  · intro h
    have h2 := congrArg (fun s : Str => s.cps.toList) h
    simp only [hc] at h2
    refine ⟨?_, h2⟩
    have := congrArg List.length h2
    rw [List.length_take] at this
    omega
theorem dget_of {H : Hp} {r : Addr} {kvs : List (Key × V)} {c : Str} (hr : H r = some (.dK kvs)) (h : (valV kvs (Sum.inr c)).isSome = true) : DGet H r (.str c) (some (gOf kvs c)) := by
  obtain ⟨y, e⟩ := Option.isSome_iff_exists.mp h
  have : gOf kvs c = y := by unfold gOf; rw [e]; rfl
  rw [this, ← e]
  exact DGet.k (k := Sum.inr c) hr
section
variable {P : Program} {w : World} {K : PySem.W.Frag} {mg : Str → Option Value} {base : Heap}
theorem ok__law_compared (T : Txt K mg) : Def P w K mg base 1 "_law_compared" ["_law_one", "_law_op_here", "_law_other"] (fun vs H Q _ => ∃ x op y, vs = [x, .str op, y] ∧ sameK x y ∧ Q (.bl (cmpB op x y)) H) := by
  obtain ⟨f, fd, h⟩ := T.d__law_compared
  refine h.def (Fun.okM h.fn sc__law_compared (fun vs H Q E h => ?_) (fun cdv A outer s H vs Q E hr h => ?_))
  · obtain ⟨x, op, y, rfl, _⟩ := h
    rfl
  · obtain ⟨x, op, y, rfl, hk, k⟩ := h
    refine ⟨_, (pss_cons (ps_if (pt_cmpR op_eq (pv 1) pe_str (nomark _))
  (pss_one (ps_ret (pe_cmpR op_ltV (pv 0) (pv 2) (nomark _))))
  pss_nil)
  (pss_cons (ps_if (pt_cmpR op_eq (pv 1) pe_str (nomark _))
  (pss_one (ps_ret (pe_cmpR op_leV (pv 0) (pv 2) (nomark _))))
  pss_nil)
  (pss_cons (ps_if (pt_cmpR op_eq (pv 1) pe_str (nomark _))
  (pss_one (ps_ret (pe_cmpR op_eq (pv 0) (pv 2) (nomark _))))
  pss_nil)
  (pss_cons (ps_if (pt_cmpR op_eq (pv 1) pe_str (nomark _))
  (pss_one (ps_ret (pe_cmpR op_ne (pv 0) (pv 2) (nomark _))))
  pss_nil)
  (pss_cons (ps_if (pt_cmpR op_eq (pv 1) pe_str (nomark _))
  (pss_one (ps_ret (pe_cmpR op_gtV (pv 0) (pv 2) (nomark _))))
  pss_nil)
  (pss_one (ps_ret (pe_cmpR op_geV (pv 0) (pv 2) (nomark _))))))))), ?_⟩
    unfold cmpB at k
    walk_at "g"
    refine g_dec (fun h => ?_) (fun h => ?_)
    · rw [if_pos h] at k
      walk_at "g"
      refine ⟨hk, ?_⟩
      walk_at "g"
      exact k
    rw [if_neg h] at k
    walk_at "g"
    refine g_dec (fun h => ?_) (fun h => ?_)
    · rw [if_pos h] at k
      walk_at "g"
      refine ⟨hk, ?_⟩
      walk_at "g"
      exact k
    rw [if_neg h] at k
    walk_at "g"
    refine g_dec (fun h => ?_) (fun h => ?_)
    · rw [if_pos h] at k
      walk_at "g"
      refine ⟨same_scal hk, ?_⟩
      walk_at "g"
      exact k
    rw [if_neg h] at k
    walk_at "g"
    refine g_dec (fun h => ?_) (fun h => ?_)
    · rw [if_pos h] at k
      walk_at "g"
      refine ⟨same_scal hk, ?_⟩
      walk_at "g"
      exact k
    rw [if_neg h] at k
    walk_at "g"
    refine g_dec (fun h => ?_) (fun h => ?_)
    · rw [if_pos h] at k
      walk_at "g"
      refine ⟨hk, ?_⟩
      walk_at "g"
      exact k
    rw [if_neg h] at k
    walk_at "g"
    refine ⟨hk, ?_⟩
    walk_at "g"
    exact k
def spJoined : Sp := fun vs H Q _ => ∃ (wd : Str) (x y : V), vs = [.str wd, x, y] ∧ (wd = "and" ∨ wd = "or") ∧ isTv x ∧ isTv y ∧ Q (combV wd [x, y]) H
theorem ok__law_joined (T : Txt K mg) : Def P w K mg base 1 "_law_joined" ["_law_word", "_law_one", "_law_other"] spJoined := by
  obtain ⟨f, fd, h⟩ := T.d__law_joined
  refine h.def (Fun.okM h.fn sc__law_joined (fun vs H Q E h => ?_) (fun cdv A outer s H vs Q E hr h => ?_))
  · obtain ⟨wd, x, y, rfl, _⟩ := h
    rfl
  · obtain ⟨wd, x, y, rfl, hwd, hx, hy, k⟩ := h
    refine ⟨_, (pss_cons (ps_if (pt_cmpR op_eq (pv 0) pe_str (nomark _))
  (pss_cons (ps_if (PW.pt (pw_or (pt_cmpR op_isTv (pv 1) pe_bl (nomark _)) (pw_or1 (pt_cmpR op_isTv (pv 2) pe_bl (nomark _)))))
  (pss_one (ps_ret pe_bl))
  pss_nil)
  (pss_cons (ps_if (PW.pt (pw_or (pt_cmpR op_isNG (pv 1) pe_non (nomark _)) (pw_or1 (pt_cmpR op_isNG (pv 2) pe_non (nomark _)))))
  (pss_one (ps_ret pe_non))
  pss_nil)
  (pss_one (ps_ret pe_bl))))
  pss_nil)
  (pss_cons (ps_if (PW.pt (pw_or (pt_cmpR op_isTv (pv 1) pe_bl (nomark _)) (pw_or1 (pt_cmpR op_isTv (pv 2) pe_bl (nomark _)))))
  (pss_one (ps_ret pe_bl))
  pss_nil)
  (pss_cons (ps_if (PW.pt (pw_or (pt_cmpR op_isNG (pv 1) pe_non (nomark _)) (pw_or1 (pt_cmpR op_isNG (pv 2) pe_non (nomark _)))))
  (pss_one (ps_ret pe_non))
  pss_nil)
  (pss_one (ps_ret pe_bl))))), ?_⟩
    rcases hwd with rfl | rfl
    · have k : Q (andV x y) H := k
      unfold andV at k
      refine g_takeS rfl ?_
      walk_at "g"
      refine ⟨hx, ⟨_, rfl⟩, ?_⟩
      walk_at "g"
      refine g_dec (fun h => ?_) (fun h => ?_)
      · rw [if_pos h] at k
        walk_at "g"
        exact k
      rw [if_neg h] at k
      walk_at "g"
      refine ⟨hy, ⟨_, rfl⟩, ?_⟩
      walk_at "g"
      refine g_dec (fun h => ?_) (fun h => ?_)
      · rw [if_pos h] at k
        walk_at "g"
        exact k
      rw [if_neg h] at k
      walk_at "g"
      refine g_dec (fun h => ?_) (fun h => ?_)
      · rw [if_pos h] at k
        walk_at "g"
        exact k
      rw [if_neg h] at k
      walk_at "g"
      refine g_dec (fun h => ?_) (fun h => ?_)
      · rw [if_pos h] at k
        walk_at "g"
        exact k
      rw [if_neg h] at k
      walk_at "g"
      exact k
    · have k : Q (orV x y) H := k
      unfold orV at k
      refine g_skipS rfl (show ("or" : Str) ≠ "and" by decide +kernel) ?_
      walk_at "g"
      refine ⟨hx, ⟨_, rfl⟩, ?_⟩
      walk_at "g"
      refine g_dec (fun h => ?_) (fun h => ?_)
      · rw [if_pos h] at k
        walk_at "g"
        exact k
      rw [if_neg h] at k
      walk_at "g"
      refine ⟨hy, ⟨_, rfl⟩, ?_⟩
      walk_at "g"
      refine g_dec (fun h => ?_) (fun h => ?_)
      · rw [if_pos h] at k
        walk_at "g"
        exact k
      rw [if_neg h] at k
      walk_at "g"
      refine g_dec (fun h => ?_) (fun h => ?_)
      · rw [if_pos h] at k
        walk_at "g"
        exact k
      rw [if_neg h] at k
      walk_at "g"
      refine g_dec (fun h => ?_) (fun h => ?_)
      · rw [if_pos h] at k
        walk_at "g"
        exact k
      rw [if_neg h] at k
      walk_at "g"
      exact k
def spLawAtomT : Sp := fun vs H Q _ => ∃ (q r : Addr) (a : At) (κ : List (Str × Bool)) (kvs : List (Key × V)), vs = [.ref q, .ref r] ∧ AtomForm H q a ∧ a.Wf κ ∧ RowV κ (gOf kvs) ∧ H r = some (.dK kvs) ∧ (∀ c ∈ a.flds, (valV kvs (Sum.inr c)).isSome = true) ∧ Q (evalA (gOf kvs) a) H
theorem ok__law_atom_truth (T : Txt K mg) : Def P w K mg base 2 "_law_atom_truth" ["_law_form_here", "_law_row_here"] spLawAtomT := by
  obtain ⟨f, fd, h⟩ := T.d__law_atom_truth
  refine h.def (Fun.okM h.fn sc__law_atom_truth (fun vs H Q E h => ?_) (fun cdv A outer s H vs Q E hr h => ?_))
  · obtain ⟨q, r, a, κ, kvs, rfl, _⟩ := h
    rfl
  · obtain ⟨q, r, a, κ, kvs, rfl, hF, hw, hv, hr0, hin, k⟩ := h
    refine ⟨_, (pss_cons (ps_set (i := 2) sc__law_atom_truth.nd rfl (Or.inl rfl) (pe_ix (ix_seqG (K := K) rfl) (pv 0) pe_int (fun _ _ => rfl)))
  (pss_cons (ps_if (PW.pt (pw_or (pt_cmpR op_eq (pv 2) pe_str (nomark _)) (pw_or1 (pt_cmpR op_eq (pv 2) pe_str (nomark _)))))
  (pss_one (ps_ret (pe_cmpR op_eq (pv 2) pe_str (nomark _))))
  pss_nil)
  (pss_cons (ps_set (i := 3) sc__law_atom_truth.nd rfl (Or.inl rfl) (pe_dget (hu_of hr) (pv 1) (pe_ix (ix_seqG (K := K) rfl) (pv 0) pe_int (fun _ _ => rfl)) (fun _ _ => rfl)))
  (pss_cons (ps_if (pt_cmpR op_eq (pv 2) pe_str (nomark _))
  (pss_one (ps_ret (pe_cmpR op_isNG (pv 3) pe_non (nomark _))))
  pss_nil)
  (pss_cons (ps_if (pt_cmpR op_isNG (pv 3) pe_non (nomark _))
  (pss_one (ps_ret pe_non))
  pss_nil)
  (pss_cons (ps_if (pt_cmpR op_eq (pv 2) pe_str (nomark _))
  (pss_one (ps_ret (pe_cmpR (op_inG (K := K) rfl) (pv 3) (pe_ix (ix_seqG (K := K) rfl) (pv 0) pe_int (fun _ _ => rfl)) (by rfl))))
  pss_nil)
  (pss_cons (ps_if (pt_cmpR op_eq (pv 2) pe_str (nomark _))
  (pss_one (ps_ret (pe_cmpR op_eq (pe_slice (sl_G (K := K) rfl) (pv 3) po_none (po_some (pe_callB (call_lenG (K := K) rfl) (by rfl) T.h_len (by decide +kernel) (pa_cons (pe_ix (ix_seqG (K := K) rfl) (pv 0) pe_int (fun _ _ => rfl)) pa_nil)))) (pe_ix (ix_seqG (K := K) rfl) (pv 0) pe_int (fun _ _ => rfl)) (nomark _))))
  pss_nil)
  (pss_cons (ps_if (pt_cmpR op_eq (pv 2) pe_str (nomark _))
  (pss_one (ps_ret (pe_def (ok__law_compared T) hr rfl (pa_cons (pv 3) (pa_cons (pe_ix (ix_seqG (K := K) rfl) (pv 0) pe_int (fun _ _ => rfl)) (pa_cons (pe_ix (ix_seqG (K := K) rfl) (pv 0) pe_int (fun _ _ => rfl)) pa_nil))))))
  pss_nil)
  (pss_cons (ps_set (i := 4) sc__law_atom_truth.nd rfl (Or.inl rfl) (pe_dget (hu_of hr) (pv 1) (pe_ix (ix_seqG (K := K) rfl) (pv 0) pe_int (fun _ _ => rfl)) (fun _ _ => rfl)))
  (pss_cons (ps_if (pt_cmpR op_isNG (pv 4) pe_non (nomark _))
  (pss_one (ps_ret pe_non))
  pss_nil)
  (Evl.pss_cut (ps_if (pt_cmpR op_ne (pe_ix (ix_seqG (K := K) rfl) (pv 0) pe_int (fun _ _ => rfl)) pe_int (nomark _))
  (pss_one (ps_set (i := 4) sc__law_atom_truth.nd rfl (Or.inl rfl) (pe_op op_addG (pv 4) (pe_ix (ix_seqG (K := K) rfl) (pv 0) pe_int (fun _ _ => rfl)))))
  pss_nil)
  (pss_one (ps_ret (pe_def (ok__law_compared T) hr rfl (pa_cons (pv 3) (pa_cons (pe_ix (ix_seqG (K := K) rfl) (pv 0) pe_int (fun _ _ => rfl)) (pa_cons (pv 4) pa_nil))))))))))))))))), ?_⟩
    cases a with
    | always =>
      have hA : H q = some (.tup [.str "always"]) := hF
      walk_at "g"
      refine g_ixT (SqT.of hA) (v := .str "always") (by rfl) ?_
      walk_at "g"
      refine g_dec (fun _ => ?_) (fun h => absurd rfl h)
      walk_at "g"
      rw [decide_eq_true rfl]
      exact k
    | never =>
      have hA : H q = some (.tup [.str "never"]) := hF
      walk_at "g"
      refine g_ixT (SqT.of hA) (v := .str "never") (by rfl) ?_
      walk_at "g"
      refine g_dec (fun h => absurd h (show ("never" : Str) ≠ "always" by decide +kernel)) (fun _ => ?_)
      walk_at "g"
      refine g_dec (fun _ => ?_) (fun h => absurd rfl h)
      walk_at "g"
      rw [decide_eq_false (show ¬ ("never" : Str) = "always" by decide +kernel)]
      exact k
    | empty c =>
      have hA : H q = some (.tup [.str "empty", .str c]) := hF
      have hw := hw
      walk_at "g"
      refine g_ixT (SqT.of hA) (v := .str "empty") (by rfl) ?_
      walk_at "g"
      refine g_dec (fun h => absurd h (show ("empty" : Str) ≠ "always" by decide +kernel)) (fun _ => ?_)
      walk_at "g"
      refine g_dec (fun h => absurd h (show ("empty" : Str) ≠ "never" by decide +kernel)) (fun _ => ?_)
      walk_at "g"
      refine g_ixT (SqT.of hA) (v := .str c) (by rfl) ?_
      walk_at "g"
      have dg := dget_of hr0 (hin c List.mem_cons_self)
      refine ⟨r, _, rfl, dg, ?_⟩
      walk_at "g"
      refine g_dec (fun _ => ?_) (fun h => absurd rfl h)
      walk_at "g"
      exact k
    | among c xs =>
      obtain ⟨l, kd0, hA, hl, _, _⟩ := hF
      obtain ⟨hc, hne, h8, kd, hk, hvv⟩ := hw
      walk_at "g"
      refine g_ixT (SqT.of hA) (v := .str "among") (by rfl) ?_
      walk_at "g"
      refine g_dec (fun h => absurd h (show ("among" : Str) ≠ "always" by decide +kernel)) (fun _ => ?_)
      walk_at "g"
      refine g_dec (fun h => absurd h (show ("among" : Str) ≠ "never" by decide +kernel)) (fun _ => ?_)
      walk_at "g"
      refine g_ixT (SqT.of hA) (v := .str c) (by rfl) ?_
      walk_at "g"
      have dg := dget_of hr0 (hin c List.mem_cons_self)
      refine ⟨r, _, rfl, dg, ?_⟩
      walk_at "g"
      refine g_dec (fun h => absurd h (show ("among" : Str) ≠ "empty" by decide +kernel)) (fun _ => ?_)
      walk_at "g"
      refine g_dec (fun hn => ?_) (fun hn => ?_)
      · walk_at "g"
        have e : evalA (gOf kvs) (At.among c xs) = .non := by
          rw [evalA_vals (by refine ⟨?_, ?_, ?_⟩ <;> (simp only [At.word]; decide +kernel)), if_pos (by simp [At.flds, hn])]
        rw [e] at k
        exact k
      have e : evalA (gOf kvs) (At.among c xs) = valsE (gOf kvs) (At.among c xs) := by
        rw [evalA_vals (by refine ⟨?_, ?_, ?_⟩ <;> (simp only [At.word]; decide +kernel)), if_neg (by simp [At.flds, hn])]
      rw [e] at k
      walk_at "g"
      refine g_dec (fun _ => ?_) (fun h => absurd rfl h)
      walk_at "g"
      refine g_ixT (SqT.of hA) (v := .ref l) (by rfl) ?_
      have hg := (hv c kd hk).resolve_left hn
      refine .inr ⟨_, xs, rfl, .inl (SqL.of hl), ?_, ?_, ?_⟩
      · exact hg.flat
      · exact List.all_eq_true.mpr fun v hv => (hvv v hv).flat
      rw [if_neg Bool.false_ne_true]
      walk_at "g"
      exact k
    | begins c z =>
      have hA : H q = some (.tup [.str "begins", .str c, .str z]) := hF
      obtain ⟨hc, hk, hz⟩ := hw
      walk_at "g"
      refine g_ixT (SqT.of hA) (v := .str "begins") (by rfl) ?_
      walk_at "g"
      refine g_dec (fun h => absurd h (show ("begins" : Str) ≠ "always" by decide +kernel)) (fun _ => ?_)
      walk_at "g"
      refine g_dec (fun h => absurd h (show ("begins" : Str) ≠ "never" by decide +kernel)) (fun _ => ?_)
      walk_at "g"
      refine g_ixT (SqT.of hA) (v := .str c) (by rfl) ?_
      walk_at "g"
      have dg := dget_of hr0 (hin c List.mem_cons_self)
      refine ⟨r, _, rfl, dg, ?_⟩
      walk_at "g"
      refine g_dec (fun h => absurd h (show ("begins" : Str) ≠ "empty" by decide +kernel)) (fun _ => ?_)
      walk_at "g"
      refine g_dec (fun hn => ?_) (fun hn => ?_)
      · walk_at "g"
        have e : evalA (gOf kvs) (At.begins c z) = .non := by
          rw [evalA_vals (by refine ⟨?_, ?_, ?_⟩ <;> (simp only [At.word]; decide +kernel)), if_pos (by simp [At.flds, hn])]
        rw [e] at k
        exact k
      have e : evalA (gOf kvs) (At.begins c z) = valsE (gOf kvs) (At.begins c z) := by
        rw [evalA_vals (by refine ⟨?_, ?_, ?_⟩ <;> (simp only [At.word]; decide +kernel)), if_neg (by simp [At.flds, hn])]
      rw [e] at k
      walk_at "g"
      refine g_dec (fun h => absurd h (show ("begins" : Str) ≠ "among" by decide +kernel)) (fun _ => ?_)
      walk_at "g"
      refine g_dec (fun _ => ?_) (fun h => absurd rfl h)
      walk_at "g"
      obtain ⟨y, ey, hy1, hy2⟩ := (hv c true hk).resolve_left hn
      obtain ⟨z', ez, hz1, hz2⟩ := hz
      cases ez
      rw [ey]
      refine g_ixT (SqT.of hA) (v := .str z) (by rfl) ?_
      walk_at "g"
      refine g_lenS (Nat.le_trans hz1 (by decide)) ?_
      walk_at "g"
      refine g_slS (Nat.le_trans hy1 (by decide)) ?_
      walk_at "g"
      refine g_ixT (SqT.of hA) (v := .str z) (by rfl) ?_
      walk_at "g"
      have e : valsE (gOf kvs) (.begins c z) = .bl (decide (cutS y none (some (z.length : Int)) = z)) := by
        show V.bl (startsV (gOf kvs c) z) = _
        rw [ey]
        exact congrArg V.bl starts_cut
      rw [e] at k
      exact k
    | compare c op v =>
      have hA : H q = some (.tup [.str "compare", .str c, .str op, v]) := hF
      obtain ⟨hc, ho, kd, hk, hvv⟩ := hw
      walk_at "g"
      refine g_ixT (SqT.of hA) (v := .str "compare") (by rfl) ?_
      walk_at "g"
      refine g_dec (fun h => absurd h (show ("compare" : Str) ≠ "always" by decide +kernel)) (fun _ => ?_)
      walk_at "g"
      refine g_dec (fun h => absurd h (show ("compare" : Str) ≠ "never" by decide +kernel)) (fun _ => ?_)
      walk_at "g"
      refine g_ixT (SqT.of hA) (v := .str c) (by rfl) ?_
      walk_at "g"
      have dg := dget_of hr0 (hin c List.mem_cons_self)
      refine ⟨r, _, rfl, dg, ?_⟩
      walk_at "g"
      refine g_dec (fun h => absurd h (show ("compare" : Str) ≠ "empty" by decide +kernel)) (fun _ => ?_)
      walk_at "g"
      refine g_dec (fun hn => ?_) (fun hn => ?_)
      · walk_at "g"
        have e : evalA (gOf kvs) (At.compare c op v) = .non := by
          rw [evalA_vals (by refine ⟨?_, ?_, ?_⟩ <;> (simp only [At.word]; decide +kernel)), if_pos (by simp [At.flds, hn])]
        rw [e] at k
        exact k
      have e : evalA (gOf kvs) (At.compare c op v) = valsE (gOf kvs) (At.compare c op v) := by
        rw [evalA_vals (by refine ⟨?_, ?_, ?_⟩ <;> (simp only [At.word]; decide +kernel)), if_neg (by simp [At.flds, hn])]
      rw [e] at k
      walk_at "g"
      refine g_dec (fun h => absurd h (show ("compare" : Str) ≠ "among" by decide +kernel)) (fun _ => ?_)
      walk_at "g"
      refine g_dec (fun h => absurd h (show ("compare" : Str) ≠ "begins" by decide +kernel)) (fun _ => ?_)
      walk_at "g"
      refine g_dec (fun _ => ?_) (fun h => absurd rfl h)
      walk_at "g"
      refine g_ixT (SqT.of hA) (v := .str op) (by rfl) ?_
      walk_at "g"
      refine g_ixT (SqT.of hA) (v := v) (by rfl) ?_
      walk_at "g"
      refine ⟨_, _, _, rfl, ((hv c kd hk).resolve_left hn).same hvv, ?_⟩
      walk_at "g"
      exact k
    | against c op d n =>
      have hA : H q = some (.tup [.str "against", .str c, .str op, .str d, .int n]) := hF
      obtain ⟨hc, hd, hdc, ho, kd, hk1, hk2, hkn⟩ := hw
      walk_at "g"
      refine g_ixT (SqT.of hA) (v := .str "against") (by rfl) ?_
      walk_at "g"
      refine g_dec (fun h => absurd h (show ("against" : Str) ≠ "always" by decide +kernel)) (fun _ => ?_)
      walk_at "g"
      refine g_dec (fun h => absurd h (show ("against" : Str) ≠ "never" by decide +kernel)) (fun _ => ?_)
      walk_at "g"
      refine g_ixT (SqT.of hA) (v := .str c) (by rfl) ?_
      walk_at "g"
      have dg := dget_of hr0 (hin c List.mem_cons_self)
      refine ⟨r, _, rfl, dg, ?_⟩
      walk_at "g"
      refine g_dec (fun h => absurd h (show ("against" : Str) ≠ "empty" by decide +kernel)) (fun _ => ?_)
      walk_at "g"
      refine g_dec (fun hn => ?_) (fun hn => ?_)
      · walk_at "g"
        have e : evalA (gOf kvs) (At.against c op d n) = .non := by
          rw [evalA_vals (by refine ⟨?_, ?_, ?_⟩ <;> (simp only [At.word]; decide +kernel)), if_pos (by simp [At.flds, hn])]
        rw [e] at k
        exact k
      walk_at "g"
      refine g_dec (fun h => absurd h (show ("against" : Str) ≠ "among" by decide +kernel)) (fun _ => ?_)
      walk_at "g"
      refine g_dec (fun h => absurd h (show ("against" : Str) ≠ "begins" by decide +kernel)) (fun _ => ?_)
      walk_at "g"
      refine g_dec (fun h => absurd h (show ("against" : Str) ≠ "compare" by decide +kernel)) (fun _ => ?_)
      walk_at "g"
      refine g_ixT (SqT.of hA) (v := .str d) (by rfl) ?_
      walk_at "g"
      have dg2 := dget_of hr0 (hin d (List.mem_cons_of_mem _ List.mem_cons_self))
      refine ⟨r, _, rfl, dg2, ?_⟩
      walk_at "g"
      refine g_dec (fun hn2 => ?_) (fun hn2 => ?_)
      · walk_at "g"
        have e : evalA (gOf kvs) (At.against c op d n) = .non := by
          rw [evalA_vals (by refine ⟨?_, ?_, ?_⟩ <;> (simp only [At.word]; decide +kernel)), if_pos (by simp [At.flds, hn2])]
        rw [e] at k
        exact k
      have e : evalA (gOf kvs) (At.against c op d n) = valsE (gOf kvs) (At.against c op d n) := by
        rw [evalA_vals (by refine ⟨?_, ?_, ?_⟩ <;> (simp only [At.word]; decide +kernel)), if_neg (by simp [At.flds, hn, hn2])]
      rw [e] at k
      have hg1 := (hv c kd hk1).resolve_left hn
      have hg2 := (hv d kd hk2).resolve_left hn2
      walk_at "g"
      refine g_cutA (M := fun σ' H' => σ' = [some (.ref q), some (.ref r), some (.str "against"), some (gOf kvs c), some (movV (gOf kvs d) n)] ∧ H' = H) (fun D1' hn1 _ _ _ => ?_) ?_
      · walk_at "g"
        refine g_ixT (SqT.of hA) (v := .int n) (by rfl) ?_
        walk_at "g"
        refine g_ndec (fun h0 => ?_) (fun h0 => ?_)
        · walk_at "g"
          cases kd with
          | true => exact absurd (hkn rfl) h0
          | false =>
            obtain ⟨i, ei⟩ := hg2
            rw [ei]
            refine g_ixT (SqT.of hA) (v := .int n) (by rfl) ?_
            walk_at "g"
            refine hn1 _ _ ⟨?_, rfl⟩
            rw [ei]
            rfl
        · walk_at "g"
          refine hn1 _ _ ⟨?_, rfl⟩
          have : movV (gOf kvs d) n = gOf kvs d := by
            rw [h0]
            generalize gOf kvs d = x
            cases x <;> first | rfl | exact congrArg V.int (Int.add_zero _)
          rw [this]
          rfl
      rintro σ' H1 ⟨rfl, rfl⟩
      walk_at "g"
      refine g_ixT (SqT.of hA) (v := .str op) (by rfl) ?_
      walk_at "g"
      refine ⟨_, _, _, rfl, hg1.same (hg2.mov hkn), ?_⟩
      walk_at "g"
      exact k
def spLawTruth (n : Nat) : Sp := fun vs H Q _ => ∃ (q r : Addr) (f : Fm) (κ : List (Str × Bool)) (kvs : List (Key × V)), vs = [.ref q, .ref r] ∧ FormAt H f q ∧ f.Wf κ ∧ f.ts.depth ≤ n ∧ RowV κ (gOf kvs) ∧ H r = some (.dK kvs) ∧ (∀ c ∈ f.cols, (valV kvs (Sum.inr c)).isSome = true) ∧ Q (evalF (gOf kvs) f) H
theorem ok_lawTruthN (T : Txt K mg) : ∀ n, Def P w K mg base (n + 4) "_law_truth" ["_law_form_here", "_law_row_here"] (spLawTruth n) := by
  intro n
  induction n with
  | zero =>
    obtain ⟨f, fd, h⟩ := T.d__law_truth
    refine h.def (Fun.okM h.fn sc__law_truth (fun vs H Q E h => ?_) (fun cdv A outer s H vs Q E hr h => ?_))
    · obtain ⟨q, r, f, κ, kvs, rfl, _⟩ := h
      rfl
    · obtain ⟨q, r, f, κ, kvs, rfl, hF, hw, hd, hv, hr0, hin, k⟩ := h
      refine ⟨_, (pss_cons (ps_set (i := 2) sc__law_truth.nd rfl (Or.inl rfl) (pe_ix (ix_seqG (K := K) rfl) (pv 0) pe_int (fun _ _ => rfl)))
  (pss_cons (ps_if (PW.pt (pw_or (pt_cmpR op_eq (pv 2) pe_str (nomark _)) (pw_or1 (pt_cmpR op_eq (pv 2) pe_str (nomark _)))))
  (pss_one ps_never)
  pss_nil)
  (pss_cons (ps_if (pt_cmpR op_eq (pv 2) pe_str (nomark _))
  (pss_cons ps_never
  (pss_cons (ps_if (pt_cmpR op_isNG (pv 3) pe_non (nomark _))
  (pss_one (ps_ret pe_non))
  pss_nil)
  (pss_one (ps_ret (pe_not (pv 3))))))
  pss_nil)
  (pss_cons (ps_if (pt_cmpR op_eq (pv 2) pe_str (nomark _))
  (pss_one ps_never)
  pss_nil)
  (pss_one (ps_ret (pe_def (ok__law_atom_truth T) hr rfl (pa_cons (pv 0) (pa_cons (pv 1) pa_nil)) (hk := by omega)))))))), ?_⟩
      cases f with
      | un wd a => exact absurd hd (by show ¬ a.ts.depth + 1 ≤ 0; omega)
      | bi wd a b => exact absurd hd (by show ¬ max a.ts.depth b.ts.depth + 1 ≤ 0; omega)
      | «at» a =>
        obtain ⟨rr, hA⟩ := form_word hF
        obtain ⟨n1, n2, n3, n4⟩ := atom_words a
        walk_at "g"
        refine g_ixT (SqT.of hA) (v := .str a.word) (atI_nat (j := 0) rfl) ?_
        walk_at "g"
        refine g_dec (fun h => absurd h n1) (fun _ => ?_)
        walk_at "g"
        refine g_dec (fun h => absurd h n2) (fun _ => ?_)
        walk_at "g"
        refine g_dec (fun h => absurd h n3) (fun _ => ?_)
        walk_at "g"
        refine g_dec (fun h => absurd h n4) (fun _ => ?_)
        walk_at "g"
        refine ⟨q, r, a, κ, kvs, rfl, hF, hw, hv, hr0, hin, ?_⟩
        walk_at "g"
        exact k
  | succ n ih =>
    have ok__law_truth : Txt K mg → Def P w K mg base (n + 4) "_law_truth" ["_law_form_here", "_law_row_here"] (spLawTruth n) := fun _ => ih
    obtain ⟨f, fd, h⟩ := T.d__law_truth
    refine h.def (Fun.okM h.fn sc__law_truth (fun vs H Q E h => ?_) (fun cdv A outer s H vs Q E hr h => ?_))
    · obtain ⟨q, r, f, κ, kvs, rfl, _⟩ := h
      rfl
    · obtain ⟨q, r, f, κ, kvs, rfl, hF, hw, hd, hv, hr0, hin, k⟩ := h
      refine ⟨_, (pss_cons (ps_set (i := 2) sc__law_truth.nd rfl (Or.inl rfl) (pe_ix (ix_seqG (K := K) rfl) (pv 0) pe_int (fun _ _ => rfl)))
  (pss_cons (ps_if (PW.pt (pw_or (pt_cmpR op_eq (pv 2) pe_str (nomark _)) (pw_or1 (pt_cmpR op_eq (pv 2) pe_str (nomark _)))))
  (pss_one (ps_ret (pe_def (ok__law_joined T) hr rfl (pa_cons (pv 2) (pa_cons (pe_def (ok__law_truth T) hr rfl (pa_cons (pe_ix (ix_seqG (K := K) rfl) (pv 0) pe_int (fun _ _ => rfl)) (pa_cons (pv 1) pa_nil)) (hk := by omega)) (pa_cons (pe_def (ok__law_truth T) hr rfl (pa_cons (pe_ix (ix_seqG (K := K) rfl) (pv 0) pe_int (fun _ _ => rfl)) (pa_cons (pv 1) pa_nil)) (hk := by omega)) pa_nil))) (hk := by omega))))
  pss_nil)
  (pss_cons (ps_if (pt_cmpR op_eq (pv 2) pe_str (nomark _))
  (pss_cons (ps_set (i := 3) sc__law_truth.nd rfl (Or.inl rfl) (pe_def (ok__law_truth T) hr rfl (pa_cons (pe_ix (ix_seqG (K := K) rfl) (pv 0) pe_int (fun _ _ => rfl)) (pa_cons (pv 1) pa_nil)) (hk := by omega)))
  (pss_cons (ps_if (pt_cmpR op_isNG (pv 3) pe_non (nomark _))
  (pss_one (ps_ret pe_non))
  pss_nil)
  (pss_one (ps_ret (pe_not (pv 3))))))
  pss_nil)
  (pss_cons (ps_if (pt_cmpR op_eq (pv 2) pe_str (nomark _))
  (pss_one (ps_ret (pe_cmpR op_isTv (pe_def (ok__law_truth T) hr rfl (pa_cons (pe_ix (ix_seqG (K := K) rfl) (pv 0) pe_int (fun _ _ => rfl)) (pa_cons (pv 1) pa_nil)) (hk := by omega)) pe_bl (nomark _))))
  pss_nil)
  (pss_one (ps_ret (pe_def (ok__law_atom_truth T) hr rfl (pa_cons (pv 0) (pa_cons (pv 1) pa_nil)) (hk := by omega)))))))), ?_⟩
      cases f with
      | «at» a =>
        obtain ⟨rr, hA⟩ := form_word hF
        obtain ⟨n1, n2, n3, n4⟩ := atom_words a
        walk_at "g"
        refine g_ixT (SqT.of hA) (v := .str a.word) (atI_nat (j := 0) rfl) ?_
        walk_at "g"
        refine g_dec (fun h => absurd h n1) (fun _ => ?_)
        walk_at "g"
        refine g_dec (fun h => absurd h n2) (fun _ => ?_)
        walk_at "g"
        refine g_dec (fun h => absurd h n3) (fun _ => ?_)
        walk_at "g"
        refine g_dec (fun h => absurd h n4) (fun _ => ?_)
        walk_at "g"
        refine ⟨q, r, a, κ, kvs, rfl, hF, hw, hv, hr0, hin, ?_⟩
        walk_at "g"
        exact k
      | bi wd a b =>
        obtain ⟨q1, q2, hA, h1, h2⟩ := hF
        obtain ⟨hwd, w1, w2⟩ := hw
        have hd' : max a.ts.depth b.ts.depth + 1 ≤ n + 1 := hd
        have c1 : ∀ c ∈ a.cols, (valV kvs (Sum.inr c)).isSome = true := fun c hc => hin c (List.mem_append.mpr (.inl hc))
        have c2 : ∀ c ∈ b.cols, (valV kvs (Sum.inr c)).isSome = true := fun c hc => hin c (List.mem_append.mpr (.inr hc))
        walk_at "g"
        refine g_ixT (SqT.of hA) (v := .str wd) (by rfl) ?_
        walk_at "g"
        refine g_dec (fun hx => ?_) (fun hx => ?_)
        rotate_left
        · walk_at "g"
          refine g_dec (fun hy => ?_) (fun hy => absurd hwd (fun z => z.elim hx hy))
          walk_at "g"
          refine g_ixT (SqT.of hA) (v := .ref q1) (by rfl) ?_
          walk_at "g"
          refine ⟨q1, r, a, κ, kvs, rfl, h1, w1, by omega, hv, hr0, c1, ?_⟩
          walk_at "g"
          refine g_ixT (SqT.of hA) (v := .ref q2) (by rfl) ?_
          walk_at "g"
          refine ⟨q2, r, b, κ, kvs, rfl, h2, w2, by omega, hv, hr0, c2, ?_⟩
          walk_at "g"
          refine ⟨wd, _, _, rfl, hwd, evalF_tv _ _, evalF_tv _ _, ?_⟩
          walk_at "g"
          exact k
        walk_at "g"
        refine g_ixT (SqT.of hA) (v := .ref q1) (by rfl) ?_
        walk_at "g"
        refine ⟨q1, r, a, κ, kvs, rfl, h1, w1, by omega, hv, hr0, c1, ?_⟩
        walk_at "g"
        refine g_ixT (SqT.of hA) (v := .ref q2) (by rfl) ?_
        walk_at "g"
        refine ⟨q2, r, b, κ, kvs, rfl, h2, w2, by omega, hv, hr0, c2, ?_⟩
        walk_at "g"
        refine ⟨wd, _, _, rfl, hwd, evalF_tv _ _, evalF_tv _ _, ?_⟩
        walk_at "g"
        exact k
      | un wd a =>
        obtain ⟨q1, hA, h1⟩ := hF
        obtain ⟨hwd, w1⟩ := hw
        have hd' : a.ts.depth + 1 ≤ n + 1 := hd
        rcases hwd with rfl | rfl
        · walk_at "g"
          refine g_ixT (SqT.of hA) (v := .str "not") (by rfl) ?_
          walk_at "g"
          refine g_dec (fun h => absurd h (show ("not" : Str) ≠ "and" by decide +kernel)) (fun _ => ?_)
          walk_at "g"
          refine g_dec (fun h => absurd h (show ("not" : Str) ≠ "or" by decide +kernel)) (fun _ => ?_)
          walk_at "g"
          refine g_dec (fun _ => ?_) (fun h => absurd rfl h)
          walk_at "g"
          refine g_ixT (SqT.of hA) (v := .ref q1) (by rfl) ?_
          walk_at "g"
          refine ⟨q1, r, a, κ, kvs, rfl, h1, w1, by omega, hv, hr0, hin, ?_⟩
          have k : Q (notV (evalF (gOf kvs) a)) H := k
          rcases evalF_tv (gOf kvs) a with e | ⟨b, e⟩
          · rw [e] at k ⊢
            walk_at "g"
            exact k
          · rw [e] at k ⊢
            walk_at "g"
            exact k
        · walk_at "g"
          refine g_ixT (SqT.of hA) (v := .str "sure") (by rfl) ?_
          walk_at "g"
          refine g_dec (fun h => absurd h (show ("sure" : Str) ≠ "and" by decide +kernel)) (fun _ => ?_)
          walk_at "g"
          refine g_dec (fun h => absurd h (show ("sure" : Str) ≠ "or" by decide +kernel)) (fun _ => ?_)
          walk_at "g"
          refine g_dec (fun h => absurd h (show ("sure" : Str) ≠ "not" by decide +kernel)) (fun _ => ?_)
          walk_at "g"
          refine g_dec (fun _ => ?_) (fun h => absurd rfl h)
          walk_at "g"
          refine g_ixT (SqT.of hA) (v := .ref q1) (by rfl) ?_
          walk_at "g"
          refine ⟨q1, r, a, κ, kvs, rfl, h1, w1, by omega, hv, hr0, hin, ?_⟩
          walk_at "g"
          refine ⟨evalF_tv _ _, ⟨_, rfl⟩, ?_⟩
          walk_at "g"
          exact k
theorem ok__law_truth (T : Txt K mg) : Def P w K mg base 16 "_law_truth" ["_law_form_here", "_law_row_here"] (spLawTruth 12) := ok_lawTruthN T 12
end
/-! names of a form -/
def Fm.ats : Fm → List At
  | .at a => [a]
  | .un _ f => f.ats
  | .bi _ f g => f.ats ++ g.ats
theorem Fm.ats_cols : ∀ f : Fm, f.ats.flatMap At.flds = f.cols
  | .at a => by simp [ats, cols]
  | .un _ f => f.ats_cols
  | .bi _ f g => by
    have h1 := f.ats_cols
    have h2 := g.ats_cols
    simp only [ats, cols, List.flatMap_append]
    rw [h1, h2]
theorem Fm.ats_len : ∀ f : Fm, f.ats.length = f.ts.size
  | .at _ => rfl
  | .un _ f => f.ats_len
  | .bi _ f g => by
    show (f.ats ++ g.ats).length = f.ts.size + g.ts.size
    rw [List.length_append, f.ats_len, g.ats_len]
theorem At.flds_len (a : At) : a.flds.length ≤ 2 := by cases a <;> simp [At.flds]
def spLawAtoms (n : Nat) : Sp := fun vs H Q _ => ∃ (q : Addr) (f : Fm) (G : Hp), vs = [.ref q] ∧ (∀ q o, G q = some o → H q = some o) ∧ FormAt G f q ∧ (∃ κ, f.Wf κ) ∧ f.ts.depth ≤ n ∧ f.ts.size ≤ 24 ∧ ∀ l as H', H l = none → (∀ q o, H q = some o → H' q = some o) → H' l = some (.lst (as.map V.ref)) → RF (FormAt G) (f.ats.map Fm.at) as → Q (.ref l) H'
def spAtomNames : Sp := fun vs H Q _ => ∃ (q : Addr) (a : At), vs = [.ref q] ∧ AtomForm H q a ∧ ∀ l, H l = none → Q (.ref l) (upd H l (.lst (a.flds.map V.str)))
def spLawNames : Sp := fun vs H Q _ => ∃ (q : Addr) (f : Fm), vs = [.ref q] ∧ FormAt H f q ∧ (∃ κ, f.Wf κ) ∧ f.ts.depth ≤ 12 ∧ f.ts.size ≤ 24 ∧ ∀ zs L H', H L = none → (∀ q o, H q = some o → H' q = some o) → H' L = some (.lst (zs.map V.str)) → PyProof.Rows.sortedS zs = true → zs.Nodup → (∀ k, k ∈ zs ↔ k ∈ f.cols) → Q (.ref L) H'
section
variable {P : Program} {w : World} {K : PySem.W.Frag} {mg : Str → Option Value} {base : Heap}
theorem ok_lawAtomsN (T : Txt K mg) : ∀ n, Def P w K mg base (n + 1) "_law_atoms" ["_law_form_here"] (spLawAtoms n) := by
  intro n
  induction n with
  | zero =>
    obtain ⟨f, fd, h⟩ := T.d__law_atoms
    refine h.def (Fun.okM h.fn sc__law_atoms (fun vs H Q E h => ?_) (fun cdv A outer s H vs Q E hr h => ?_))
    · obtain ⟨q, f, G, rfl, _⟩ := h
      rfl
    · obtain ⟨q, f, G, rfl, hG, hF, ⟨κ, hw⟩, hd, hz, k⟩ := h
      refine ⟨_, (pss_cons (ps_if (PW.pt (pw_or (pt_cmpR op_eq (pe_ix (ix_seqG (K := K) rfl) (pv 0) pe_int (fun _ _ => rfl)) pe_str (nomark _)) (pw_or1 (pt_cmpR op_eq (pe_ix (ix_seqG (K := K) rfl) (pv 0) pe_int (fun _ _ => rfl)) pe_str (nomark _)))))
  (pss_one ps_never)
  pss_nil)
  (pss_cons (ps_if (PW.pt (pw_or (pt_cmpR op_eq (pe_ix (ix_seqG (K := K) rfl) (pv 0) pe_int (fun _ _ => rfl)) pe_str (nomark _)) (pw_or1 (pt_cmpR op_eq (pe_ix (ix_seqG (K := K) rfl) (pv 0) pe_int (fun _ _ => rfl)) pe_str (nomark _)))))
  (pss_one ps_never)
  pss_nil)
  (pss_one (ps_ret (pe_lst (pa_cons (pv 0) pa_nil)))))), ?_⟩
      cases f with
      | un wd a => exact absurd hd (by show ¬ a.ts.depth + 1 ≤ 0; omega)
      | bi wd a b => exact absurd hd (by show ¬ max a.ts.depth b.ts.depth + 1 ≤ 0; omega)
      | «at» a =>
        obtain ⟨rr, hA⟩ := form_word hF
        have hA := hG _ _ hA
        obtain ⟨n1, n2, n3, n4⟩ := atom_words a
        walk_at "g"
        refine g_ixT (SqT.of hA) (v := .str a.word) (atI_nat (j := 0) rfl) ?_
        walk_at "g"
        refine g_dec (fun h => absurd h n1) (fun _ => ?_)
        walk_at "g"
        refine g_ixT (SqT.of hA) (v := .str a.word) (atI_nat (j := 0) rfl) ?_
        walk_at "g"
        refine g_dec (fun h => absurd h n2) (fun _ => ?_)
        walk_at "g"
        refine g_ixT (SqT.of hA) (v := .str a.word) (atI_nat (j := 0) rfl) ?_
        walk_at "g"
        refine g_dec (fun h => absurd h n3) (fun _ => ?_)
        walk_at "g"
        refine g_ixT (SqT.of hA) (v := .str a.word) (atI_nat (j := 0) rfl) ?_
        walk_at "g"
        refine g_dec (fun h => absurd h n4) (fun _ => ?_)
        walk_at "g"
        refine ⟨by show 1 ≤ sizeLine; decide, fun l hl => ?_⟩
        walk_at "g"
        exact k l [q] _ hl (ext_new hl) upd_same (.cons hF .nil)
  | succ n ih =>
    have ok__law_atoms : Txt K mg → Def P w K mg base (n + 1) "_law_atoms" ["_law_form_here"] (spLawAtoms n) := fun _ => ih
    obtain ⟨f, fd, h⟩ := T.d__law_atoms
    refine h.def (Fun.okM h.fn sc__law_atoms (fun vs H Q E h => ?_) (fun cdv A outer s H vs Q E hr h => ?_))
    · obtain ⟨q, f, G, rfl, _⟩ := h
      rfl
    · obtain ⟨q, f, G, rfl, hG, hF, ⟨κ, hw⟩, hd, hz, k⟩ := h
      refine ⟨_, (pss_cons (ps_if (PW.pt (pw_or (pt_cmpR op_eq (pe_ix (ix_seqG (K := K) rfl) (pv 0) pe_int (fun _ _ => rfl)) pe_str (nomark _)) (pw_or1 (pt_cmpR op_eq (pe_ix (ix_seqG (K := K) rfl) (pv 0) pe_int (fun _ _ => rfl)) pe_str (nomark _)))))
  (pss_one (ps_ret (pe_op op_addG (pe_def (ok__law_atoms T) hr rfl (pa_cons (pe_ix (ix_seqG (K := K) rfl) (pv 0) pe_int (fun _ _ => rfl)) pa_nil) (hk := by omega)) (pe_def (ok__law_atoms T) hr rfl (pa_cons (pe_ix (ix_seqG (K := K) rfl) (pv 0) pe_int (fun _ _ => rfl)) pa_nil) (hk := by omega)))))
  pss_nil)
  (pss_cons (ps_if (PW.pt (pw_or (pt_cmpR op_eq (pe_ix (ix_seqG (K := K) rfl) (pv 0) pe_int (fun _ _ => rfl)) pe_str (nomark _)) (pw_or1 (pt_cmpR op_eq (pe_ix (ix_seqG (K := K) rfl) (pv 0) pe_int (fun _ _ => rfl)) pe_str (nomark _)))))
  (pss_one (ps_ret (pe_def (ok__law_atoms T) hr rfl (pa_cons (pe_ix (ix_seqG (K := K) rfl) (pv 0) pe_int (fun _ _ => rfl)) pa_nil) (hk := by omega))))
  pss_nil)
  (pss_one (ps_ret (pe_lst (pa_cons (pv 0) pa_nil)))))), ?_⟩
      cases f with
      | «at» a =>
        obtain ⟨rr, hA⟩ := form_word hF
        have hA := hG _ _ hA
        obtain ⟨n1, n2, n3, n4⟩ := atom_words a
        walk_at "g"
        refine g_ixT (SqT.of hA) (v := .str a.word) (atI_nat (j := 0) rfl) ?_
        walk_at "g"
        refine g_dec (fun h => absurd h n1) (fun _ => ?_)
        walk_at "g"
        refine g_ixT (SqT.of hA) (v := .str a.word) (atI_nat (j := 0) rfl) ?_
        walk_at "g"
        refine g_dec (fun h => absurd h n2) (fun _ => ?_)
        walk_at "g"
        refine g_ixT (SqT.of hA) (v := .str a.word) (atI_nat (j := 0) rfl) ?_
        walk_at "g"
        refine g_dec (fun h => absurd h n3) (fun _ => ?_)
        walk_at "g"
        refine g_ixT (SqT.of hA) (v := .str a.word) (atI_nat (j := 0) rfl) ?_
        walk_at "g"
        refine g_dec (fun h => absurd h n4) (fun _ => ?_)
        walk_at "g"
        refine ⟨by show 1 ≤ sizeLine; decide, fun l hl => ?_⟩
        walk_at "g"
        exact k l [q] _ hl (ext_new hl) upd_same (.cons hF .nil)
      | bi wd a b =>
        obtain ⟨q1, q2, hA, h1, h2⟩ := hF
        have hA := hG _ _ hA
        obtain ⟨hwd, w1, w2⟩ := hw
        have hd' : max a.ts.depth b.ts.depth + 1 ≤ n + 1 := hd
        have hz' : a.ts.size + b.ts.size ≤ 24 := hz
        walk_at "g"
        refine g_ixT (SqT.of hA) (v := .str wd) (by rfl) ?_
        walk_at "g"
        refine g_dec (fun hx => ?_) (fun hx => ?_)
        rotate_left
        · walk_at "g"
          refine g_ixT (SqT.of hA) (v := .str wd) (by rfl) ?_
          walk_at "g"
          refine g_dec (fun hy => ?_) (fun hy => absurd hwd (fun z => z.elim hx hy))
          walk_at "g"
          refine g_ixT (SqT.of hA) (v := .ref q1) (by rfl) ?_
          walk_at "g"
          refine ⟨q1, a, G, rfl, hG, h1, ⟨κ, w1⟩, by omega, by omega, fun l1 as1 H1 hl1 x1 e1 R1 => ?_⟩
          walk_at "g"
          refine g_ixT (SqT.of (x1 _ _ hA)) (v := .ref q2) (by rfl) ?_
          walk_at "g"
          refine ⟨q2, b, G, rfl, fun q o h => x1 _ _ (hG _ _ h), h2, ⟨κ, w2⟩, by omega, by omega, fun l2 as2 H2 hl2 x2 e2 R2 => ?_⟩
          have n1 := R1.len
          have n2 := R2.len
          rw [List.length_map, Fm.ats_len] at n1 n2
          refine .inr (.inr ⟨l1, l2, _, _, rfl, rfl, x2 _ _ e1, e2, by rw [List.length_map, List.length_map, sizeLine_eq]; omega, fun l hl => ?_⟩)
          walk_at "g"
          refine k l (as1 ++ as2) _ ?_ (fun q o h => ext_new hl _ _ (x2 _ _ (x1 _ _ h))) (by rw [upd_same, List.map_append]) ?_
          · cases e : H l with
            | none => rfl
            | some o => rw [x2 _ _ (x1 _ _ e)] at hl; cases hl
          · show RF _ ((a.ats ++ b.ats).map Fm.at) _
            rw [List.map_append]
            exact R1.app R2
        walk_at "g"
        refine g_ixT (SqT.of hA) (v := .ref q1) (by rfl) ?_
        walk_at "g"
        refine ⟨q1, a, G, rfl, hG, h1, ⟨κ, w1⟩, by omega, by omega, fun l1 as1 H1 hl1 x1 e1 R1 => ?_⟩
        walk_at "g"
        refine g_ixT (SqT.of (x1 _ _ hA)) (v := .ref q2) (by rfl) ?_
        walk_at "g"
        refine ⟨q2, b, G, rfl, fun q o h => x1 _ _ (hG _ _ h), h2, ⟨κ, w2⟩, by omega, by omega, fun l2 as2 H2 hl2 x2 e2 R2 => ?_⟩
        have n1 := R1.len
        have n2 := R2.len
        rw [List.length_map, Fm.ats_len] at n1 n2
        refine .inr (.inr ⟨l1, l2, _, _, rfl, rfl, x2 _ _ e1, e2, by rw [List.length_map, List.length_map, sizeLine_eq]; omega, fun l hl => ?_⟩)
        walk_at "g"
        refine k l (as1 ++ as2) _ ?_ (fun q o h => ext_new hl _ _ (x2 _ _ (x1 _ _ h))) (by rw [upd_same, List.map_append]) ?_
        · cases e : H l with
          | none => rfl
          | some o => rw [x2 _ _ (x1 _ _ e)] at hl; cases hl
        · show RF _ ((a.ats ++ b.ats).map Fm.at) _
          rw [List.map_append]
          exact R1.app R2
      | un wd a =>
        obtain ⟨q1, hA, h1⟩ := hF
        have hA := hG _ _ hA
        obtain ⟨hwd, w1⟩ := hw
        have hd' : a.ts.depth + 1 ≤ n + 1 := hd
        have hz' : a.ts.size ≤ 24 := hz
        have n1 : wd ≠ "and" ∧ wd ≠ "or" := by rcases hwd with rfl | rfl <;> decide +kernel
        walk_at "g"
        refine g_ixT (SqT.of hA) (v := .str wd) (by rfl) ?_
        walk_at "g"
        refine g_dec (fun h => absurd h n1.1) (fun _ => ?_)
        walk_at "g"
        refine g_ixT (SqT.of hA) (v := .str wd) (by rfl) ?_
        walk_at "g"
        refine g_dec (fun h => absurd h n1.2) (fun _ => ?_)
        walk_at "g"
        refine g_ixT (SqT.of hA) (v := .str wd) (by rfl) ?_
        walk_at "g"
        refine g_dec (fun hx => ?_) (fun hx => ?_)
        rotate_left
        · walk_at "g"
          refine g_ixT (SqT.of hA) (v := .str wd) (by rfl) ?_
          walk_at "g"
          refine g_dec (fun hy => ?_) (fun hy => absurd hwd (fun z => z.elim hx hy))
          walk_at "g"
          refine g_ixT (SqT.of hA) (v := .ref q1) (by rfl) ?_
          walk_at "g"
          refine ⟨q1, a, G, rfl, hG, h1, ⟨κ, w1⟩, by omega, by omega, fun l1 as1 H1 hl1 x1 e1 R1 => ?_⟩
          walk_at "g"
          exact k l1 as1 H1 hl1 x1 e1 R1
        walk_at "g"
        refine g_ixT (SqT.of hA) (v := .ref q1) (by rfl) ?_
        walk_at "g"
        refine ⟨q1, a, G, rfl, hG, h1, ⟨κ, w1⟩, by omega, by omega, fun l1 as1 H1 hl1 x1 e1 R1 => ?_⟩
        walk_at "g"
        exact k l1 as1 H1 hl1 x1 e1 R1
theorem ok__law_atoms (T : Txt K mg) : Def P w K mg base 13 "_law_atoms" ["_law_form_here"] (spLawAtoms 12) := ok_lawAtomsN T 12
theorem atom_tup {H : Hp} {a : At} {q : Addr} (h : AtomForm H q a) : ∃ r, H q = some (.tup (.str a.word :: r)) ∧ (r.length = 0 ↔ a.flds = []) ∧ (∀ c, a.flds.head? = some c → r[0]? = some (.str c)) ∧ ∀ c d op n, a = .against c op d n → r[2]? = some (.str d) := by
  cases a with
  | among c vs => obtain ⟨l, k, e, _⟩ := h; exact ⟨_, e, by simp [At.flds], fun c hc => by simp [At.flds] at hc; simp [hc], fun _ _ _ _ e => nomatch e⟩
  | always => exact ⟨_, h, by simp [At.flds], fun c hc => by simp [At.flds] at hc, fun _ _ _ _ e => nomatch e⟩
  | never => exact ⟨_, h, by simp [At.flds], fun c hc => by simp [At.flds] at hc, fun _ _ _ _ e => nomatch e⟩
  | empty c => exact ⟨_, h, by simp [At.flds], fun c hc => by simp [At.flds] at hc; simp [hc], fun _ _ _ _ e => nomatch e⟩
  | begins c z => exact ⟨_, h, by simp [At.flds], fun c hc => by simp [At.flds] at hc; simp [hc], fun _ _ _ _ e => nomatch e⟩
  | compare c op v => exact ⟨_, h, by simp [At.flds], fun c hc => by simp [At.flds] at hc; simp [hc], fun _ _ _ _ e => nomatch e⟩
  | against c op d n => exact ⟨_, h, by simp [At.flds], fun c hc => by simp [At.flds] at hc; simp [hc], fun c' d' op' n' e => by cases e; rfl⟩
theorem ok__law_atom_names (T : Txt K mg) : Def P w K mg base 1 "_law_atom_names" ["_law_atom_here"] spAtomNames := by
  obtain ⟨f, fd, h⟩ := T.d__law_atom_names
  refine h.def (Fun.okM h.fn sc__law_atom_names (fun vs H Q E h => ?_) (fun cdv A outer s H vs Q E hr h => ?_))
  · obtain ⟨q, a, rfl, _⟩ := h
    rfl
  · obtain ⟨q, a, rfl, hF, k⟩ := h
    refine ⟨_, (pss_cons (ps_if (pt_cmpR op_eq (pe_callB (call_lenG (K := K) rfl) (by rfl) T.h_len (by decide +kernel) (pa_cons (pv 0) pa_nil)) pe_int (nomark _))
  (pss_one (ps_ret (pe_lst pa_nil)))
  pss_nil)
  (pss_cons (ps_if (pt_cmpR op_eq (pe_ix (ix_seqG (K := K) rfl) (pv 0) pe_int (fun _ _ => rfl)) pe_str (nomark _))
  (pss_one (ps_ret (pe_lst (pa_cons (pe_ix (ix_seqG (K := K) rfl) (pv 0) pe_int (fun _ _ => rfl)) (pa_cons (pe_ix (ix_seqG (K := K) rfl) (pv 0) pe_int (fun _ _ => rfl)) pa_nil)))))
  pss_nil)
  (pss_one (ps_ret (pe_lst (pa_cons (pe_ix (ix_seqG (K := K) rfl) (pv 0) pe_int (fun _ _ => rfl)) pa_nil)))))), ?_⟩
    obtain ⟨rr, hA, hz, h0, h2⟩ := atom_tup hF
    walk_at "g"
    refine g_lenT (SqT.of hA) ?_
    walk_at "g"
    refine g_dec (fun h => ?_) (fun h => ?_)
    · have : a.flds = [] := hz.mp (by rw [List.length_cons] at h; omega)
      rw [this] at k
      walk_at "g"
      refine ⟨Nat.zero_le _, fun l hl => ?_⟩
      walk_at "g"
      exact k l hl
    have hne : a.flds ≠ [] := fun e => h (by rw [List.length_cons, hz.mpr e]; rfl)
    walk_at "g"
    refine g_ixT (SqT.of hA) (v := .str a.word) (atI_nat (j := 0) rfl) ?_
    walk_at "g"
    refine g_dec (fun hag => ?_) (fun hag => ?_)
    · obtain ⟨c, op, d, n, rfl⟩ : ∃ c op d n, a = .against c op d n := by
        cases a with
        | against c op d n => exact ⟨_, _, _, _, rfl⟩
        | _ => exact absurd hag (by simp only [At.word]; decide +kernel)
      walk_at "g"
      refine g_ixT (SqT.of hA) (v := .str c) (atI_nat (j := 1) (h0 c rfl)) ?_
      walk_at "g"
      refine g_ixT (SqT.of hA) (v := .str d) (atI_nat (j := 3) (h2 c d op n rfl)) ?_
      walk_at "g"
      refine ⟨by show 2 ≤ sizeLine; decide, fun l hl => ?_⟩
      walk_at "g"
      exact k l hl
    · obtain ⟨c, hc⟩ : ∃ c, a.flds = [c] := by
        cases a with
        | against c op d n => exact absurd rfl hag
        | always => exact absurd rfl hne
        | never => exact absurd rfl hne
        | _ => exact ⟨_, rfl⟩
      rw [hc] at k
      walk_at "g"
      refine g_ixT (SqT.of hA) (v := .str c) (atI_nat (j := 1) (h0 c (by rw [hc]; rfl))) ?_
      walk_at "g"
      refine ⟨by show 1 ≤ sizeLine; decide, fun l hl => ?_⟩
      walk_at "g"
      exact k l hl
theorem RF.get {R : Fm → Addr → Prop} : ∀ {ts : List Fm} {qs : List Addr} {i : Nat} {q : Addr}, RF R ts qs → qs[i]? = some q → ∃ t, ts[i]? = some t ∧ R t q
  | _, _, i, _, .nil, h => by simp at h
  | _, _, 0, _, .cons a r, h => by
    simp at h
    subst h
    exact ⟨_, rfl, a⟩
  | _, _, i + 1, _, .cons a r, h => by
    simp at h
    obtain ⟨t, e, x⟩ := r.get h
    exact ⟨t, by simpa using e, x⟩
theorem ok__law_names (T : Txt K mg) : Def P w K mg base 14 "_law_names" ["_law_form_here"] spLawNames := by
  obtain ⟨f, fd, h⟩ := T.d__law_names
  refine h.def (Fun.okM h.fn sc__law_names (fun vs H Q E h => ?_) (fun cdv A outer s H vs Q E hr h => ?_))
  · obtain ⟨q, f, rfl, _⟩ := h
    rfl
  · obtain ⟨q, f, rfl, hF, hw, hd, hz, k⟩ := h
    refine ⟨_, (pss_cons (ps_set (i := 1) sc__law_names.nd rfl (Or.inl rfl) (pe_lst pa_nil))
  (pss_cons (ps_for PassesOwn.never rfl (pi_list (pe_def (ok__law_atoms T) hr rfl (pa_cons (pv 0) pa_nil))) (pg_name (i := 2) sc__law_names.nd rfl (Or.inl rfl))
  (pss_one (ps_for PassesOwn.never rfl (pi_list (pe_def (ok__law_atom_names T) hr rfl (pa_cons (pv 2) pa_nil))) (pg_name (i := 3) sc__law_names.nd rfl (Or.inl rfl))
  (pss_one (ps_if (pt_cmpR (op_notInG (K := K) rfl) (pv 3) (pv 1) (by rfl))
  (pss_one (ps_expr (pe_bm PySem.F.plainAttrs_list PySem.F.slot_list_append PySem.F.type_list_append mt_append (pv 1) (pa_cons (pv 3) pa_nil))))
  pss_nil)))))
  (pss_one (ps_ret (pe_callB (call_sortedSG (K := K) rfl) (by rfl) T.h_sorted (by decide +kernel) (pa_cons (pe_lc (own := [("_law_name_here", 3)]) rfl sc__law_names.nd (pi_list (pv 1)) (blkOk_by (N := N__law_names) (sc := defScope S__law_names) (by decide +kernel)) (fun _ _ _ _ _ => pg_name (i := 3) sc__law_names.nd rfl (Or.inl rfl)) (fun _ _ _ _ _ => pts_nil) (fun _ _ _ _ _ => (pe_callTy SkE.call_str_str (by rfl) T.h_str (by decide +kernel) (pa_cons (pv 3) pa_nil)))) pa_nil)))))), ?_⟩
    walk_at "g"
    refine ⟨Nat.zero_le _, fun Ln hLn => ?_⟩
    have x1 := ext_new (o := .lst []) hLn
    have e1 : (upd H Ln (.lst [])) Ln = some (.lst (([] : List Str).map V.str)) := upd_same
    generalize upd H Ln (.lst []) = H1 at x1 e1
    walk_at "g"
    refine ⟨q, f, H, rfl, x1, hF, hw, hd, hz, fun l as H2 hl x2 e2 R2 => ?_⟩
    have hlen := R2.len
    rw [List.length_map, Fm.ats_len] at hlen
    have hlL : l ≠ Ln := fun z => by rw [z, e1] at hl; cases hl
    have x02 : ∀ q o, H q = some o → H2 q = some o := fun q o h => x2 _ _ (x1 _ _ h)
    refine ⟨l, rfl, ⟨_, SqL.of e2⟩, ?_⟩
    refine for_listA (xs := as.map V.ref) (fun j σ' H' => (∃ s2 s3, σ' = [some (.ref q), some (.ref Ln), s2, s3]) ∧ (∀ q o, H q = some o → H' q = some o) ∧ H' l = some (.lst (as.map V.ref)) ∧ ∃ zs : List Str, H' Ln = some (.lst (zs.map V.str)) ∧ zs.Nodup ∧ (∀ c, c ∈ zs ↔ c ∈ (f.ats.take j).flatMap At.flds) ∧ zs.length ≤ 2 * j) ⟨⟨none, none, rfl⟩, x02, e2, [], x2 _ _ e1, List.nodup_nil, fun c => by simp, Nat.le_refl _⟩ (fun _ _ _ _ e => SqL.of e.2.2.1) ?_ ?_
    · rintro j x σ' H3 D' hj ⟨⟨s2, s3, rfl⟩, x3, e3, zs, eL3, nd3, hm3, hl3⟩ hnx hct hbk hrt
      rw [List.getElem?_map] at hj
      obtain ⟨p, hp, rfl⟩ := Option.map_eq_some_iff.mp hj
      have hj24 : j < 24 := by
        have := (List.getElem?_eq_some_iff.mp hp).1
        omega
      obtain ⟨t, ht, A⟩ := R2.get hp
      rw [List.getElem?_map] at ht
      obtain ⟨a, ha, rfl⟩ := Option.map_eq_some_iff.mp ht
      have A : AtomForm H3 p a := AtomForm.keep A x3
      walk_at "g"
      refine ⟨p, a, rfl, A, fun m hm => ?_⟩
      have xm := ext_new (o := .lst (a.flds.map V.str)) hm
      have em : (upd H3 m (.lst (a.flds.map V.str))) m = some (.lst (a.flds.map V.str)) := upd_same
      have hmL : m ≠ Ln := Ne.symm (ne_of_none eL3 hm)
      have eL4 := xm _ _ eL3
      have e4 := xm _ _ e3
      have x4 : ∀ q o, H q = some o → (upd H3 m (.lst (a.flds.map V.str))) q = some o := fun q o h => xm _ _ (x3 _ _ h)
      generalize upd H3 m (.lst (a.flds.map V.str)) = H4 at em eL4 e4 x4
      have hfl := At.flds_len a
      have etake : (f.ats.take (j + 1)).flatMap At.flds = (f.ats.take j).flatMap At.flds ++ a.flds := by
        rw [List.take_succ, ha, List.flatMap_append]
        simp
      refine ⟨m, rfl, ⟨_, SqL.of em⟩, ?_⟩
      refine for_listA (xs := a.flds.map V.str) (fun i σ' H' => (∃ s3, σ' = [some (.ref q), some (.ref Ln), some (.ref p), s3]) ∧ (∀ q o, H q = some o → H' q = some o) ∧ H' l = some (.lst (as.map V.ref)) ∧ H' m = some (.lst (a.flds.map V.str)) ∧ ∃ zs : List Str, H' Ln = some (.lst (zs.map V.str)) ∧ zs.Nodup ∧ (∀ c, c ∈ zs ↔ c ∈ (f.ats.take j).flatMap At.flds ++ a.flds.take i) ∧ zs.length ≤ 2 * j + i) ⟨⟨_, rfl⟩, x4, e4, em, zs, eL4, nd3, fun c => by rw [List.take_zero, List.append_nil]; exact hm3 c, hl3⟩ (fun _ _ _ _ e => SqL.of e.2.2.2.1) ?_ ?_
      · rintro i y σ' H5 D5' hi ⟨⟨s3, rfl⟩, x5, e5, em5, zs5, eL5, nd5, hm5, hl5⟩ hnx5 hct5 hbk5 hrt5
        rw [List.getElem?_map] at hi
        obtain ⟨c, hc, rfl⟩ := Option.map_eq_some_iff.mp hi
        have hi2 : i < 2 := by
          have := (List.getElem?_eq_some_iff.mp hc).1
          omega
        have et : a.flds.take (i + 1) = a.flds.take i ++ [c] := by rw [List.take_succ, hc]; rfl
        walk_at "g"
        refine .inr ⟨_, zs5.map V.str, rfl, .inl (SqL.of eL5), rfl, Tw.flat_strs _, ?_⟩
        rw [if_pos rfl, inV_strs]
        walk_at "g"
        refine g_ndec (fun hn => ?_) (fun hn => ?_)
        · walk_at "g"
          have kL : ∀ b o, b ≠ Ln → H5 b = some o → (upd H5 Ln (.lst (zs5.map V.str ++ [.str c]))) b = some o := fun b o hb h => by rw [upd_ne hb]; exact h
          refine hnx5 _ _ ⟨⟨_, rfl⟩, fun q o h => kL _ _ (ne_of_none h hLn) (x5 _ _ h), kL _ _ hlL e5, kL _ _ hmL em5, zs5 ++ [c], by rw [upd_same, List.map_append]; rfl, ?_, fun d => ?_, by rw [List.length_append]; show zs5.length + 1 ≤ _; omega⟩
          · rw [List.nodup_append]
            refine ⟨nd5, by simp, fun a ha b hb => ?_⟩
            obtain rfl : b = c := by simpa using hb
            intro e
            exact hn (e ▸ ha)
          · rw [List.mem_append, hm5 d, et, List.mem_append, List.mem_append, List.mem_append, or_assoc]
        · walk_at "g"
          refine hnx5 _ _ ⟨⟨_, rfl⟩, x5, e5, em5, zs5, eL5, nd5, fun d => ?_, by omega⟩
          rw [hm5 d, et, List.mem_append, List.mem_append, List.mem_append, List.mem_singleton]
          constructor
          · rintro (h | h)
            · exact .inl h
            · exact .inr (.inl h)
          · rintro (h | h | h)
            · exact .inl h
            · exact .inr h
            · rw [h]
              exact List.mem_append.mp ((hm5 c).mp hn)
      · rintro σ' H5 ⟨⟨s3, rfl⟩, x5, e5, em5, zs5, eL5, nd5, hm5, hl5⟩
        rw [List.length_map, List.take_length] at hm5
        rw [List.length_map] at hl5
        exact hnx _ _ ⟨⟨_, _, rfl⟩, x5, e5, zs5, eL5, nd5, fun c => by rw [etake]; exact hm5 c, by omega⟩
    · rintro σ' H3 ⟨⟨s2, s3, rfl⟩, x3, e3, zs, eL3, nd3, hm3, hl3⟩
      rw [List.length_map, hlen] at hm3 hl3
      have hall : f.ats.take f.ts.size = f.ats := by rw [← Fm.ats_len, List.take_length]
      rw [hall, Fm.ats_cols] at hm3
      walk_at "g"
      refine ⟨Ln, rfl, ⟨_, SqL.of eL3⟩, fun D hD => ?_⟩
      refine lc_map (zs.map V.str) (fun v => v) hD (fun H2 k2 => fits_l (SqL.of (k2 _ _ eL3))) (by rw [List.length_map]; omega) (fun x Hh R S hx kh hR => ?_) (fun H4 k4 h4 => ?_)
      · obtain ⟨c, hc, rfl⟩ := List.mem_map.mp hx
        walk_at "g"
        refine ⟨rfl, ?_⟩
        walk_at "g"
        exact ⟨c, rfl, hR⟩
      · rw [List.map_id'] at h4
        refine ⟨D, zs, rfl, SqL.of h4, by omega, fun ys p hperm hso hp => ?_⟩
        walk_at "g"
        refine k ys p _ ?_ (fun q o h => ext_new hp _ _ (k4 _ _ (x3 _ _ h))) upd_same hso (hperm.symm.nodup nd3) fun c => ?_
        · cases e : H p with
          | none => rfl
          | some o => rw [k4 _ _ (x3 _ _ e)] at hp; cases hp
        · rw [← hm3 c]
          exact hperm.mem_iff
end
/-! drawn rows -/
structure RowOk (cs : List (Str × Bool)) (kvs : List (Key × V)) : Prop where
  nd : (kvs.map (·.1)).Nodup
  ok : ∀ c k, (c, k) ∈ cs → ∀ v, valV kvs (Sum.inr c) = some v → v = .non ∨ isV k v
  fl : ∀ p ∈ kvs, flatB p.2 = true
  len : kvs.length ≤ 100
theorem RowOk.rv {cs : List (Str × Bool)} {kvs : List (Key × V)} (h : RowOk cs kvs) : RowV cs (gOf kvs) := fun c k m => by
  unfold gOf
  cases e : valV kvs (Sum.inr c) with
  | none => exact .inl rfl
  | some v => exact h.ok c k m v e
theorem isV.flB {k : Bool} {v : V} (h : v = .non ∨ isV k v) : flatB v = true := by
  rcases h with rfl | h
  · rfl
  · cases k with
    | false => obtain ⟨i, rfl⟩ := h; rfl
    | true => obtain ⟨z, rfl, _⟩ := h; rfl
theorem nd_put {kvs : List (Key × V)} {k : Key} {v : V} (h : (kvs.map (·.1)).Nodup) : ((putK kvs k v).map (·.1)).Nodup := by
  cases e : valV kvs k with
  | none => exact nd_putK v h e
  | some u =>
    have hany : (kvs.any fun kv => decide (kv.1 = k)) = true := by rw [valV_any, e]; rfl
    unfold putK
    rw [if_pos hany, List.map_map]
    have : ((fun x : Key × V => x.1) ∘ fun kv : Key × V => if kv.1 = k then (kv.1, v) else kv) = fun x => x.1 := by
      funext kv
      show (if kv.1 = k then (kv.1, v) else kv).1 = kv.1
      split <;> rfl
    rw [this]
    exact h
theorem mem_put {kvs : List (Key × V)} {k : Key} {v : V} {p : Key × V} (h : p ∈ putK kvs k v) : p ∈ kvs ∨ p.2 = v := by
  unfold putK at h
  split at h
  · obtain ⟨q, hq, rfl⟩ := List.mem_map.mp h
    split
    · exact .inr rfl
    · exact .inl hq
  · rcases List.mem_append.mp h with h | h
    · exact .inl h
    · rw [List.mem_singleton.mp h]; exact .inr rfl
theorem RowOk.put {cs : List (Str × Bool)} {kvs : List (Key × V)} (h : RowOk cs kvs) {k : Key} {v : V} (hl : kvs.length < 100) (hf : flatB v = true) (hv : ∀ c kd, (c, kd) ∈ cs → Sum.inr c = k → v = .non ∨ isV kd v) : RowOk cs (putK kvs k v) := by
  refine ⟨nd_put h.nd, fun c kd m u e => ?_, fun p hp => ?_, Nat.le_trans (length_putK _ _ _) hl⟩
  · rw [valV_put] at e
    split at e
    · rename_i hk
      cases e
      exact hv c kd m hk
    · exact h.ok c kd m u e
  · rcases mem_put hp with hp | hp
    · exact h.fl p hp
    · rw [hp]; exact hf
theorem RowOk.nil {cs : List (Str × Bool)} : RowOk cs [] := ⟨List.nodup_nil, fun _ _ _ v e => (nomatch e), fun p hp => (nomatch hp), Nat.zero_le _⟩
theorem len_put {kvs : List (Key × V)} {k : Key} {v : V} : (putK kvs k v).length ≤ kvs.length + 1 := length_putK _ _ _
theorem len_put2 {kvs : List (Key × V)} {k : Key} {v : V} (h : (valV kvs k).isSome = true) : (putK kvs k v).length = kvs.length := by
  unfold putK
  have hany : (kvs.any fun kv => decide (kv.1 = k)) = true := by rw [valV_any, h]
  rw [if_pos hany, List.length_map]
theorem nd_fst : ∀ {cs : List (Str × Bool)}, (cs.map (·.1)).Nodup → ∀ {c : Str} {a b : Bool}, (c, a) ∈ cs → (c, b) ∈ cs → a = b
  | [], _, _, _, _, h, _ => nomatch h
  | (x, y) :: r, h, c, a, b, h1, h2 => by
    rw [List.map_cons, List.nodup_cons] at h
    rcases List.mem_cons.mp h1 with e1 | h1 <;> rcases List.mem_cons.mp h2 with e2 | h2
    · injection e1 with _ e1
      injection e2 with _ e2
      rw [e1, e2]
    · injection e1 with e1 _
      exact absurd (List.mem_map.mpr ⟨(c, b), h2, e1⟩) h.1
    · injection e2 with e2 _
      exact absurd (List.mem_map.mpr ⟨(c, a), h1, e2⟩) h.1
    · exact nd_fst h.2 h1 h2
theorem val_mem : ∀ {kvs : List (Key × V)}, (kvs.map (·.1)).Nodup → ∀ {k : Key} {v : V}, (k, v) ∈ kvs → valV kvs k = some v
  | [], _, _, _, h => nomatch h
  | (x, y) :: r, h, k, v, h1 => by
    rw [List.map_cons, List.nodup_cons] at h
    rcases List.mem_cons.mp h1 with e1 | h1
    · injection e1 with e1 e2
      rw [valV_pos e1.symm, e2]
    · rw [valV_neg (fun e => h.1 (List.mem_map.mpr ⟨(k, v), h1, e.symm⟩))]
      exact val_mem h.2 h1
theorem put_some {kvs : List (Key × V)} {k j : Key} {v : V} (h : (valV kvs j).isSome = true) : (valV (putK kvs k v) j).isSome = true := by
  rw [valV_put]
  split
  · rfl
  · exact h
def spRow : Sp := fun vs H Q _ => ∃ (d sc : Addr) (ns : List Int) (L : Addr) (cs : List (Str × Bool)), vs = [.ref d, .ref L] ∧ Dr H d sc ns ∧ GoodCols cs ∧ ColsAt H L cs ∧ L ≠ d ∧ ∀ r kvs H', H r = none → r ≠ d → r ≠ sc → H' r = some (.dK kvs) → RowOk cs kvs → kvs.length ≤ 12 → (∀ c ∈ cs, (valV kvs (Sum.inr c.1)).isSome = true) → DK d sc ns H H' → Q (.ref r) H'
def spPartOf : Sp := fun vs H Q _ => ∃ (cs : List (Str × Bool)) (d sc : Addr) (ns : List Int) (r : Addr) (kvs : List (Key × V)), vs = [.ref d, .ref r] ∧ Dr H d sc ns ∧ H r = some (.dK kvs) ∧ r ≠ d ∧ r ≠ sc ∧ RowOk cs kvs ∧ kvs.length ≤ 50 ∧ ∀ r2 kvs2 H', H r2 = none → r2 ≠ d → r2 ≠ sc → H' r2 = some (.dK kvs2) → RowOk cs kvs2 → kvs2.length ≤ 50 → DK d sc ns H H' → Q (.ref r2) H'
section
variable {P : Program} {w : World} {K : PySem.W.Frag} {mg : Str → Option Value} {base : Heap}
theorem ok__law_is_truth (T : Txt K mg) : Def P w K mg base 1 "_law_is_truth" ["_law_thing_here"] (fun vs H Q _ => ∃ x, vs = [x] ∧ isTv x ∧ Q (.bl true) H) := by
  obtain ⟨f, fd, h⟩ := T.d__law_is_truth
  refine h.def (Fun.okM h.fn sc__law_is_truth (fun vs H Q E h => ?_) (fun cdv A outer s H vs Q E hr h => ?_))
  · obtain ⟨x, rfl, _⟩ := h
    rfl
  · obtain ⟨x, rfl, hx, k⟩ := h
    refine ⟨_, (pss_one (ps_ret (pe_or (pe_cmpR op_isNG (pv 0) pe_non (nomark _)) (pe_one (pe_callB (call_isiG (K := K) rfl) (by rfl) T.h_isinstance (by decide +kernel) (pa_cons (pv 0) (pa_cons (pe_bltn (v := .ty "bool") (by rfl) T.h_bool (by decide +kernel) rfl) pa_nil))))))), ?_⟩
    rcases hx with rfl | ⟨b, rfl⟩
    · walk_at "g"
      exact k
    · walk_at "g"
      exact k
theorem g_dput {σ : L2.St} {H : Hp} {D : Ends} {td ty tv : TE} (q : tv σ H fun v H1 => td σ H1 fun x H2 => ty σ H2 fun y H3 => ∃ a H4, x = .ref a ∧ DPut H3 a y v H4 ∧ D.nx σ H4) : sDPut td ty tv D σ H := q
theorem ok__law_row (T : Txt K mg) : Def P w K mg base 4 "_law_row" ["_law_draw", "_law_columns_here"] spRow := by
  obtain ⟨f, fd, h⟩ := T.d__law_row
  refine h.def (Fun.okM h.fn sc__law_row (fun vs H Q E h => ?_) (fun cdv A outer s H vs Q E hr h => ?_))
  · obtain ⟨d, sc, ns, L, cs, rfl, _⟩ := h
    rfl
  · obtain ⟨d, sc, ns, L, cs, rfl, hD, hG, hC, hLd, k⟩ := h
    refine ⟨_, (pss_cons (ps_set (i := 2) sc__law_row.nd rfl (Or.inl rfl) pe_dnewK)
  (pss_cons (ps_for PassesOwn.never rfl (pi_list (pv 1)) (pg_name (i := 3) sc__law_row.nd rfl (Or.inl rfl))
  (pss_cons (ps_dput (hu_of hr) (pv 2) (pe_ix (ix_seqG (K := K) rfl) (pv 3) pe_int (fun _ _ => rfl)) (pe_def (ok__law_value T) hr rfl (pa_cons (pv 0) (pa_cons (pe_ix (ix_seqG (K := K) rfl) (pv 3) pe_int (fun _ _ => rfl)) pa_nil))) rfl)
  (pss_one (ps_if (pt_cmpR op_eq (pe_def (ok__law_take T) hr rfl (pa_cons (pv 0) (pa_cons pe_int pa_nil))) pe_int (nomark _))
  (pss_one (ps_dput (hu_of hr) (pv 2) (pe_ix (ix_seqG (K := K) rfl) (pv 3) pe_int (fun _ _ => rfl)) pe_non rfl))
  pss_nil))))
  (pss_one (ps_ret (pv 2))))), ?_⟩
    walk_at "g"
    intro r hr0
    have B1 := (DK.refl hD).new (o := .dK []) hr0
    have hC1 := hC.keep (ext_new (o := .dK []) hr0)
    have nr := hD.ne hr0
    have e1 : (upd H r (.dK [])) r = some (.dK []) := upd_same
    generalize upd H r (.dK []) = H1 at B1 hC1 e1
    obtain ⟨qs, hL1, hlen, hcol⟩ := id hC1
    have hfew := hG.few
    walk_at "g"
    refine ⟨L, rfl, ⟨_, SqL.of hL1⟩, for_listA (xs := qs.map V.ref) (fun j σ' H' => (∃ s3, σ' = [some (.ref d), some (.ref L), some (.ref r), s3]) ∧ DK d sc ns H H' ∧ ColsAt H' L cs ∧ H' L = some (.lst (qs.map V.ref)) ∧ ∃ kvs, H' r = some (.dK kvs) ∧ RowOk cs kvs ∧ kvs.length ≤ j ∧ ∀ c ∈ cs.take j, (valV kvs (Sum.inr c.1)).isSome = true) ⟨⟨none, rfl⟩, B1, hC1, hL1, [], e1, .nil, Nat.le_refl _, fun c hc => nomatch hc⟩ (fun _ _ _ _ e => SqL.of e.2.2.2.1) ?_ ?_⟩
    · rintro j x σ' H2 D' hj ⟨⟨s3, rfl⟩, B2, hC2, hL2, kvs, e2, hok, hl, hall⟩ hnx hct hbk hrt
      rw [List.getElem?_map] at hj
      obtain ⟨q, hq, rfl⟩ := Option.map_eq_some_iff.mp hj
      have hj12 : j < cs.length := by
        have := (List.getElem?_eq_some_iff.mp hq).1
        omega
      obtain ⟨⟨c, kd⟩, hc⟩ : ∃ c, cs[j]? = some c := ⟨_, List.getElem?_eq_getElem hj12⟩
      have hcm := List.mem_of_getElem? hc
      obtain ⟨qs', hL', hlen', hcol'⟩ := id hC2
      obtain rfl : qs' = qs := by
        rw [hL2] at hL'
        injection hL' with e
        injection e with e
        exact ((List.map_inj_right (fun a b h => by injection h)).mp e).symm
      obtain ⟨fl, eq⟩ := hcol' j q _ hq hc
      refine g_name ?_
      refine g_seq ?_
      refine g_dput ?_
      walk_at "g"
      refine g_ixT (SqT.of eq) (v := .str (kS kd)) (by rfl) ?_
      walk_at "g"
      refine ⟨_, _, _, kd, rfl, B2.D, fun v H3 hv D3 K3 => ?_⟩
      have B3 := B2.step D3 K3
      have hC3 := hC2.draw B2.D K3 hLd
      have hL3 := K3 _ _ hLd hL2
      have eq3 := K3 _ _ (B2.D.tne eq) eq
      have e3 := K3 _ _ nr.1 e2
      walk_at "g"
      refine g_ixT (SqT.of eq3) (v := .str c) (by rfl) ?_
      refine ⟨r, _, rfl, DPut.k (k := Sum.inr c) e3 (by rw [sizeLine_eq]; omega), ?_⟩
      have hinj : ∀ c2 kd2, (c2, kd2) ∈ cs → (Sum.inr c2 : Key) = Sum.inr c → kd2 = kd := fun c2 kd2 m e => by
        injection e with e
        subst e
        exact nd_fst hG.nd m hcm
      have ok4 : RowOk cs (putK kvs (Sum.inr c) v) := hok.put (by omega) (isV.flB (.inr hv)) fun c2 kd2 m e => .inr (by rw [hinj c2 kd2 m e]; exact hv)
      have kr : ∀ {o : HO} b u, b ≠ r → H3 b = some u → (upd H3 r o) b = some u := fun b u hb h => by rw [upd_ne hb]; exact h
      have hLr : L ≠ r := fun z => by rw [z, e3] at hL3; cases hL3
      have hCr : ∀ {o : HO}, ColsAt (upd H3 r o) L cs := fun {o} => by
        obtain ⟨ps, h1, h2, h3⟩ := hC3
        refine ⟨ps, kr _ _ hLr h1, h2, fun i q c hq hc => ?_⟩
        obtain ⟨fl, e⟩ := h3 i q c hq hc
        exact ⟨fl, kr _ _ (fun z => by rw [z, e3] at e; cases e) e⟩
      have B4 := B3.put (o := .dK (putK kvs (Sum.inr c) v)) hr0 nr.1 nr.2
      have hC4 := hCr (o := .dK (putK kvs (Sum.inr c) v))
      have hL4 : (upd H3 r (.dK (putK kvs (Sum.inr c) v))) L = some (.lst (qs'.map V.ref)) := kr _ _ hLr hL3
      have eq4 : (upd H3 r (.dK (putK kvs (Sum.inr c) v))) q = some (.tup [.str c, .str (kS kd), .bl fl]) := kr _ _ (fun z => by rw [z, e3] at eq3; cases eq3) eq3
      have e4 : (upd H3 r (.dK (putK kvs (Sum.inr c) v))) r = some (.dK (putK kvs (Sum.inr c) v)) := upd_same
      have l4 : (putK kvs (Sum.inr c) v).length ≤ j + 1 := Nat.le_trans len_put (by omega)
      have s4 : (valV (putK kvs (Sum.inr c) v) (Sum.inr c)).isSome = true := by rw [valV_put, if_pos rfl]; rfl
      have a4 : ∀ c2 ∈ cs.take (j + 1), (valV (putK kvs (Sum.inr c) v) (Sum.inr c2.1)).isSome = true := fun c2 h2 => by
        rw [List.take_succ, hc] at h2
        rw [valV_put]
        split
        · rfl
        · rename_i hne
          rcases List.mem_append.mp h2 with h2 | h2
          · exact hall c2 h2
          · exact absurd (by rw [List.mem_singleton.mp h2]) hne
      generalize upd H3 r (.dK (putK kvs (Sum.inr c) v)) = H4 at B4 hC4 hL4 eq4 e4
      clear hC3 hL3 eq3 e3 B3 kr hCr hcol' hL'
      walk_at "g"
      refine ⟨_, _, _, _, rfl, B4.D, by decide, by decide +kernel, fun r5 H5 r50 r51 D5 K5 => ?_⟩
      have B5 := B4.step D5 K5
      have hC5 := hC4.draw B4.D K5 hLd
      have hL5 := K5 _ _ hLd hL4
      have eq5 := K5 _ _ (B4.D.tne eq4) eq4
      have e5 := K5 _ _ nr.1 e4
      walk_at "g"
      refine g_dec (fun h0 => ?_) (fun h0 => ?_)
      · refine g_dput ?_
        walk_at "g"
        refine g_ixT (SqT.of eq5) (v := .str c) (by rfl) ?_
        refine ⟨r, _, rfl, DPut.k (k := Sum.inr c) e5 (by rw [sizeLine_eq]; omega), ?_⟩
        have kr : ∀ {o : HO} b u, b ≠ r → H5 b = some u → (upd H5 r o) b = some u := fun b u hb h => by rw [upd_ne hb]; exact h
        refine hnx _ _ ⟨⟨_, rfl⟩, B5.put hr0 nr.1 nr.2, ?_, kr _ _ hLr hL5, _, upd_same, ok4.put (by omega) rfl fun _ _ _ _ => .inl rfl, by rw [len_put2 s4]; exact l4, fun c2 h2 => put_some (a4 c2 h2)⟩
        obtain ⟨ps, h1, h2, h3⟩ := hC5
        refine ⟨ps, kr _ _ hLr h1, h2, fun i q c hq hc => ?_⟩
        obtain ⟨fl, e⟩ := h3 i q c hq hc
        exact ⟨fl, kr _ _ (fun z => by rw [z, e5] at e; cases e) e⟩
      · walk_at "g"
        exact hnx _ _ ⟨⟨_, rfl⟩, B5, hC5, hL5, _, e5, ok4, l4, a4⟩
    · rintro σ' H2 ⟨⟨s3, rfl⟩, B2, hC2, hL2, kvs, e2, hok, hl, hall⟩
      rw [List.length_map] at hl hall
      rw [hlen, List.take_length] at hall
      walk_at "g"
      exact k r kvs H2 hr0 nr.1 nr.2 e2 hok (by omega) hall B2
end
section
variable {P : Program} {w : World} {K : PySem.W.Frag} {mg : Str → Option Value} {base : Heap}
def spThing : Sp := fun vs H Q _ => ∃ d sc ns, vs = [.ref d] ∧ Dr H d sc ns ∧ ∀ v H', thing H' v → Dr H' d sc ns → Keep d H H' → Q v H'
theorem thI {H : Hp} {v : V} (h : isI v) : thing H v := .inr (.inr (.inl h))
theorem thS {H : Hp} {v : V} (h : isS v) : thing H v := let ⟨z, e, l, _⟩ := h; .inr (.inr (.inr (.inl ⟨z, e, l⟩)))
theorem thR {H : Hp} {p : Addr} (h : isRef H p) : thing H (.ref p) := .inr (.inr (.inr (.inr ⟨p, rfl, h⟩)))
theorem ok__law_thing (T : Txt K mg) : Def P w K mg base 3 "_law_thing" ["_law_draw"] spThing := by
  obtain ⟨f, fd, h⟩ := T.d__law_thing
  refine h.def (Fun.okM h.fn sc__law_thing (fun vs H Q E h => ?_) (fun cdv A outer s H vs Q E hr h => ?_))
  · obtain ⟨d, sc, ns, rfl, _⟩ := h
    rfl
  · obtain ⟨d, sc, ns, rfl, hD, k⟩ := h
    refine ⟨_, (pss_cons (ps_set (i := 1) sc__law_thing.nd rfl (Or.inl rfl) (pe_def (ok__law_take T) hr rfl (pa_cons (pv 0) (pa_cons pe_int pa_nil))))
  (pss_cons (ps_if (pt_cmpR op_eq (pv 1) pe_int (nomark _))
  (pss_one (ps_ret (pe_def (ok__law_number T) hr rfl (pa_cons (pv 0) pa_nil))))
  pss_nil)
  (pss_cons (ps_if (PW.pt (pw_or (pt_cmpR op_eq (pv 1) pe_int (nomark _)) (pw_or1 (pt_cmpR op_eq (pv 1) pe_int (nomark _)))))
  (pss_one (ps_ret (pe_def (ok__law_text T) hr rfl (pa_cons (pv 0) pa_nil))))
  pss_nil)
  (pss_cons (ps_if (pt_cmpR op_eq (pv 1) pe_int (nomark _))
  (pss_one (ps_ret (pe_lst (pa_cons (pe_def (ok__law_number T) hr rfl (pa_cons (pv 0) pa_nil)) (pa_cons (pe_def (ok__law_text T) hr rfl (pa_cons (pv 0) pa_nil)) pa_nil)))))
  pss_nil)
  (pss_cons (ps_if (pt_cmpR op_eq (pv 1) pe_int (nomark _))
  (pss_one (ps_ret (pe_tup (pa_cons (pe_def (ok__law_text T) hr rfl (pa_cons (pv 0) pa_nil)) (pa_cons (pe_def (ok__law_number T) hr rfl (pa_cons (pv 0) pa_nil)) (pa_cons pe_non pa_nil))))))
  pss_nil)
  (pss_cons (ps_if (pt_cmpR op_eq (pv 1) pe_int (nomark _))
  (pss_one (ps_ret (pe_disp (pps_cons (pe_def (ok__law_text T) hr rfl (pa_cons (pv 0) pa_nil)) (pe_lst (pa_cons (pe_def (ok__law_number T) hr rfl (pa_cons (pv 0) pa_nil)) pa_nil)) pps_nil) (by rfl) (by rfl) (fun z => by cases z) (by decide))))
  pss_nil)
  (pss_cons (ps_if (pt_cmpR op_eq (pv 1) pe_int (nomark _))
  (pss_one (ps_ret pe_dnewK))
  pss_nil)
  (pss_one (ps_ret (pe_ix (ix_seqG (K := K) rfl) (pe_lst (pa_cons pe_non (pa_cons pe_bl (pa_cons pe_bl (pa_cons pe_int (pa_cons pe_int (pa_cons pe_int (pa_cons pe_int (pa_cons pe_int (pa_cons pe_int (pa_cons pe_int (pa_cons (pe_lst pa_nil) (pa_cons (pe_tup pa_nil) pa_nil))))))))))))) (pv 1) (fun _ _ => rfl))))))))))), ?_⟩
    walk_at "g"
    refine ⟨_, _, _, _, rfl, hD, by decide, by decide +kernel, fun r H1 r0 r1 D1 K1 => ?_⟩
    walk_at "G"
    · refine ⟨_, _, _, rfl, D1, fun v H2 hv D2 K2 => ?_⟩
      walk_at "g"
      exact k _ _ (thI hv) D2 (K1.trans K2)
    · refine ⟨_, _, _, rfl, D1, fun v H2 hv D2 K2 => ?_⟩
      walk_at "g"
      exact k _ _ (thS hv) D2 (K1.trans K2)
    · refine ⟨_, _, _, rfl, D1, fun v H2 hv D2 K2 => ?_⟩
      walk_at "g"
      exact k _ _ (thS hv) D2 (K1.trans K2)
    · refine ⟨_, _, _, rfl, D1, fun v H2 hv D2 K2 => ?_⟩
      walk_at "g"
      refine ⟨_, _, _, rfl, D2, fun v3 H3 hv3 D3 K3 => ?_⟩
      walk_at "g"
      refine ⟨by show 2 ≤ sizeLine; decide, fun p hp => ?_⟩
      walk_at "g"
      have KK := (K1.trans K2).trans K3
      exact k _ _ (thR (.inl ⟨_, upd_same⟩)) (D3.new hp) (KK.new (KK.back (D3.ne hp).1 hp))
    · refine ⟨_, _, _, rfl, D1, fun v H2 hv D2 K2 => ?_⟩
      walk_at "g"
      refine ⟨_, _, _, rfl, D2, fun v3 H3 hv3 D3 K3 => ?_⟩
      walk_at "g"
      refine ⟨by show 3 ≤ sizeLine; decide, fun p hp => ?_⟩
      walk_at "g"
      have KK := (K1.trans K2).trans K3
      exact k _ _ (thR (.inr (.inl ⟨_, upd_same⟩))) (D3.new hp) (KK.new (KK.back (D3.ne hp).1 hp))
    · intro p hp
      obtain ⟨hpd, hps⟩ := D1.ne hp
      refine g_def ?_
      walk_at "g"
      refine ⟨_, _, _, rfl, D1.new hp, fun v H2 hv D2 K2 => ?_⟩
      walk_at "g"
      refine ⟨_, _, _, rfl, D2, fun v3 H3 hv3 D3 K3 => ?_⟩
      have hp3 : H3 p = some (.dK []) := K3 p _ hpd (K2 p _ hpd upd_same)
      obtain ⟨z, rfl, hz, _⟩ := hv
      walk_at "g"
      refine ⟨by show 1 ≤ sizeLine; decide, fun q hq => ?_⟩
      have hqp : p ≠ q := ne_of_none hp3 hq
      refine ⟨by rw [upd_ne hqp]; exact hp3, [(Sum.inr z, .ref q)], rfl, by show 1 ≤ 15; decide, ?_⟩
      walk_at "g"
      have hp0 := K1.back hpd hp
      have KK := (((K1.new (o := .dK []) hp0).trans K2).trans K3)
      have hq0 := KK.back (D3.ne hq).1 hq
      have K5 := KK.new (o := .lst [v3]) hq0
      exact k _ _ (thR (.inr (.inr ⟨_, upd_same⟩))) ((D3.new hq).other hpd hps) (K5.new hp0)
    · intro p hp
      obtain ⟨hpd, hps⟩ := D1.ne hp
      walk_at "g"
      have hp0 := K1.back hpd hp
      exact k _ _ (thR (.inr (.inr ⟨_, upd_same⟩))) (D1.new hp) (K1.new hp0)
    · refine ⟨by show 0 ≤ sizeLine; decide, fun p hp => ?_⟩
      walk_at "g"
      refine ⟨by show 0 ≤ sizeLine; decide, fun q hq => ?_⟩
      walk_at "g"
      refine ⟨by show 12 ≤ sizeLine; decide, fun L hL => ?_⟩
      have n1 : p ≠ q := ne_of_none upd_same hq
      have n2 : q ≠ L := ne_of_none upd_same hL
      have n3 : p ≠ L := fun e => by rw [← e, upd_ne n1, upd_same] at hL; cases hL
      have DD := ((D1.new (o := .lst []) hp).new (o := .tup []) hq).new (o := .lst [.non, .bl true, .bl false, .int 0, .int 0, .int 0, .int 0, .int 0, .int 0, .int 0, .ref p, .ref q]) hL
      have hp0 := K1.back (D1.ne hp).1 hp
      have Kp := K1.new (o := .lst []) hp0
      have hq0 := Kp.back ((D1.new (o := .lst []) hp).ne hq).1 hq
      have Kq := Kp.new (o := .tup []) hq0
      have hL0 := Kq.back (((D1.new (o := .lst []) hp).new (o := .tup []) hq).ne hL).1 hL
      have KK := Kq.new (o := .lst [.non, .bl true, .bl false, .int 0, .int 0, .int 0, .int 0, .int 0, .int 0, .int 0, .ref p, .ref q]) hL0
      walk_at "g"
      have hcases : r = 0 ∨ r = 1 ∨ r = 2 ∨ r = 3 ∨ r = 4 ∨ r = 5 ∨ r = 6 ∨ r = 7 ∨ r = 8 ∨ r = 9 ∨ r = 10 ∨ r = 11 := by omega
      rcases hcases with rfl | rfl | rfl | rfl | rfl | rfl | rfl | rfl | rfl | rfl | rfl | rfl
      all_goals (walk_at "g"; refine k _ _ ?_ DD KK)
      · exact .inl rfl
      · exact .inr (.inl ⟨_, rfl⟩)
      · exact .inr (.inl ⟨_, rfl⟩)
      all_goals first | exact thI ⟨_, rfl⟩ | exact thR (.inl ⟨_, by rw [upd_ne n3, upd_ne n1, upd_same]⟩) | exact thR (.inr (.inl ⟨_, by rw [upd_ne n2, upd_same]⟩))
end
theorem ltc_iff : ∀ {a b : List Nat}, PySem.Spec.ltCps a b = true ↔ a < b
  | [], [] => by simp [PySem.Spec.ltCps]
  | [], _ :: _ => by simp [PySem.Spec.ltCps]
  | _ :: _, [] => by simp [PySem.Spec.ltCps]
  | a :: r, b :: t => by
    have ih := @ltc_iff r t
    rw [List.cons_lt_cons_iff, ← ih]
    simp [PySem.Spec.ltCps]
def leS (a b : Str) : Prop := a.cps.toList ≤ b.cps.toList
theorem rising_pw : ∀ {l : List Str} {p : Str}, PyProof.Rows.risingS p l = true → (p :: l).Pairwise leS
  | [], p, _ => List.pairwise_singleton _ _
  | x :: r, p, h => by
    have h2 : (!PySem.Spec.ltCps x.cps.toList p.cps.toList && PyProof.Rows.risingS x r) = true := h
    rw [Bool.and_eq_true, Bool.not_eq_true'] at h2
    have ih := rising_pw h2.2
    have hx : leS p x := List.not_lt.mp fun c => by rw [ltc_iff.mpr c] at h2; exact Bool.noConfusion h2.1
    refine List.pairwise_cons.mpr ⟨fun y hy => ?_, ih⟩
    rcases List.mem_cons.mp hy with rfl | hy
    · exact hx
    · exact List.le_trans hx ((List.pairwise_cons.mp ih).1 y hy)
theorem sorted_pw : ∀ {l : List Str}, PyProof.Rows.sortedS l = true → l.Pairwise leS
  | [], _ => .nil
  | _ :: _, h => rising_pw h
theorem uniq_sorted {xs ys : List Str} (sx : PyProof.Rows.sortedS xs = true) (sy : PyProof.Rows.sortedS ys = true) (nx : xs.Nodup) (ny : ys.Nodup) (h : ∀ k, k ∈ xs ↔ k ∈ ys) : xs = ys :=
  List.Perm.eq_of_pairwise (le := leS) (fun a b _ _ h1 h2 => str_ext (List.le_antisymm h1 h2)) (sorted_pw sx) (sorted_pw sy) ((List.perm_ext_iff_of_nodup nx ny).mpr h)
theorem thing_kind {H : Hp} {v : V} (h : thing H v) : ∃ T, T ∈ kinds7 ∧ TyOf7 H v T := by
  rcases h with rfl | ⟨b, rfl⟩ | ⟨i, rfl⟩ | ⟨z, rfl, _⟩ | ⟨p, rfl, ⟨xs, e⟩ | ⟨xs, e⟩ | ⟨kvs, e⟩⟩
  · exact ⟨_, by decide, .non⟩
  · exact ⟨_, by decide, .bl b⟩
  · exact ⟨_, by decide, .int i⟩
  · exact ⟨_, by decide, .str z⟩
  · exact ⟨_, by decide, .lst e⟩
  · exact ⟨_, by decide, .tup e⟩
  · exact ⟨_, by decide, .dct e⟩
/-! == of tests, either answer -/
/-- numbers and texts -/
def kv (v : V) : Prop := (∃ i, v = .int i) ∨ ∃ z, v = .str z
theorem kv.flat {v : V} (h : kv v) : flatV v = true := by
  rcases h with ⟨i, rfl⟩ | ⟨z, rfl⟩ <;> rfl
theorem kv.eq {x y : V} (h : kv x) (h' : kv y) : eqV x y = true ↔ x = y := by
  rcases h with ⟨i, rfl⟩ | ⟨z, rfl⟩ <;> rcases h' with ⟨j, rfl⟩ | ⟨u, rfl⟩ <;> simp [eqV]
theorem all_kv {xs ys : List V} (fx : ∀ x ∈ xs, kv x) (fy : ∀ y ∈ ys, kv y) : ((List.range (min xs.length ys.length)).all (fun i => eqV (xs.getD i .non) (ys.getD i .non)) && xs.length == ys.length) = true ↔ xs = ys := by
  rw [Bool.and_eq_true, List.all_eq_true, beq_iff_eq]
  constructor
  · rintro ⟨h, hl⟩
    refine List.ext_getElem hl fun i h1 h2 => ?_
    have := h i (List.mem_range.mpr (by omega))
    rw [List.getD_eq_getElem?_getD, List.getD_eq_getElem?_getD, List.getElem?_eq_getElem h1, List.getElem?_eq_getElem h2] at this
    exact (kv.eq (fx _ (List.getElem_mem h1)) (fy _ (List.getElem_mem h2))).mp this
  · rintro rfl
    refine ⟨fun i hi => ?_, rfl⟩
    have h1 : i < xs.length := by have := List.mem_range.mp hi; omega
    rw [List.getD_eq_getElem?_getD, List.getElem?_eq_getElem h1]
    exact (kv.eq (fx _ (List.getElem_mem h1)) (fx _ (List.getElem_mem h1))).mpr rfl
theorem rc_kv {K : PySem.W.Frag} {H : Hp} {a b : Addr} {xs ys : List V} (ha : SqT K H a xs) (hb : SqT K H b ys) (fx : ∀ x ∈ xs, kv x) (fy : ∀ y ∈ ys, kv y) : ∃ r, RcNest K H (EqNest K H 1) (.ref a) (.ref b) r ∧ (r = true ↔ xs = ys) := by
  refine ⟨_, .inl ⟨a, b, xs, ys, fun i => eqV (xs.getD i .non) (ys.getD i .non), rfl, rfl, ha, hb, fun i x y hx hy => ?_, rfl⟩, all_kv fx fy⟩
  refine .inl ⟨(fx x (List.mem_of_getElem? hx)).flat, (fy y (List.mem_of_getElem? hy)).flat, ?_⟩
  show eqV (xs.getD i .non) (ys.getD i .non) = eqV x y
  rw [List.getD_eq_getElem?_getD, List.getD_eq_getElem?_getD, hx, hy]
  rfl
/-- tests whose terms are numbers and texts -/
def Ts.Ok : Ts → Prop
  | .at _ _ ts => ∀ v ∈ ts, kv v
  | .un _ a => a.Ok
  | .bi _ a b => a.Ok ∧ b.Ok
theorem Ts.Ok.trms {t : Ts} (h : t.Ok) : ∀ v ∈ t.trms, kv v := by
  cases t with
  | «at» w fs ts => exact h
  | un w a => exact nofun
  | bi w a b => exact nofun
theorem Ts.Ok.kid {t k : Ts} (h : t.Ok) (m : k ∈ t.kids) : k.Ok := by
  cases t with
  | «at» w fs ts => exact nomatch m
  | un w a =>
    obtain rfl : k = a := by simpa [Ts.kids] using m
    exact h
  | bi w a b =>
    have m : k = a ∨ k = b := by simpa [Ts.kids] using m
    rcases m with rfl | rfl
    · exact h.1
    · exact h.2
theorem Ts.same_iff {t u : Ts} : t = u ↔ t.word = u.word ∧ t.flds = u.flds ∧ t.trms = u.trms ∧ t.kids = u.kids := by
  constructor
  · rintro rfl; exact ⟨rfl, rfl, rfl, rfl⟩
  · rintro ⟨h1, h2, h3, h4⟩
    cases t <;> cases u <;> simp [Ts.word, Ts.flds, Ts.trms, Ts.kids] at h1 h2 h3 h4 ⊢
    · exact ⟨h1, h2, h3⟩
    · exact ⟨h1, h4⟩
    · exact ⟨h1, h4⟩
theorem tf_inj {w w' : Str} {i f t i' f' t' : Addr} {n d n' d' : Int} (h : tf w i f t n d = tf w' i' f' t' n' d') : w = w' ∧ i = i' ∧ f = f' ∧ t = t' := by
  unfold tf at h
  injection h with q1 h
  injection h with q2 h
  injection h with q3 h
  injection h with q4 h
  injection q1 with _ q1
  injection q1 with q1
  injection q2 with _ q2
  injection q2 with q2
  injection q3 with _ q3
  injection q3 with q3
  injection q4 with _ q4
  injection q4 with q4
  exact ⟨q1, q2, q3, q4⟩
theorem row_fun {R : Ts → Addr → Prop} : ∀ {ts us : List Ts} {qs : List Addr}, (∀ t u q, t ∈ ts → R t q → R u q → t = u) → Row R ts qs → Row R us qs → ts = us
  | _, _, _, _, .nil, .nil => rfl
  | _, _, _, h, .cons a r, .cons b s => by
    rw [h _ _ _ List.mem_cons_self a b, row_fun (fun t u q m => h t u q (List.mem_cons_of_mem _ m)) r s]
/-- one test only stands at a place -/
theorem testAt_fun {C : Addr} {H : Hp} : ∀ (n : Nat) {t u : Ts} {p : Addr}, t.depth ≤ n → TestAt C H t p → TestAt C H u p → t = u := by
  intro n
  induction n with
  | zero =>
    intro t u p hd h1 h2
    obtain ⟨dx, i, f, x, qs, a1, a2, a3, a4, a5⟩ := h1.node
    obtain ⟨dy, i', f', x', qs', b1, b2, b3, b4, b5⟩ := h2.node
    rw [a1] at b1
    injection b1 with b1
    injection b1 with _ _ b1
    obtain ⟨e1, rfl, rfl, rfl⟩ := tf_inj b1
    rw [a2] at b2
    rw [a3] at b3
    rw [a4] at b4
    injection b2 with b2
    injection b2 with b2
    injection b3 with b3
    injection b3 with b3
    injection b4 with b4
    injection b4 with b4
    have b2 := (List.map_inj_right fun a b e => by injection e).mp b2
    subst b2
    refine Ts.same_iff.mpr ⟨e1, (List.map_inj_right fun a b e => by injection e).mp b3, b4, row_fun (R := TestAt C H) (fun k v q m _ _ => ?_) a5 b5⟩
    have := Ts.kids_depth m
    omega
  | succ n ih =>
    intro t u p hd h1 h2
    obtain ⟨dx, i, f, x, qs, a1, a2, a3, a4, a5⟩ := h1.node
    obtain ⟨dy, i', f', x', qs', b1, b2, b3, b4, b5⟩ := h2.node
    rw [a1] at b1
    injection b1 with b1
    injection b1 with _ _ b1
    obtain ⟨e1, rfl, rfl, rfl⟩ := tf_inj b1
    rw [a2] at b2
    rw [a3] at b3
    rw [a4] at b4
    injection b2 with b2
    injection b2 with b2
    injection b3 with b3
    injection b3 with b3
    injection b4 with b4
    injection b4 with b4
    have b2 := (List.map_inj_right fun a b e => by injection e).mp b2
    subst b2
    refine Ts.same_iff.mpr ⟨e1, (List.map_inj_right fun a b e => by injection e).mp b3, b4, row_fun (R := TestAt C H) (fun k v q m c1 c2 => ih ?_ c1 c2) a5 b5⟩
    have := Ts.kids_depth m
    omega
def RTb (C : Addr) (n : Nat) (a b : Addr) (r : Bool) (H : Hp) : Prop := ∃ t u, TestAt C H t a ∧ TestAt C H u b ∧ t.Ok ∧ u.Ok ∧ t.depth ≤ n ∧ (r = true ↔ t = u)
theorem RTb.mono {C : Addr} {n : Nat} : ∀ a b r H H', Ext H H' → RTb C n a b r H → RTb C n a b r H' := fun a b r H H' e ⟨t, u, h1, h2, h⟩ => ⟨t, u, h1.keep e, h2.keep e, h⟩
theorem RTb.same {C : Addr} {n : Nat} : ∀ a r H, RTb C n a a r H → r = true := fun a r H ⟨t, u, h1, h2, _, _, _, h⟩ => h.mpr (testAt_fun _ (Nat.le_refl _) h1 h2)
theorem scan_kids {C : Addr} {n : Nat} {H : Hp} : ∀ {ts us : List Ts} {qs ps : List Addr}, Row (TestAt C H) ts qs → Row (TestAt C H) us ps → (∀ t ∈ ts, t.Ok ∧ t.depth ≤ n) → (∀ t ∈ us, t.Ok) → ∃ r, Scan (BIns C (RTb C n)) (qs.map V.ref) (ps.map V.ref) r H ∧ (r = true ↔ ts = us)
  | _, _, _, _, .nil, .nil, _, _ => ⟨true, rfl, by simp⟩
  | _, _, _, _, .nil, .cons _ _, _, _ => ⟨false, rfl, by simp⟩
  | _, _, _, _, .cons _ _, .nil, _, _ => ⟨false, rfl, by simp⟩
  | _, _, _, _, .cons (t := t) (q := q) a r, .cons (t := u) (q := p) b s, h1, h2 => by
    obtain ⟨x, hx, hr⟩ := scan_kids r s (fun t m => h1 t (List.mem_cons_of_mem _ m)) fun t m => h2 t (List.mem_cons_of_mem _ m)
    obtain ⟨k1, k2⟩ := h1 t List.mem_cons_self
    have k3 := h2 u List.mem_cons_self
    obtain ⟨dx, _, _, _, _, e1, _⟩ := a.node
    obtain ⟨dy, _, _, _, _, e2, _⟩ := b.node
    by_cases e : t = u
    · exact ⟨x, .inr ⟨⟨q, p, dx, dy, _, _, rfl, rfl, e1, e2, t, u, a, b, k1, k3, k2, by simp [e]⟩, hx⟩, by rw [hr, List.cons.injEq]; simp [e]⟩
    · exact ⟨false, .inl ⟨⟨q, p, dx, dy, _, _, rfl, rfl, e1, e2, t, u, a, b, k1, k3, k2, by simp [e]⟩, rfl⟩, by simp [e]⟩
def spTeq (C : Addr) (n : Nat) : Sp := fun vs H Q _ => ∃ (a : Addr) (t : Ts) (y : V), vs = [.ref a, y] ∧ TestAt C H t a ∧ t.Ok ∧ t.depth ≤ n ∧
  ((∃ (b : Addr) (u : Ts), y = .ref b ∧ TestAt C H u b ∧ u.Ok ∧ ∀ r H', Ext H H' → (r = true ↔ t = u) → Q (.bl r) H') ∨ ((∃ T : String, T ∈ kinds7 ∧ TyOf7 H y T) ∧ ∀ H', Ext H H' → Q (.bl false) H'))
theorem spTeq_of {C : Addr} {n : Nat} : ∀ vs H Q E, spEqb (RTb C n) vs H Q E → spTeq C n vs H Q E := fun vs H Q E ⟨a, b, r, hv, ⟨t, u, h1, h2, h3, h4, h5, h6⟩, k⟩ =>
  ⟨a, t, .ref b, hv, h1, h3, h5, .inl ⟨b, u, rfl, h2, h4, fun r' H' e hr => by
    have : r' = r := by
      cases r <;> cases r'
      · rfl
      · exact (h6.mpr (hr.mp rfl)).symm
      · exact (hr.mpr (h6.mp rfl))
      · rfl
    rw [this]
    exact k H' e⟩⟩
section
variable {P : Program} {w : World} {K : PySem.W.Frag} {mg : Str → Option Value} {base : Heap}
theorem ok_eqN (T : Txt K mg) : ∀ n, DefM P w K mg base (2 * n + 2) (cadr mg "Test") "__eq__" ["self", "other"] (spTeq (cadr mg "Test") n) := by
  intro n
  induction n with
  | zero =>
    have opIn : ∀ {X : Cx} {j : Nat}, X.prog = P → X.w = w → X.K = K → X.mg = mg → X.base = base → Room j X.A → 1 ≤ j → OpR X (compareOp .Eq) (rEqb (BTup K BFlat)) := fun _ _ h _ _ hr hj => by
      subst h
      exact op_eqb (richB_tup monB_flat ansB_flat) (hr.mono hj)
    obtain ⟨f, fd, h⟩ := T.d_Test_eq
    refine h.def (Fun.okM h.fn sc_Test_eq (fun vs H Q E h => ?_) (fun cdv A outer s H vs Q E hr h => ?_))
    · obtain ⟨a, t, y, rfl, _⟩ := h
      rfl
    · obtain ⟨a, t, y, rfl, hA, hO, hd, hy⟩ := h
      refine ⟨_, (pss_one (ps_ret (pe_and (pe_callB (call_isiG (K := K) rfl) (by rfl) T.h_isinstance (by decide +kernel) (pa_cons (pv 1) (pa_cons (pe_cls rfl T.e_Test) pa_nil))) (pe_and (pe_cmpR op_eq (pe_fldG (K := K) rfl (pv 0) rfl) (pe_fldG (K := K) rfl (pv 1) rfl) (nomark _)) (pe_and (pe_cmpR (op_eqNest (K := K) rfl (hu64_of hr)) (pe_fldG (K := K) rfl (pv 0) rfl) (pe_fldG (K := K) rfl (pv 1) rfl) (nomark _)) (pe_and (pe_cmpR (op_eqNest (K := K) rfl (hu64_of hr)) (pe_fldG (K := K) rfl (pv 0) rfl) (pe_fldG (K := K) rfl (pv 1) rfl) (nomark _)) (pe_one (pe_cmpR (opIn rfl rfl rfl rfl rfl hr (by omega)) (pe_fldG (K := K) rfl (pv 0) rfl) (pe_fldG (K := K) rfl (pv 1) rfl) (nomark _))))))))), ?_⟩
      rcases hy with ⟨b, u, rfl, hB, hU, k⟩ | ⟨⟨Tn, hT, ty⟩, k⟩
      · obtain ⟨dx, i1, f1, u1, qs1, hp, hi1, hf1, hu1, hR1⟩ := hA.node
        obtain ⟨dy, i2, f2, u2, qs2, hq, hi2, hf2, hu2, hR2⟩ := hB.node
        have kn : t.kids = [] := by
          cases e : t.kids with
          | nil => rfl
          | cons x l =>
            have := Ts.kids_depth (t := t) (k := x) (by rw [e]; exact List.mem_cons_self)
            omega
        have ff : ∀ {z : Ts}, ∀ v ∈ z.flds.map V.str, kv v := fun {z} v hv => by
          obtain ⟨s, _, rfl⟩ := List.mem_map.mp hv
          exact .inr ⟨s, rfl⟩
        walk_at "g"
        refine g_isOwn T.is_Test T.cl_Test hq ?_
        walk_at "g"
        refine ⟨a, _, dx, _, _, rfl, hp, T.cl_Test, T.n_Test_word, tf_word, ?_⟩
        walk_at "g"
        refine ⟨b, _, dy, _, _, rfl, hq, T.cl_Test, T.n_Test_word, tf_word, ?_⟩
        walk_at "g"
        by_cases hw : t.word = u.word
        · rw [decide_eq_true hw]
          walk_at "g"
          refine ⟨a, _, dx, _, _, rfl, hp, T.cl_Test, T.n_Test_fields, tf_fields, ?_⟩
          walk_at "g"
          refine ⟨b, _, dy, _, _, rfl, hq, T.cl_Test, T.n_Test_fields, tf_fields, ?_⟩
          obtain ⟨r1, hr1, hs1⟩ := rc_kv (K := K) (SqT.of hf1) (SqT.of hf2) ff ff
          refine ⟨1, r1, by decide, hr1, ?_⟩
          have hs1 : r1 = true ↔ t.flds = u.flds := hs1.trans (List.map_inj_right fun a b e => by injection e)
          cases r1 with
          | false =>
            walk_at "g"
            exact k false _ Ext.rfl' ⟨nofun, fun e => absurd (hs1.mpr (by rw [e])) nofun⟩
          | true =>
            walk_at "g"
            refine ⟨a, _, dx, _, _, rfl, hp, T.cl_Test, T.n_Test_terms, tf_terms, ?_⟩
            walk_at "g"
            refine ⟨b, _, dy, _, _, rfl, hq, T.cl_Test, T.n_Test_terms, tf_terms, ?_⟩
            obtain ⟨r2, hr2, hs2⟩ := rc_kv (K := K) (SqT.of hu1) (SqT.of hu2) hO.trms hU.trms
            refine ⟨1, r2, by decide, hr2, ?_⟩
            cases r2 with
            | false =>
              walk_at "g"
              exact k false _ Ext.rfl' ⟨nofun, fun e => absurd (hs2.mpr (by rw [e])) nofun⟩
            | true =>
              walk_at "g"
              refine ⟨a, _, dx, _, _, rfl, hp, T.cl_Test, T.n_Test_inner, tf_inner, ?_⟩
              walk_at "g"
              refine ⟨b, _, dy, _, _, rfl, hq, T.cl_Test, T.n_Test_inner, tf_inner, ?_⟩
              have e1 : qs1 = [] := List.length_eq_zero_iff.mp (by rw [hR1.len, kn]; rfl)
              subst e1
              have hl2 := hR2.len
              refine ⟨decide (u.kids = []), ⟨i1, i2, [], qs2.map V.ref, rfl, rfl, SqT.of hi1, SqT.of hi2, ?_⟩, fun H' x => ?_⟩
              · cases hqs : qs2 with
                | nil =>
                  rw [hqs] at hl2
                  exact decide_eq_true (List.length_eq_zero_iff.mp hl2.symm)
                | cons x l =>
                  rw [hqs] at hl2
                  exact decide_eq_false fun e => by rw [e] at hl2; cases hl2
              · walk_at "g"
                refine k _ _ x ?_
                rw [Ts.same_iff, kn]
                simp only [decide_eq_true_eq]
                exact ⟨fun e => ⟨hw, hs1.mp rfl, hs2.mp rfl, e.symm⟩, fun e => e.2.2.2.symm⟩
        · rw [decide_eq_false hw]
          walk_at "g"
          exact k false _ Ext.rfl' ⟨nofun, fun e => absurd (by rw [e]) hw⟩
      · walk_at "g"
        refine g_isNot T.is_Test (ty.x K) hT ?_
        walk_at "g"
        exact k _ Ext.rfl'
  | succ n ih =>
    have opIn : ∀ {X : Cx} {j : Nat}, X.prog = P → X.w = w → X.K = K → X.mg = mg → X.base = base → Room j X.A → 2 * n + 2 + 1 ≤ j → OpR X (compareOp .Eq) (rEqb (BTup K (BIns (cadr mg "Test") (RTb (cadr mg "Test") n)))) := fun h1 h2 h3 h4 h5 hr hj => op_eqTI RTb.mono RTb.same ih spTeq_of h1 h2 h3 h4 h5 hr hj
    obtain ⟨f, fd, h⟩ := T.d_Test_eq
    refine h.def (Fun.okM h.fn sc_Test_eq (fun vs H Q E h => ?_) (fun cdv A outer s H vs Q E hr h => ?_))
    · obtain ⟨a, t, y, rfl, _⟩ := h
      rfl
    · obtain ⟨a, t, y, rfl, hA, hO, hd, hy⟩ := h
      refine ⟨_, (pss_one (ps_ret (pe_and (pe_callB (call_isiG (K := K) rfl) (by rfl) T.h_isinstance (by decide +kernel) (pa_cons (pv 1) (pa_cons (pe_cls rfl T.e_Test) pa_nil))) (pe_and (pe_cmpR op_eq (pe_fldG (K := K) rfl (pv 0) rfl) (pe_fldG (K := K) rfl (pv 1) rfl) (nomark _)) (pe_and (pe_cmpR (op_eqNest (K := K) rfl (hu64_of hr)) (pe_fldG (K := K) rfl (pv 0) rfl) (pe_fldG (K := K) rfl (pv 1) rfl) (nomark _)) (pe_and (pe_cmpR (op_eqNest (K := K) rfl (hu64_of hr)) (pe_fldG (K := K) rfl (pv 0) rfl) (pe_fldG (K := K) rfl (pv 1) rfl) (nomark _)) (pe_one (pe_cmpR (opIn rfl rfl rfl rfl rfl hr (by omega)) (pe_fldG (K := K) rfl (pv 0) rfl) (pe_fldG (K := K) rfl (pv 1) rfl) (nomark _))))))))), ?_⟩
      rcases hy with ⟨b, u, rfl, hB, hU, k⟩ | ⟨⟨Tn, hT, ty⟩, k⟩
      · obtain ⟨dx, i1, f1, u1, qs1, hp, hi1, hf1, hu1, hR1⟩ := hA.node
        obtain ⟨dy, i2, f2, u2, qs2, hq, hi2, hf2, hu2, hR2⟩ := hB.node
        have ff : ∀ {z : Ts}, ∀ v ∈ z.flds.map V.str, kv v := fun {z} v hv => by
          obtain ⟨s, _, rfl⟩ := List.mem_map.mp hv
          exact .inr ⟨s, rfl⟩
        walk_at "g"
        refine g_isOwn T.is_Test T.cl_Test hq ?_
        walk_at "g"
        refine ⟨a, _, dx, _, _, rfl, hp, T.cl_Test, T.n_Test_word, tf_word, ?_⟩
        walk_at "g"
        refine ⟨b, _, dy, _, _, rfl, hq, T.cl_Test, T.n_Test_word, tf_word, ?_⟩
        walk_at "g"
        by_cases hw : t.word = u.word
        · rw [decide_eq_true hw]
          walk_at "g"
          refine ⟨a, _, dx, _, _, rfl, hp, T.cl_Test, T.n_Test_fields, tf_fields, ?_⟩
          walk_at "g"
          refine ⟨b, _, dy, _, _, rfl, hq, T.cl_Test, T.n_Test_fields, tf_fields, ?_⟩
          obtain ⟨r1, hr1, hs1⟩ := rc_kv (K := K) (SqT.of hf1) (SqT.of hf2) ff ff
          refine ⟨1, r1, by decide, hr1, ?_⟩
          have hs1 : r1 = true ↔ t.flds = u.flds := hs1.trans (List.map_inj_right fun a b e => by injection e)
          cases r1 with
          | false =>
            walk_at "g"
            exact k false _ Ext.rfl' ⟨nofun, fun e => absurd (hs1.mpr (by rw [e])) nofun⟩
          | true =>
            walk_at "g"
            refine ⟨a, _, dx, _, _, rfl, hp, T.cl_Test, T.n_Test_terms, tf_terms, ?_⟩
            walk_at "g"
            refine ⟨b, _, dy, _, _, rfl, hq, T.cl_Test, T.n_Test_terms, tf_terms, ?_⟩
            obtain ⟨r2, hr2, hs2⟩ := rc_kv (K := K) (SqT.of hu1) (SqT.of hu2) hO.trms hU.trms
            refine ⟨1, r2, by decide, hr2, ?_⟩
            cases r2 with
            | false =>
              walk_at "g"
              exact k false _ Ext.rfl' ⟨nofun, fun e => absurd (hs2.mpr (by rw [e])) nofun⟩
            | true =>
              walk_at "g"
              refine ⟨a, _, dx, _, _, rfl, hp, T.cl_Test, T.n_Test_inner, tf_inner, ?_⟩
              walk_at "g"
              refine ⟨b, _, dy, _, _, rfl, hq, T.cl_Test, T.n_Test_inner, tf_inner, ?_⟩
              obtain ⟨r3, hr3, hs3⟩ := scan_kids (n := n) hR1 hR2 (fun z m => ⟨hO.kid m, by have := Ts.kids_depth m; omega⟩) fun z m => hU.kid m
              refine ⟨r3, ⟨i1, i2, _, _, rfl, rfl, SqT.of hi1, SqT.of hi2, hr3⟩, fun H' x => ?_⟩
              walk_at "g"
              refine k _ _ x ?_
              rw [Ts.same_iff, hs3]
              exact ⟨fun e => ⟨hw, hs1.mp rfl, hs2.mp rfl, e⟩, fun e => e.2.2.2⟩
        · rw [decide_eq_false hw]
          walk_at "g"
          exact k false _ Ext.rfl' ⟨nofun, fun e => absurd (by rw [e]) hw⟩
      · walk_at "g"
        refine g_isNot T.is_Test (ty.x K) hT ?_
        walk_at "g"
        exact k _ Ext.rfl'
theorem ok_Test_eq (T : Txt K mg) : DefM P w K mg base 26 (cadr mg "Test") "__eq__" ["self", "other"] (spTeq (cadr mg "Test") 12) := ok_eqN T 12
end
/-! renaming the columns of a test -/
def mv (kvs : List (Key × V)) (c : Str) : V := (valV kvs (Sum.inr c)).getD (.str c)
def strV : V → Str → Str
  | .str z, _ => z
  | _, c => c
def mvS (kvs : List (Key × V)) (c : Str) : Str := strV (mv kvs c) c
def samePair : List Str → Bool
  | [a, b] => decide (a = b)
  | _ => false
theorem samePair_len {l : List Str} (h : l.length ≠ 2) : samePair l = false := by
  match l, h with
  | [], _ => rfl
  | [a], _ => rfl
  | [a, b], h => exact absurd rfl h
  | a :: b :: c :: r, _ => rfl
noncomputable def okF (kvs : List (Key × V)) (fs : List Str) : Bool := fs.all (fun c => nameB (mv kvs c)) && !samePair (fs.map (mvS kvs))
theorem nameB_strV {v : V} (c : Str) (h : nameB v = true) : v = .str (strV v c) := by
  cases v with
  | str z => rfl
  | _ => cases h
theorem mv_str {kvs : List (Key × V)} {c : Str} (h : nameB (mv kvs c) = true) : mv kvs c = .str (mvS kvs c) := nameB_strV c h
noncomputable def ren (kvs : List (Key × V)) : Ts → Option Ts
  | .at w fs ts => if okF kvs fs then some (.at w (fs.map (mvS kvs)) ts) else none
  | .un w a => (ren kvs a).map (.un w)
  | .bi w a b => match ren kvs a, ren kvs b with
    | some x, some y => some (.bi w x y)
    | _, _ => none
noncomputable def renL (kvs : List (Key × V)) : List Ts → Option (List Ts)
  | [] => some []
  | k :: r => match ren kvs k, renL kvs r with
    | some x, some y => some (x :: y)
    | _, _ => none
theorem renL_none {kvs : List (Key × V)} {k : Ts} (e : ren kvs k = none) : ∀ {l : List Ts}, k ∈ l → renL kvs l = none
  | a :: r, h => by
    unfold renL
    rcases List.mem_cons.mp h with rfl | h
    · rw [e]
    · rw [renL_none e h]
      cases ren kvs a <;> rfl
theorem renL_snoc {kvs : List (Key × V)} {k x : Ts} (e : ren kvs k = some x) : ∀ {l us : List Ts}, renL kvs l = some us → renL kvs (l ++ [k]) = some (us ++ [x])
  | [], us, h => by
    cases h
    show (match ren kvs k, renL kvs [] with | some x, some y => some (x :: y) | _, _ => none) = _
    rw [e]
    rfl
  | a :: r, us, h => by
    unfold renL at h
    cases ea : ren kvs a with
    | none => rw [ea] at h; cases h
    | some y =>
      cases er : renL kvs r with
      | none => rw [ea, er] at h; cases h
      | some ys =>
        rw [ea, er] at h
        cases h
        show (match ren kvs a, renL kvs (r ++ [k]) with | some x, some y => some (x :: y) | _, _ => none) = _
        rw [ea, renL_snoc e er]
        rfl
theorem okF_nil {kvs : List (Key × V)} : okF kvs [] = true := rfl
theorem ren_none {kvs : List (Key × V)} {t : Ts} (h : renL kvs t.kids = none) : ren kvs t = none := by
  cases t with
  | «at» w fs ts => cases h
  | un w a =>
    unfold ren
    cases e : ren kvs a with
    | none => rfl
    | some x =>
      have h : (match ren kvs a, renL kvs [] with | some x, some y => some (x :: y) | _, _ => none) = none := h
      rw [e] at h
      cases h
  | bi w a b =>
    unfold ren
    cases e : ren kvs a with
    | none => rfl
    | some x =>
      cases f : ren kvs b with
      | none => rfl
      | some y =>
        have h : (match ren kvs a, (match ren kvs b, renL kvs [] with | some x, some y => some (x :: y) | _, _ => none) with | some x, some y => some (x :: y) | _, _ => none) = none := h
        rw [e, f] at h
        cases h
theorem ren_some {kvs : List (Key × V)} {t : Ts} {us : List Ts} (h : renL kvs t.kids = some us) : ren kvs t = if okF kvs t.flds then some (mkT t.word (t.flds.map (mvS kvs)) t.trms us) else none := by
  cases t with
  | «at» w fs ts => cases h; rfl
  | un w a =>
    have h : (match ren kvs a, renL kvs [] with | some x, some y => some (x :: y) | _, _ => none) = some us := h
    cases e : ren kvs a with
    | none => rw [e] at h; cases h
    | some x =>
      rw [e] at h
      cases h
      unfold ren
      rw [e]
      rfl
  | bi w a b =>
    have h : (match ren kvs a, (match ren kvs b, renL kvs [] with | some x, some y => some (x :: y) | _, _ => none) with | some x, some y => some (x :: y) | _, _ => none) = some us := h
    cases e : ren kvs a with
    | none => rw [e] at h; cases h
    | some x =>
      cases f : ren kvs b with
      | none => rw [e, f] at h; cases h
      | some y =>
        rw [e, f] at h
        cases h
        unfold ren
        rw [e, f]
        rfl
theorem flds_cols {t : Ts} {c : Str} (h : c ∈ t.flds) : c ∈ t.cols := by
  cases t with
  | «at» w fs ts => simpa [Ts.cols, Ts.atoms, Ts.flds] using h
  | un w a => exact nomatch h
  | bi w a b => exact nomatch h
theorem kid_cols {t k : Ts} {c : Str} (m : k ∈ t.kids) (h : c ∈ k.cols) : c ∈ t.cols := by
  cases t with
  | «at» w fs ts => exact nomatch m
  | un w a =>
    obtain rfl : k = a := by simpa [Ts.kids] using m
    exact h
  | bi w a b =>
    have m : k = a ∨ k = b := by simpa [Ts.kids] using m
    show c ∈ (a.atoms ++ b.atoms).flatMap Ts.flds
    rw [List.flatMap_append, List.mem_append]
    rcases m with rfl | rfl
    · exact .inl h
    · exact .inr h
theorem flds_colsL (t : Ts) : t.flds.length ≤ t.cols.length := by
  cases t with
  | «at» w fs ts => simp [Ts.cols, Ts.atoms, Ts.flds]
  | un w a => exact Nat.zero_le _
  | bi w a b => exact Nat.zero_le _
theorem kid_colsL {t k : Ts} (m : k ∈ t.kids) : k.cols.length ≤ t.cols.length := by
  cases t with
  | «at» w fs ts => exact nomatch m
  | un w a =>
    obtain rfl : k = a := by simpa [Ts.kids] using m
    exact Nat.le_refl _
  | bi w a b =>
    have m : k = a ∨ k = b := by simpa [Ts.kids] using m
    have e : (Ts.bi w a b).cols.length = a.cols.length + b.cols.length := by
      show ((a.atoms ++ b.atoms).flatMap Ts.flds).length = _
      rw [List.flatMap_append, List.length_append]
      rfl
    rcases m with rfl | rfl <;> omega
theorem TestAt.made2 {C : Addr} {H : Hp} {p dx i f u : Addr} {w : Str} {fs : List Str} {ts : List V} {ks : List Ts} {qs : List Addr} (hl : ks.length ≤ 2) (hz : ks ≠ [] → fs = [] ∧ ts = []) (hp : H p = some (.ins C dx (tf w i f u (sizeK ks : Nat) (depthK ks : Nat)))) (hi : H i = some (.tup (qs.map V.ref))) (hf : H f = some (.tup (fs.map V.str))) (hu : H u = some (.tup ts)) (hR : Row (TestAt C H) ks qs) : TestAt C H (mkT w fs ts ks) p := by
  by_cases hk : ks = []
  · subst hk
    cases hR
    exact ⟨dx, i, f, u, hp, hi, hf, hu⟩
  · obtain ⟨rfl, rfl⟩ := hz hk
    exact TestAt.made hl hp hi hf hu hR
/-- what renaming does: a test, or the one error -/
def OutR (C CB : Addr) (kvs : List (Key × V)) (t : Ts) (H : Hp) (Q : VK) (E : XK) : Prop :=
  (ren kvs t = none → ∀ d H', Ext H H' → H' d = some (xwhy "column") → E (.ref CB) (some d) H') ∧ (∀ u, ren kvs t = some u → ∀ q H', Ext H H' → TestAt C H' u q → Q (.ref q) H')
def spRen (C CB : Addr) (n : Nat) : Sp := fun vs H Q E => ∃ (p d : Addr) (t : Ts) (kvs : List (Key × V)), vs = [.ref p, .ref d] ∧ TestAt C H t p ∧ H d = some (.dK kvs) ∧ (∀ c ∈ t.cols, thing H (mv kvs c)) ∧ t.depth < n ∧ t.cols.length ≤ 1000 ∧ OutR C CB kvs t H Q E
def spNeedX (CB : Addr) : Sp := fun vs H Q E => ∃ v, vs = [v] ∧ thing H v ∧ (nameB v = true → ∀ H', Ext H H' → Q .non H') ∧ (nameB v = false → ∀ d H', Ext H H' → H' d = some (xwhy "column") → E (.ref CB) (some d) H')
section
variable {P : Program} {w : World} {K : PySem.W.Frag} {mg : Str → Option Value} {base : Heap}
theorem ok_need_column_X (T : Txt K mg) : DefX P w K mg base 2 "need_column" ["thing"] (spNeedX (cadr mg "BadTest")) := by
  obtain ⟨f, fd, h⟩ := T.d_need_column
  obtain ⟨fE_BadTest, EB_BadTest⟩ := T.x_BadTest
  refine h.defX (Fun.okMX h.fn sc_need_column (fun vs H Q E h => ?_) (fun cdv A outer s H vs Q E hr h => ?_))
  · obtain ⟨v, rfl, _⟩ := h
    rfl
  · obtain ⟨v, rfl, hv, k1, k2⟩ := h
    refine ⟨_, (pss_one (ps_if (pt_not (pt_val (pe_def (ok_is_name T) hr rfl (pa_cons (pv 0) pa_nil))))
  (pss_one (ps_raiseBadTest rfl EB_BadTest hr (takes_of rfl rfl rfl rfl) (pa_cons pe_str pa_nil)))
  pss_nil)), ?_⟩
    walk_at "g"
    refine ⟨v, rfl, hv, fun H1 x1 => ?_⟩
    cases e : nameB v with
    | true =>
      walk_at "g"
      exact k1 e _ x1
    | false =>
      walk_at "g"
      exact ⟨_, rfl, fun d hd => k2 e d _ (fun q o h => by rw [upd_ne (ne_of_none (x1 q o h) hd)]; exact x1 q o h) upd_same⟩
theorem ok_renN (T : Txt K mg) : ∀ n, DefX P w K mg base (n + 3) "renamed_by" ["test", "mapping"] (spRen (cadr mg "Test") (cadr mg "BadTest") n) := by
  intro n
  induction n with
  | zero =>
    obtain ⟨f, fd, h⟩ := T.d_renamed_by
    obtain ⟨fE_BadTest, EB_BadTest⟩ := T.x_BadTest
    refine h.defX (Fun.okMX h.fn sc_renamed_by (fun vs H Q E h => ?_) (fun cdv A outer s H vs Q E hr h => ?_))
    · obtain ⟨p, d, t, kvs, rfl, _⟩ := h
      rfl
    · obtain ⟨p, d, t, kvs, rfl, hA, hD, hv, hd, hz, kE, kQ⟩ := h
      exact absurd hd (Nat.not_lt_zero _)
  | succ n ih =>
    have ok_renamed_by : ∀ (_ : Txt K mg), DefX P w K mg base (n + 3) "renamed_by" ["test", "mapping"] (spRen (cadr mg "Test") (cadr mg "BadTest") n) := fun _ => ih
    obtain ⟨f, fd, h⟩ := T.d_renamed_by
    obtain ⟨fE_BadTest, EB_BadTest⟩ := T.x_BadTest
    refine h.defX (Fun.okMX h.fn sc_renamed_by (fun vs H Q E h => ?_) (fun cdv A outer s H vs Q E hr h => ?_))
    · obtain ⟨p, d, t, kvs, rfl, _⟩ := h
      rfl
    · obtain ⟨p, d, t, kvs, rfl, hA, hD, hv, hd, hz, kE, kQ⟩ := h
      obtain ⟨dx, i, f, u, qs, hp, hi, hf, hu, hR⟩ := hA.node
      have hlen := hR.len
      have hk2 := Ts.kids_len t
      refine ⟨_, (pss_cons (ps_set (i := 2) sc_renamed_by.nd rfl (Or.inl rfl) (pe_callTy call_tuple_of (by rfl) T.h_tuple (by decide +kernel) (pa_cons (pe_lcX (own := [("part", 5)]) (takes_of rfl rfl rfl rfl) rfl rfl rfl sc_renamed_by.nd (pi_tupG (K := K) rfl (pe_fldG (K := K) rfl (pv 0) rfl)) (blkOk_by (N := N_renamed_by) (sc := defScope S_renamed_by) (by decide +kernel)) (fun _ _ _ _ _ => pg_name (i := 5) sc_renamed_by.nd rfl (Or.inl rfl)) (fun _ _ _ _ _ => pts_nil) (fun _ _ _ _ _ _ _ tkC => (pe_defXC tkC (ok_renamed_by T) hr rfl (pa_cons (pv 5) (pa_cons (pv 1) pa_nil)) (hk := by omega)))) pa_nil)))
  (pss_cons (ps_set (i := 3) sc_renamed_by.nd rfl (Or.inl rfl) (pe_callTy call_tuple_of (by rfl) T.h_tuple (by decide +kernel) (pa_cons (pe_lc (own := [("name", 4)]) rfl sc_renamed_by.nd (pi_tupG (K := K) rfl (pe_fldG (K := K) rfl (pv 0) rfl)) (blkOk_by (N := N_renamed_by) (sc := defScope S_renamed_by) (by decide +kernel)) (fun _ _ _ _ _ => pg_name (i := 4) sc_renamed_by.nd rfl (Or.inl rfl)) (fun _ _ _ _ _ => pts_nil) (fun _ _ _ _ _ => (pe_dget2X (hu_of hr) (pv 1) (pv 4) (pv 4)))) pa_nil)))
  (pss_cons (ps_for (passes_of rfl) rfl (pi_tupG (K := K) rfl (pv 3)) (pg_name (i := 4) sc_renamed_by.nd rfl (Or.inl rfl))
  (pss_one (ps_expr (pe_defX (takes_of rfl rfl rfl rfl) (ok_need_column_X T) hr rfl (pa_cons (pv 4) pa_nil) (hk := by omega)))))
  (pss_cons (ps_if (PW.pt (pw_and (pt_cmpR op_eq (pe_callB (call_lenG (K := K) rfl) (by rfl) T.h_len (by decide +kernel) (pa_cons (pv 3) pa_nil)) pe_int (nomark _)) (pw_and1 (pt_cmpR op_eq (pe_ix (ix_seqG (K := K) rfl) (pv 3) pe_int (fun _ _ => rfl)) (pe_ix (ix_seqG (K := K) rfl) (pv 3) pe_int (fun _ _ => rfl)) (nomark _)))))
  (pss_one (ps_raiseBadTest rfl EB_BadTest hr (takes_of rfl rfl rfl rfl) (pa_cons pe_str pa_nil)))
  pss_nil)
  (pss_one (ps_ret (pe_new (ok_Test_init T) hr rfl T.e_Test (pa_cons (pe_fldG (K := K) rfl (pv 0) rfl) (pa_cons (pv 2) (pa_cons (pv 3) (pa_cons (pe_fldG (K := K) rfl (pv 0) rfl) pa_nil)))) (hk := by omega)))))))), ?_⟩
      walk_at "g"
      refine ⟨p, _, dx, _, _, rfl, hp, T.cl_Test, T.n_Test_inner, tf_inner, ?_⟩
      walk_at "g"
      refine ⟨i, rfl, ⟨_, SqT.of hi⟩, fun D hDn => ?_⟩
      refine lc_tup (K := K) (a := i) (xs := qs.map V.ref) (fun j H' => (∃ us rs, renL kvs (t.kids.take j) = some us ∧ H' D = some (.lst (rs.map V.ref)) ∧ Row (TestAt (cadr mg "Test") H') us rs ∧ rs.length = j) ∧ Ext H H') ⟨⟨[], [], rfl, upd_same, .nil, rfl⟩, fun q o h => by rw [upd_ne (ne_of_none h hDn)]; exact h⟩ (fun j H' _ p => SqT.of (p.2 _ _ hi)) ?_ ?_
      · rintro j x H2 hj ⟨⟨us, rs, hren, hD2, hrow, hrl⟩, x2⟩
        rw [List.getElem?_map] at hj
        obtain ⟨q, hq, rfl⟩ := Option.map_eq_some_iff.mp hj
        obtain ⟨kt, hkt, A⟩ := hR.get hq
        have hmem := List.mem_of_getElem? hkt
        have hdep := Ts.kids_depth hmem
        walk_at "g"
        refine ⟨rfl, ?_⟩
        walk_at "g"
        refine ⟨q, d, kt, kvs, rfl, A.keep x2, x2 _ _ hD, fun c m => (hv c (kid_cols hmem m)).keep x2, by omega, Nat.le_trans (kid_colsL hmem) hz, fun e dd H' x h => kE (ren_none (renL_none e hmem)) dd _ (fun q o h => x _ _ (x2 _ _ h)) h, fun u' e q' H' x A' => ?_⟩
        have hD' := x _ _ hD2
        refine ⟨_, hD', ?_, ⟨us ++ [u'], rs ++ [q'], ?_, ?_, ?_, by simp [hrl]⟩, fun q o h => by rw [upd_ne (ne_of_none h hDn)]; exact x _ _ (x2 _ _ h)⟩
        · have hj3 := (List.getElem?_eq_some_iff.mp hkt).1
          rw [List.length_map, hrl, sizeLine_eq]
          omega
        · rw [List.take_succ, hkt]
          exact renL_snoc e hren
        · rw [upd_same, List.map_append]
          rfl
        · have kk : ∀ b o, b ≠ D → H' b = some o → (upd H' D (.lst (rs.map V.ref ++ [.ref q']))) b = some o := fun b o n h => by rw [upd_ne n]; exact h
          have nn : ∀ o, H' D = some o → (∀ dx l, o = .ins (cadr mg "Test") dx l → l = []) ∧ ∀ l, o ≠ .tup l := fun o h => by
            rw [hD'] at h
            cases h
            exact ⟨(fun _ _ e => nomatch e), fun _ e => nomatch e⟩
          exact (hrow.mono fun _ _ h => (h.keep x).keepN kk nn).app (.cons (A'.keepN kk nn) .nil)
      · rintro H2 ⟨⟨us, rs, hren, hD2, hrow, hrl⟩, x2⟩
        rw [List.length_map, hlen, List.take_length] at hren
        have hso := ren_some hren
        have hul : us.length = t.kids.length := by rw [← hrow.len, hrl, List.length_map, hlen]
        walk_at "g"
        refine ⟨D, _, rfl, .inl ⟨SqL.of hD2, fun l hl => ?_⟩⟩
        have x3 : Ext H2 (upd H2 l (.tup (rs.map V.ref))) := fun q o h => by rw [upd_ne (ne_of_none h hl)]; exact h
        have hinner : (upd H2 l (.tup (rs.map V.ref))) l = some (.tup (rs.map V.ref)) := upd_same
        have row3 : Row (TestAt (cadr mg "Test") (upd H2 l (.tup (rs.map V.ref)))) us rs := hrow.mono fun _ _ h => h.keep x3
        have x03 : Ext H (upd H2 l (.tup (rs.map V.ref))) := fun q o h => x3 _ _ (x2 _ _ h)
        generalize upd H2 l (.tup (rs.map V.ref)) = H3 at x3 hinner row3 x03
        walk_at "g"
        refine ⟨p, _, dx, _, _, rfl, x03 _ _ hp, T.cl_Test, T.n_Test_fields, tf_fields, ?_⟩
        walk_at "g"
        refine ⟨f, rfl, ⟨_, SqT.of (x03 _ _ hf)⟩, fun D2 hD2n => ?_⟩
        refine lc_tup (K := K) (a := f) (xs := t.flds.map V.str) (fun j H' => H' D2 = some (.lst ((t.flds.take j).map (mv kvs))) ∧ Ext H3 H') ⟨upd_same, fun q o h => by rw [upd_ne (ne_of_none h hD2n)]; exact h⟩ (fun j H' _ p => SqT.of (p.2 _ _ (x03 _ _ hf))) ?_ ?_
        · rintro j x H4 hj ⟨hD4, x4⟩
          rw [List.getElem?_map] at hj
          obtain ⟨c, hc, rfl⟩ := Option.map_eq_some_iff.mp hj
          have hd4 := x4 _ _ (x03 _ _ hD)
          walk_at "g"
          refine ⟨rfl, ?_⟩
          walk_at "g"
          refine ⟨d, rfl, .inl ⟨kvs, .inl hd4⟩, ?_⟩
          walk_at "g"
          refine ⟨_, DGet.k (k := Sum.inr c) hd4, _, hD4, ?_, ?_, fun q o h => by rw [upd_ne (ne_of_none h hD2n)]; exact x4 _ _ h⟩
          · have h3 := (List.getElem?_eq_some_iff.mp hc).1
            have := flds_colsL t
            rw [List.length_map, List.length_take, sizeLine_eq]
            omega
          · rw [upd_same, List.take_succ, hc, List.map_append]
            rfl
        · rintro H4 ⟨hD4, x4⟩
          rw [List.length_map, List.take_length] at hD4
          walk_at "g"
          refine ⟨D2, _, rfl, .inl ⟨SqL.of hD4, fun fl hfl => ?_⟩⟩
          have x5 : Ext H4 (upd H4 fl (.tup (t.flds.map (mv kvs)))) := fun q o h => by rw [upd_ne (ne_of_none h hfl)]; exact h
          have hF : (upd H4 fl (.tup (t.flds.map (mv kvs)))) fl = some (.tup (t.flds.map (mv kvs))) := upd_same
          have x05 : Ext H (upd H4 fl (.tup (t.flds.map (mv kvs)))) := fun q o h => x5 _ _ (x4 _ _ (x03 _ _ h))
          have hinner5 := x5 _ _ (x4 _ _ hinner)
          have row5 : Row (TestAt (cadr mg "Test") (upd H4 fl (.tup (t.flds.map (mv kvs))))) us rs := row3.mono fun _ _ h => h.keep fun q o h => x5 _ _ (x4 _ _ h)
          generalize upd H4 fl (.tup (t.flds.map (mv kvs))) = H5 at x5 hF x05 hinner5 row5
          walk_at "g"
          refine ⟨fl, rfl, ⟨_, SqT.of hF⟩, ?_⟩
          refine for_tupA (xs := t.flds.map (mv kvs)) (fun j σ' H' => (∃ v4, σ' = [some (.ref p), some (.ref d), some (.ref l), some (.ref fl), v4, none]) ∧ Ext H5 H' ∧ ∀ c ∈ t.flds.take j, nameB (mv kvs c) = true) ⟨⟨none, rfl⟩, fun q o h => h, fun c h => nomatch h⟩ (fun _ _ H' _ e => SqT.of (e.2.1 _ _ hF)) ?_ ?_
          · rintro j x σ' H6 D' hj ⟨⟨v4, rfl⟩, x6, hall⟩ hnx hct hbk hrt
            rw [List.getElem?_map] at hj
            obtain ⟨c, hc, rfl⟩ := Option.map_eq_some_iff.mp hj
            have hcm := List.mem_of_getElem? hc
            walk_at "g"
            refine ⟨_, rfl, (hv c (flds_cols hcm)).keep fun q o h => x6 _ _ (x05 _ _ h), fun e H' x => ?_, fun e dd H' x h => kE ?_ dd _ (fun q o h => x _ _ (x6 _ _ (x05 _ _ h))) h⟩
            · walk_at "g"
              refine hnx _ _ ⟨⟨_, rfl⟩, fun q o h => x _ _ (x6 _ _ h), fun c' h => ?_⟩
              rw [List.take_succ, hc] at h
              rcases List.mem_append.mp h with h | h
              · exact hall _ h
              · rw [List.mem_singleton.mp h]; exact e
            · rw [hso, if_neg]
              unfold okF
              rw [show t.flds.all (fun c => nameB (mv kvs c)) = false from ?_]
              · simp
              · exact List.all_eq_false.mpr ⟨c, hcm, by rw [e]; decide⟩
          · rintro σ' H6 ⟨⟨v4, rfl⟩, x6, hall⟩
            rw [List.length_map, List.take_length] at hall
            have hmap : t.flds.map (mv kvs) = (t.flds.map (mvS kvs)).map V.str := by
              rw [List.map_map]
              exact List.map_congr_left fun c m => mv_str (hall c m)
            have hF6 := x6 _ _ hF
            rw [hmap] at hF6
            have hall' : t.flds.all (fun c => nameB (mv kvs c)) = true := List.all_eq_true.mpr hall
            have done : samePair (t.flds.map (mvS kvs)) = false → ren kvs t = some (mkT t.word (t.flds.map (mvS kvs)) t.trms us) := fun h => by
              rw [hso, if_pos]
              unfold okF
              rw [hall', h]
              rfl
            have bad : samePair (t.flds.map (mvS kvs)) = true → ren kvs t = none := fun h => by
              rw [hso, if_neg]
              unfold okF
              rw [hall', h]
              decide
            have row6 : Row (TestAt (cadr mg "Test") H6) us rs := row5.mono fun _ _ h => h.keep x6
            have hin6 := x6 _ _ hinner5
            have x06 : Ext H H6 := fun q o h => x6 _ _ (x05 _ _ h)
            -- the new test
            have made : samePair (t.flds.map (mvS kvs)) = false → ∀ x dx2, H6 x = none → H6 dx2 = none → dx2 ≠ x → ∀ H', (∀ q o, q ≠ x → (upd (upd H6 dx2 (.own x)) x (.ins (cadr mg "Test") dx2 [])) q = some o → H' q = some o) → H' x = some (.ins (cadr mg "Test") dx2 (tf t.word l fl u (sizeK us : Nat) (depthK us : Nat))) → Q (.ref x) H' := fun hs x dx2 hx hdx hne H' k' h' => by
              have kk : ∀ q o, H6 q = some o → H' q = some o := fun q o h => k' q o (ne_of_none h hx) (by rw [upd_ne (ne_of_none h hx), upd_ne (ne_of_none h hdx)]; exact h)
              refine kQ _ (done hs) x H' (fun q o h => kk _ _ (x06 _ _ h)) (TestAt.made2 (by omega) (fun hne => ?_) h' (kk _ _ hin6) (kk _ _ hF6) (kk _ _ (x06 _ _ hu)) (row6.mono fun _ _ h => h.keep kk))
              have hkn : t.kids ≠ [] := fun e => hne (List.length_eq_zero_iff.mp (by rw [hul, e]; rfl))
              cases t with
              | «at» w fs ts => exact absurd rfl hkn
              | un w a => exact ⟨rfl, rfl⟩
              | bi w a b => exact ⟨rfl, rfl⟩
            walk_at "g"
            refine g_lenT (SqT.of hF6) ?_
            walk_at "g"
            refine g_dec (fun h2 => ?_) (fun h2 => ?_)
            · have h2 : (t.flds.map (mvS kvs)).length = 2 := by rw [List.length_map] at h2 ⊢; rw [List.length_map] at h2; omega
              cases e1 : t.flds.map (mvS kvs) with
              | nil => rw [e1] at h2; cases h2
              | cons a r =>
                cases e2 : r with
                | nil => rw [e1, e2] at h2; cases h2
                | cons b r2 =>
                  cases e3 : r2 with
                  | cons c r3 => rw [e1, e2, e3] at h2; cases h2
                  | nil =>
                    subst e3 e2
                    rw [e1] at hF6 made bad
                    walk_at "g"
                    refine g_ixT (SqT.of hF6) (v := .str a) (by rfl) ?_
                    walk_at "g"
                    refine g_ixT (SqT.of hF6) (v := .str b) (by rfl) ?_
                    walk_at "g"
                    refine g_dec (fun hab => ?_) (fun hab => ?_)
                    · walk_at "g"
                      exact ⟨_, rfl, fun dd hdd => kE (bad (decide_eq_true hab)) dd _ (fun q o h => by rw [upd_ne (ne_of_none (x06 q o h) hdd)]; exact x06 q o h) upd_same⟩
                    · walk_at "g"
                      refine ⟨p, _, dx, _, _, rfl, x06 _ _ hp, T.cl_Test, T.n_Test_word, tf_word, ?_⟩
                      walk_at "g"
                      refine ⟨p, _, dx, _, _, rfl, x06 _ _ hp, T.cl_Test, T.n_Test_terms, tf_terms, ?_⟩
                      walk_at "g"
                      intro x dx2 hx hdx hne
                      have kn : ∀ q o, H6 q = some o → (upd (upd H6 dx2 (.own x)) x (.ins (cadr mg "Test") dx2 [])) q = some o := fun q o h => by rw [upd_ne (ne_of_none h hx), upd_ne (ne_of_none h hdx)]; exact h
                      exact ⟨x, dx2, l, fl, u, t.word, us, rs, rfl, upd_same, kn _ _ hin6, row6.mono fun _ _ h => h.keep kn, by omega, fun H' k' h' => ⟨rfl, made (decide_eq_false hab) x dx2 hx hdx hne H' k' h'⟩⟩
            · walk_at "g"
              refine ⟨p, _, dx, _, _, rfl, x06 _ _ hp, T.cl_Test, T.n_Test_word, tf_word, ?_⟩
              walk_at "g"
              refine ⟨p, _, dx, _, _, rfl, x06 _ _ hp, T.cl_Test, T.n_Test_terms, tf_terms, ?_⟩
              walk_at "g"
              intro x dx2 hx hdx hne
              have kn : ∀ q o, H6 q = some o → (upd (upd H6 dx2 (.own x)) x (.ins (cadr mg "Test") dx2 [])) q = some o := fun q o h => by rw [upd_ne (ne_of_none h hx), upd_ne (ne_of_none h hdx)]; exact h
              exact ⟨x, dx2, l, fl, u, t.word, us, rs, rfl, upd_same, kn _ _ hin6, row6.mono fun _ _ h => h.keep kn, by omega, fun H' k' h' => ⟨rfl, made (samePair_len fun e => h2 (by rw [List.length_map] at e ⊢; rw [List.length_map]; omega)) x dx2 hx hdx hne H' k' h'⟩⟩
theorem ok_renamed_by (T : Txt K mg) : DefX P w K mg base 16 "renamed_by" ["test", "mapping"] (spRen (cadr mg "Test") (cadr mg "BadTest") 13) := ok_renN T 13
end
/-! a form with its columns renamed -/
def At.move (m : Str → Str) : At → At
  | .always => .always
  | .never => .never
  | .empty c => .empty (m c)
  | .among c vs => .among (m c) vs
  | .begins c z => .begins (m c) z
  | .compare c op v => .compare (m c) op v
  | .against c op d n => .against (m c) op (m d) n
def Fm.move (m : Str → Str) : Fm → Fm
  | .at a => .at (a.move m)
  | .un w f => .un w (f.move m)
  | .bi w f g => .bi w (f.move m) (g.move m)
def spMoved (n : Nat) : Sp := fun vs H Q _ => ∃ (q d : Addr) (f : Fm) (κ : List (Str × Bool)) (kvs : List (Key × V)), vs = [.ref q, .ref d] ∧ FormAt H f q ∧ f.Wf κ ∧ H d = some (.dK kvs) ∧ (∀ c ∈ f.cols, nameB (mv kvs c) = true) ∧ f.ts.depth < n ∧ ∀ r H', Ext H H' → FormAt H' (f.move (mvS kvs)) r → Q (.ref r) H'
section
variable {P : Program} {w : World} {K : PySem.W.Frag} {mg : Str → Option Value} {base : Heap}
theorem ok_movedN (T : Txt K mg) : ∀ n, Def P w K mg base (n + 1) "_law_moved" ["_law_form_here", "_law_mapping"] (spMoved n) := by
  intro n
  induction n with
  | zero =>
    obtain ⟨f, fd, h⟩ := T.d__law_moved
    refine h.def (Fun.okM h.fn sc__law_moved (fun vs H Q E h => ?_) (fun cdv A outer s H vs Q E hr h => ?_))
    · obtain ⟨q, d, f, κ, kvs, rfl, _⟩ := h
      rfl
    · obtain ⟨q, d, f, κ, kvs, rfl, hF, hw, hD, hin, hd, k⟩ := h
      exact absurd hd (Nat.not_lt_zero _)
  | succ n ih =>
    have ok__law_moved : Txt K mg → Def P w K mg base (n + 1) "_law_moved" ["_law_form_here", "_law_mapping"] (spMoved n) := fun _ => ih
    obtain ⟨f, fd, h⟩ := T.d__law_moved
    refine h.def (Fun.okM h.fn sc__law_moved (fun vs H Q E h => ?_) (fun cdv A outer s H vs Q E hr h => ?_))
    · obtain ⟨q, d, f, κ, kvs, rfl, _⟩ := h
      rfl
    · obtain ⟨q, d, f, κ, kvs, rfl, hF, hw, hD, hin, hd, k⟩ := h
      refine ⟨_, (pss_cons (ps_set (i := 2) sc__law_moved.nd rfl (Or.inl rfl) (pe_ix (ix_seqG (K := K) rfl) (pv 0) pe_int (fun _ _ => rfl)))
  (pss_cons (ps_if (PW.pt (pw_or (pt_cmpR op_eq (pv 2) pe_str (nomark _)) (pw_or1 (pt_cmpR op_eq (pv 2) pe_str (nomark _)))))
  (pss_one (ps_ret (pe_tup (pa_cons (pv 2) (pa_cons (pe_def (ok__law_moved T) hr rfl (pa_cons (pe_ix (ix_seqG (K := K) rfl) (pv 0) pe_int (fun _ _ => rfl)) (pa_cons (pv 1) pa_nil)) (hk := by omega)) (pa_cons (pe_def (ok__law_moved T) hr rfl (pa_cons (pe_ix (ix_seqG (K := K) rfl) (pv 0) pe_int (fun _ _ => rfl)) (pa_cons (pv 1) pa_nil)) (hk := by omega)) pa_nil))))))
  pss_nil)
  (pss_cons (ps_if (PW.pt (pw_or (pt_cmpR op_eq (pv 2) pe_str (nomark _)) (pw_or1 (pt_cmpR op_eq (pv 2) pe_str (nomark _)))))
  (pss_one (ps_ret (pe_tup (pa_cons (pv 2) (pa_cons (pe_def (ok__law_moved T) hr rfl (pa_cons (pe_ix (ix_seqG (K := K) rfl) (pv 0) pe_int (fun _ _ => rfl)) (pa_cons (pv 1) pa_nil)) (hk := by omega)) pa_nil)))))
  pss_nil)
  (pss_cons (ps_if (PW.pt (pw_or (pt_cmpR op_eq (pv 2) pe_str (nomark _)) (pw_or1 (pt_cmpR op_eq (pv 2) pe_str (nomark _)))))
  (pss_one (ps_ret (pv 0)))
  pss_nil)
  (pss_cons (ps_set (i := 3) sc__law_moved.nd rfl (Or.inl rfl) (pe_dget2X (hu_of hr) (pv 1) (pe_ix (ix_seqG (K := K) rfl) (pv 0) pe_int (fun _ _ => rfl)) (pe_ix (ix_seqG (K := K) rfl) (pv 0) pe_int (fun _ _ => rfl))))
  (pss_cons (ps_if (pt_cmpR op_eq (pv 2) pe_str (nomark _))
  (pss_one (ps_ret (pe_tup (pa_cons (pv 2) (pa_cons (pv 3) pa_nil)))))
  pss_nil)
  (pss_cons (ps_if (pt_cmpR op_eq (pv 2) pe_str (nomark _))
  (pss_one (ps_ret (pe_tup (pa_cons (pv 2) (pa_cons (pv 3) (pa_cons (pe_ix (ix_seqG (K := K) rfl) (pv 0) pe_int (fun _ _ => rfl)) (pa_cons (pe_dget2X (hu_of hr) (pv 1) (pe_ix (ix_seqG (K := K) rfl) (pv 0) pe_int (fun _ _ => rfl)) (pe_ix (ix_seqG (K := K) rfl) (pv 0) pe_int (fun _ _ => rfl))) (pa_cons (pe_ix (ix_seqG (K := K) rfl) (pv 0) pe_int (fun _ _ => rfl)) pa_nil))))))))
  pss_nil)
  (pss_cons (ps_if (pt_cmpR op_eq (pv 2) pe_str (nomark _))
  (pss_one (ps_ret (pe_tup (pa_cons (pv 2) (pa_cons (pv 3) (pa_cons (pe_ix (ix_seqG (K := K) rfl) (pv 0) pe_int (fun _ _ => rfl)) (pa_cons (pe_ix (ix_seqG (K := K) rfl) (pv 0) pe_int (fun _ _ => rfl)) pa_nil)))))))
  pss_nil)
  (pss_one (ps_ret (pe_tup (pa_cons (pv 2) (pa_cons (pv 3) (pa_cons (pe_ix (ix_seqG (K := K) rfl) (pv 0) pe_int (fun _ _ => rfl)) pa_nil)))))))))))))), ?_⟩
      cases f with
      | bi wd a b =>
        obtain ⟨q1, q2, hA, h1, h2⟩ := hF
        obtain ⟨hwd, w1, w2⟩ := hw
        have hd' : max a.ts.depth b.ts.depth + 1 < n + 1 := hd
        have c1 : ∀ c ∈ a.cols, nameB (mv kvs c) = true := fun c hc => hin c (List.mem_append.mpr (.inl hc))
        have c2 : ∀ c ∈ b.cols, nameB (mv kvs c) = true := fun c hc => hin c (List.mem_append.mpr (.inr hc))
        walk_at "g"
        refine g_ixT (SqT.of hA) (v := .str wd) (by rfl) ?_
        walk_at "g"
        rcases hwd with rfl | rfl
        · refine g_dec (fun _ => ?_) (fun h => absurd rfl h)
          walk_at "g"
          refine g_ixT (SqT.of hA) (v := .ref q1) (by rfl) ?_
          walk_at "g"
          refine ⟨q1, d, a, κ, kvs, rfl, h1, w1, hD, c1, by omega, fun r1 H1 x1 A1 => ?_⟩
          walk_at "g"
          refine g_ixT (SqT.of (x1 _ _ hA)) (v := .ref q2) (by rfl) ?_
          walk_at "g"
          refine ⟨q2, d, b, κ, kvs, rfl, h2.keep x1, w2, x1 _ _ hD, c2, by omega, fun r2 H2 x2 A2 => ?_⟩
          walk_at "g"
          refine ⟨by show 3 ≤ sizeLine; decide, fun t ht => ?_⟩
          walk_at "g"
          exact k t _ (fun q o h => ext_new ht _ _ (x2 _ _ (x1 _ _ h))) ⟨r1, r2, upd_same, (A1.keep x2).keep (ext_new ht), A2.keep (ext_new ht)⟩
        · refine g_dec (fun h => absurd h (show ("or" : Str) ≠ "and" by decide +kernel)) (fun _ => ?_)
          walk_at "g"
          refine g_dec (fun _ => ?_) (fun h => absurd rfl h)
          walk_at "g"
          refine g_ixT (SqT.of hA) (v := .ref q1) (by rfl) ?_
          walk_at "g"
          refine ⟨q1, d, a, κ, kvs, rfl, h1, w1, hD, c1, by omega, fun r1 H1 x1 A1 => ?_⟩
          walk_at "g"
          refine g_ixT (SqT.of (x1 _ _ hA)) (v := .ref q2) (by rfl) ?_
          walk_at "g"
          refine ⟨q2, d, b, κ, kvs, rfl, h2.keep x1, w2, x1 _ _ hD, c2, by omega, fun r2 H2 x2 A2 => ?_⟩
          walk_at "g"
          refine ⟨by show 3 ≤ sizeLine; decide, fun t ht => ?_⟩
          walk_at "g"
          exact k t _ (fun q o h => ext_new ht _ _ (x2 _ _ (x1 _ _ h))) ⟨r1, r2, upd_same, (A1.keep x2).keep (ext_new ht), A2.keep (ext_new ht)⟩
      | un wd a =>
        obtain ⟨q1, hA, h1⟩ := hF
        obtain ⟨hwd, w1⟩ := hw
        have hd' : a.ts.depth + 1 < n + 1 := hd
        walk_at "g"
        refine g_ixT (SqT.of hA) (v := .str wd) (by rfl) ?_
        walk_at "g"
        rcases hwd with rfl | rfl
        · refine g_dec (fun h => absurd h (show ("not" : Str) ≠ "and" by decide +kernel)) (fun _ => ?_)
          walk_at "g"
          refine g_dec (fun h => absurd h (show ("not" : Str) ≠ "or" by decide +kernel)) (fun _ => ?_)
          walk_at "g"
          refine g_dec (fun _ => ?_) (fun h => absurd rfl h)
          walk_at "g"
          refine g_ixT (SqT.of hA) (v := .ref q1) (by rfl) ?_
          walk_at "g"
          refine ⟨q1, d, a, κ, kvs, rfl, h1, w1, hD, hin, by omega, fun r1 H1 x1 A1 => ?_⟩
          walk_at "g"
          refine ⟨by show 2 ≤ sizeLine; decide, fun t ht => ?_⟩
          walk_at "g"
          exact k t _ (fun q o h => ext_new ht _ _ (x1 _ _ h)) ⟨r1, upd_same, A1.keep (ext_new ht)⟩
        · refine g_dec (fun h => absurd h (show ("sure" : Str) ≠ "and" by decide +kernel)) (fun _ => ?_)
          walk_at "g"
          refine g_dec (fun h => absurd h (show ("sure" : Str) ≠ "or" by decide +kernel)) (fun _ => ?_)
          walk_at "g"
          refine g_dec (fun h => absurd h (show ("sure" : Str) ≠ "not" by decide +kernel)) (fun _ => ?_)
          walk_at "g"
          refine g_dec (fun _ => ?_) (fun h => absurd rfl h)
          walk_at "g"
          refine g_ixT (SqT.of hA) (v := .ref q1) (by rfl) ?_
          walk_at "g"
          refine ⟨q1, d, a, κ, kvs, rfl, h1, w1, hD, hin, by omega, fun r1 H1 x1 A1 => ?_⟩
          walk_at "g"
          refine ⟨by show 2 ≤ sizeLine; decide, fun t ht => ?_⟩
          walk_at "g"
          exact k t _ (fun q o h => ext_new ht _ _ (x1 _ _ h)) ⟨r1, upd_same, A1.keep (ext_new ht)⟩
      | «at» a =>
        cases a with
        | always =>
          have hA : H q = some (.tup [.str "always"]) := hF
          walk_at "g"
          refine g_ixT (SqT.of hA) (v := .str "always") (by rfl) ?_
          walk_at "g"
          refine g_dec (fun h => absurd h (show ("always" : Str) ≠ "and" by decide +kernel)) (fun _ => ?_)
          walk_at "g"
          refine g_dec (fun h => absurd h (show ("always" : Str) ≠ "or" by decide +kernel)) (fun _ => ?_)
          walk_at "g"
          refine g_dec (fun h => absurd h (show ("always" : Str) ≠ "not" by decide +kernel)) (fun _ => ?_)
          walk_at "g"
          refine g_dec (fun h => absurd h (show ("always" : Str) ≠ "sure" by decide +kernel)) (fun _ => ?_)
          walk_at "g"
          refine g_dec (fun _ => ?_) (fun h => absurd rfl h)
          walk_at "g"
          exact k q H (fun _ _ h => h) hF
        | never =>
          have hA : H q = some (.tup [.str "never"]) := hF
          walk_at "g"
          refine g_ixT (SqT.of hA) (v := .str "never") (by rfl) ?_
          walk_at "g"
          refine g_dec (fun h => absurd h (show ("never" : Str) ≠ "and" by decide +kernel)) (fun _ => ?_)
          walk_at "g"
          refine g_dec (fun h => absurd h (show ("never" : Str) ≠ "or" by decide +kernel)) (fun _ => ?_)
          walk_at "g"
          refine g_dec (fun h => absurd h (show ("never" : Str) ≠ "not" by decide +kernel)) (fun _ => ?_)
          walk_at "g"
          refine g_dec (fun h => absurd h (show ("never" : Str) ≠ "sure" by decide +kernel)) (fun _ => ?_)
          walk_at "g"
          refine g_dec (fun h => absurd h (show ("never" : Str) ≠ "always" by decide +kernel)) (fun _ => ?_)
          walk_at "g"
          refine g_dec (fun _ => ?_) (fun h => absurd rfl h)
          walk_at "g"
          exact k q H (fun _ _ h => h) hF
        | empty c =>
          have hA : H q = some (.tup [.str "empty", .str c]) := hF
          have ec : (valV kvs (Sum.inr c)).getD (.str c) = .str (mvS kvs c) := mv_str (hin c (by simp [Fm.cols, At.flds]))
          walk_at "g"
          refine g_ixT (SqT.of hA) (v := .str "empty") (by rfl) ?_
          walk_at "g"
          refine g_dec (fun h => absurd h (show ("empty" : Str) ≠ "and" by decide +kernel)) (fun _ => ?_)
          walk_at "g"
          refine g_dec (fun h => absurd h (show ("empty" : Str) ≠ "or" by decide +kernel)) (fun _ => ?_)
          walk_at "g"
          refine g_dec (fun h => absurd h (show ("empty" : Str) ≠ "not" by decide +kernel)) (fun _ => ?_)
          walk_at "g"
          refine g_dec (fun h => absurd h (show ("empty" : Str) ≠ "sure" by decide +kernel)) (fun _ => ?_)
          walk_at "g"
          refine g_dec (fun h => absurd h (show ("empty" : Str) ≠ "always" by decide +kernel)) (fun _ => ?_)
          walk_at "g"
          refine g_dec (fun h => absurd h (show ("empty" : Str) ≠ "never" by decide +kernel)) (fun _ => ?_)
          walk_at "g"
          refine ⟨d, rfl, .inl ⟨kvs, .inl hD⟩, ?_⟩
          walk_at "g"
          refine g_ixT (SqT.of hA) (v := .str c) (by rfl) ?_
          walk_at "g"
          refine g_ixT (SqT.of hA) (v := .str c) (by rfl) ?_
          refine ⟨_, DGet.k (k := Sum.inr c) hD, ?_⟩
          rw [ec]
          walk_at "g"
          refine g_dec (fun _ => ?_) (fun h => absurd rfl h)
          walk_at "g"
          refine ⟨by show 2 ≤ sizeLine; decide, fun t ht => ?_⟩
          walk_at "g"
          exact k t _ (ext_new ht) upd_same
        | among c vs =>
          obtain ⟨l, kd, hA, hl, hne, hvs⟩ := hF
          have ec : (valV kvs (Sum.inr c)).getD (.str c) = .str (mvS kvs c) := mv_str (hin c (by simp [Fm.cols, At.flds]))
          walk_at "g"
          refine g_ixT (SqT.of hA) (v := .str "among") (by rfl) ?_
          walk_at "g"
          refine g_dec (fun h => absurd h (show ("among" : Str) ≠ "and" by decide +kernel)) (fun _ => ?_)
          walk_at "g"
          refine g_dec (fun h => absurd h (show ("among" : Str) ≠ "or" by decide +kernel)) (fun _ => ?_)
          walk_at "g"
          refine g_dec (fun h => absurd h (show ("among" : Str) ≠ "not" by decide +kernel)) (fun _ => ?_)
          walk_at "g"
          refine g_dec (fun h => absurd h (show ("among" : Str) ≠ "sure" by decide +kernel)) (fun _ => ?_)
          walk_at "g"
          refine g_dec (fun h => absurd h (show ("among" : Str) ≠ "always" by decide +kernel)) (fun _ => ?_)
          walk_at "g"
          refine g_dec (fun h => absurd h (show ("among" : Str) ≠ "never" by decide +kernel)) (fun _ => ?_)
          walk_at "g"
          refine ⟨d, rfl, .inl ⟨kvs, .inl hD⟩, ?_⟩
          walk_at "g"
          refine g_ixT (SqT.of hA) (v := .str c) (by rfl) ?_
          walk_at "g"
          refine g_ixT (SqT.of hA) (v := .str c) (by rfl) ?_
          refine ⟨_, DGet.k (k := Sum.inr c) hD, ?_⟩
          rw [ec]
          walk_at "g"
          refine g_dec (fun h => absurd h (show ("among" : Str) ≠ "empty" by decide +kernel)) (fun _ => ?_)
          walk_at "g"
          refine g_dec (fun h => absurd h (show ("among" : Str) ≠ "against" by decide +kernel)) (fun _ => ?_)
          walk_at "g"
          refine g_dec (fun h => absurd h (show ("among" : Str) ≠ "compare" by decide +kernel)) (fun _ => ?_)
          walk_at "g"
          refine g_ixT (SqT.of hA) (v := .ref l) (by rfl) ?_
          walk_at "g"
          refine ⟨by show 3 ≤ sizeLine; decide, fun t ht => ?_⟩
          walk_at "g"
          exact k t _ (ext_new ht) ⟨l, kd, upd_same, ext_new ht _ _ hl, hne, hvs⟩
        | begins c z =>
          have hA : H q = some (.tup [.str "begins", .str c, .str z]) := hF
          have ec : (valV kvs (Sum.inr c)).getD (.str c) = .str (mvS kvs c) := mv_str (hin c (by simp [Fm.cols, At.flds]))
          walk_at "g"
          refine g_ixT (SqT.of hA) (v := .str "begins") (by rfl) ?_
          walk_at "g"
          refine g_dec (fun h => absurd h (show ("begins" : Str) ≠ "and" by decide +kernel)) (fun _ => ?_)
          walk_at "g"
          refine g_dec (fun h => absurd h (show ("begins" : Str) ≠ "or" by decide +kernel)) (fun _ => ?_)
          walk_at "g"
          refine g_dec (fun h => absurd h (show ("begins" : Str) ≠ "not" by decide +kernel)) (fun _ => ?_)
          walk_at "g"
          refine g_dec (fun h => absurd h (show ("begins" : Str) ≠ "sure" by decide +kernel)) (fun _ => ?_)
          walk_at "g"
          refine g_dec (fun h => absurd h (show ("begins" : Str) ≠ "always" by decide +kernel)) (fun _ => ?_)
          walk_at "g"
          refine g_dec (fun h => absurd h (show ("begins" : Str) ≠ "never" by decide +kernel)) (fun _ => ?_)
          walk_at "g"
          refine ⟨d, rfl, .inl ⟨kvs, .inl hD⟩, ?_⟩
          walk_at "g"
          refine g_ixT (SqT.of hA) (v := .str c) (by rfl) ?_
          walk_at "g"
          refine g_ixT (SqT.of hA) (v := .str c) (by rfl) ?_
          refine ⟨_, DGet.k (k := Sum.inr c) hD, ?_⟩
          rw [ec]
          walk_at "g"
          refine g_dec (fun h => absurd h (show ("begins" : Str) ≠ "empty" by decide +kernel)) (fun _ => ?_)
          walk_at "g"
          refine g_dec (fun h => absurd h (show ("begins" : Str) ≠ "against" by decide +kernel)) (fun _ => ?_)
          walk_at "g"
          refine g_dec (fun h => absurd h (show ("begins" : Str) ≠ "compare" by decide +kernel)) (fun _ => ?_)
          walk_at "g"
          refine g_ixT (SqT.of hA) (v := .str z) (by rfl) ?_
          walk_at "g"
          refine ⟨by show 3 ≤ sizeLine; decide, fun t ht => ?_⟩
          walk_at "g"
          exact k t _ (ext_new ht) upd_same
        | compare c op v =>
          have hA : H q = some (.tup [.str "compare", .str c, .str op, v]) := hF
          have ec : (valV kvs (Sum.inr c)).getD (.str c) = .str (mvS kvs c) := mv_str (hin c (by simp [Fm.cols, At.flds]))
          walk_at "g"
          refine g_ixT (SqT.of hA) (v := .str "compare") (by rfl) ?_
          walk_at "g"
          refine g_dec (fun h => absurd h (show ("compare" : Str) ≠ "and" by decide +kernel)) (fun _ => ?_)
          walk_at "g"
          refine g_dec (fun h => absurd h (show ("compare" : Str) ≠ "or" by decide +kernel)) (fun _ => ?_)
          walk_at "g"
          refine g_dec (fun h => absurd h (show ("compare" : Str) ≠ "not" by decide +kernel)) (fun _ => ?_)
          walk_at "g"
          refine g_dec (fun h => absurd h (show ("compare" : Str) ≠ "sure" by decide +kernel)) (fun _ => ?_)
          walk_at "g"
          refine g_dec (fun h => absurd h (show ("compare" : Str) ≠ "always" by decide +kernel)) (fun _ => ?_)
          walk_at "g"
          refine g_dec (fun h => absurd h (show ("compare" : Str) ≠ "never" by decide +kernel)) (fun _ => ?_)
          walk_at "g"
          refine ⟨d, rfl, .inl ⟨kvs, .inl hD⟩, ?_⟩
          walk_at "g"
          refine g_ixT (SqT.of hA) (v := .str c) (by rfl) ?_
          walk_at "g"
          refine g_ixT (SqT.of hA) (v := .str c) (by rfl) ?_
          refine ⟨_, DGet.k (k := Sum.inr c) hD, ?_⟩
          rw [ec]
          walk_at "g"
          refine g_dec (fun h => absurd h (show ("compare" : Str) ≠ "empty" by decide +kernel)) (fun _ => ?_)
          walk_at "g"
          refine g_dec (fun h => absurd h (show ("compare" : Str) ≠ "against" by decide +kernel)) (fun _ => ?_)
          walk_at "g"
          refine g_dec (fun _ => ?_) (fun h => absurd rfl h)
          walk_at "g"
          refine g_ixT (SqT.of hA) (v := .str op) (by rfl) ?_
          walk_at "g"
          refine g_ixT (SqT.of hA) (v := v) (by rfl) ?_
          walk_at "g"
          refine ⟨by show 4 ≤ sizeLine; decide, fun t ht => ?_⟩
          walk_at "g"
          exact k t _ (ext_new ht) upd_same
        | against c op d2 m =>
          have hA : H q = some (.tup [.str "against", .str c, .str op, .str d2, .int m]) := hF
          have ec : (valV kvs (Sum.inr c)).getD (.str c) = .str (mvS kvs c) := mv_str (hin c (by simp [Fm.cols, At.flds]))
          have ed2 : (valV kvs (Sum.inr d2)).getD (.str d2) = .str (mvS kvs d2) := mv_str (hin d2 (by simp [Fm.cols, At.flds]))
          walk_at "g"
          refine g_ixT (SqT.of hA) (v := .str "against") (by rfl) ?_
          walk_at "g"
          refine g_dec (fun h => absurd h (show ("against" : Str) ≠ "and" by decide +kernel)) (fun _ => ?_)
          walk_at "g"
          refine g_dec (fun h => absurd h (show ("against" : Str) ≠ "or" by decide +kernel)) (fun _ => ?_)
          walk_at "g"
          refine g_dec (fun h => absurd h (show ("against" : Str) ≠ "not" by decide +kernel)) (fun _ => ?_)
          walk_at "g"
          refine g_dec (fun h => absurd h (show ("against" : Str) ≠ "sure" by decide +kernel)) (fun _ => ?_)
          walk_at "g"
          refine g_dec (fun h => absurd h (show ("against" : Str) ≠ "always" by decide +kernel)) (fun _ => ?_)
          walk_at "g"
          refine g_dec (fun h => absurd h (show ("against" : Str) ≠ "never" by decide +kernel)) (fun _ => ?_)
          walk_at "g"
          refine ⟨d, rfl, .inl ⟨kvs, .inl hD⟩, ?_⟩
          walk_at "g"
          refine g_ixT (SqT.of hA) (v := .str c) (by rfl) ?_
          walk_at "g"
          refine g_ixT (SqT.of hA) (v := .str c) (by rfl) ?_
          refine ⟨_, DGet.k (k := Sum.inr c) hD, ?_⟩
          rw [ec]
          walk_at "g"
          refine g_dec (fun h => absurd h (show ("against" : Str) ≠ "empty" by decide +kernel)) (fun _ => ?_)
          walk_at "g"
          refine g_dec (fun _ => ?_) (fun h => absurd rfl h)
          walk_at "g"
          refine g_ixT (SqT.of hA) (v := .str op) (by rfl) ?_
          walk_at "g"
          refine ⟨d, rfl, .inl ⟨kvs, .inl hD⟩, ?_⟩
          walk_at "g"
          refine g_ixT (SqT.of hA) (v := .str d2) (by rfl) ?_
          walk_at "g"
          refine g_ixT (SqT.of hA) (v := .str d2) (by rfl) ?_
          refine ⟨_, DGet.k (k := Sum.inr d2) hD, ?_⟩
          rw [ed2]
          walk_at "g"
          refine g_ixT (SqT.of hA) (v := .int m) (by rfl) ?_
          walk_at "g"
          refine ⟨by show 5 ≤ sizeLine; decide, fun t ht => ?_⟩
          walk_at "g"
          exact k t _ (ext_new ht) upd_same
theorem ok__law_moved (T : Txt K mg) : Def P w K mg base 13 "_law_moved" ["_law_form_here", "_law_mapping"] (spMoved 12) := ok_movedN T 12
end
/-! drawn changes of a form -/
def spOpD : Sp := fun vs H Q _ => ∃ (d sc : Addr) (ns : List Int), vs = [.ref d] ∧ Dr H d sc ns ∧ ∀ op H', op ∈ opsL → DK d sc ns H H' → Q (.str op) H'
def spRepl (n : Nat) : Sp := fun vs H Q _ => ∃ (d sc : Addr) (ns : List Int) (q L : Addr) (f : Fm) (cs : List (Str × Bool)), vs = [.ref d, .ref q, .ref L] ∧ Dr H d sc ns ∧ GoodCols cs ∧ ColsAt H L cs ∧ L ≠ d ∧ FormAt H f q ∧ f.Wf cs ∧ f.ts.depth < n ∧
  ∀ r f' H', FormAt H' f' r → f'.WfW cs → f'.ts.size = f.ts.size → f'.ts.depth = f.ts.depth → DK d sc ns H H' → Q (.ref r) H'
section
variable {P : Program} {w : World} {K : PySem.W.Frag} {mg : Str → Option Value} {base : Heap}
theorem ok__law_op (T : Txt K mg) : Def P w K mg base 2 "_law_op" ["_law_draw"] spOpD := by
  obtain ⟨f, fd, h⟩ := T.d__law_op
  refine h.def (Fun.okM h.fn sc__law_op (fun vs H Q E h => ?_) (fun cdv A outer s H vs Q E hr h => ?_))
  · obtain ⟨d, sc, ns, rfl, _⟩ := h
    rfl
  · obtain ⟨d, sc, ns, rfl, hD, k⟩ := h
    refine ⟨_, (pss_one (ps_ret (pe_ix (ix_seqG (K := K) rfl) (pe_lst (pa_cons pe_str (pa_cons pe_str (pa_cons pe_str (pa_cons pe_str (pa_cons pe_str (pa_cons pe_str pa_nil))))))) (pe_def (ok__law_take T) hr rfl (pa_cons (pv 0) (pa_cons pe_int pa_nil))) (fun _ _ => rfl)))), ?_⟩
    walk_at "g"
    refine ⟨by show 6 ≤ sizeLine; decide, fun p hp => ?_⟩
    have B2 := (DK.refl hD).new (o := .lst (opsL.map V.str)) hp
    have hp2 : (upd H p (.lst (opsL.map V.str))) p = some (.lst (opsL.map V.str)) := upd_same
    have hpd := (hD.ne hp).1
    have e0 : upd H p (.lst [.str (Str.ofString "<"), .str (Str.ofString "<="), .str (Str.ofString "=="), .str (Str.ofString "!="), .str (Str.ofString ">"), .str (Str.ofString ">=")]) = upd H p (.lst (opsL.map V.str)) := rfl
    rw [e0]
    generalize upd H p (.lst (opsL.map V.str)) = H2 at B2 hp2
    walk_at "g"
    refine ⟨_, _, _, _, rfl, B2.D, by decide, by decide +kernel, fun r2 H3 r20 r21 D3 K3 => ?_⟩
    have B3 := B2.step D3 K3
    obtain ⟨op, hop, eop⟩ := atI_strs (ws := opsL) r20 (by show r2 < 6; exact r21)
    refine g_ixL (SqL.of (K3 _ _ hpd hp2)) eop ?_
    exact k op _ hop B3
theorem ok_replN (T : Txt K mg) : ∀ n, Def P w K mg base (n + 5) "_law_replaced" ["_law_draw", "_law_form_here", "_law_columns_here"] (spRepl n) := by
  intro n
  induction n with
  | zero =>
    obtain ⟨f, fd, h⟩ := T.d__law_replaced
    refine h.def (Fun.okM h.fn sc__law_replaced (fun vs H Q E h => ?_) (fun cdv A outer s H vs Q E hr h => ?_))
    · obtain ⟨d, sc, ns, q, L, f, cs, rfl, _⟩ := h
      rfl
    · obtain ⟨d, sc, ns, q, L, f, cs, rfl, hD, hG, hC, hLd, hF, hw, hd, k⟩ := h
      exact absurd hd (Nat.not_lt_zero _)
  | succ n ih =>
    have ok__law_replaced : Txt K mg → Def P w K mg base (n + 5) "_law_replaced" ["_law_draw", "_law_form_here", "_law_columns_here"] (spRepl n) := fun _ => ih
    obtain ⟨f, fd, h⟩ := T.d__law_replaced
    refine h.def (Fun.okM h.fn sc__law_replaced (fun vs H Q E h => ?_) (fun cdv A outer s H vs Q E hr h => ?_))
    · obtain ⟨d, sc, ns, q, L, f, cs, rfl, _⟩ := h
      rfl
    · obtain ⟨d, sc, ns, q, L, f, cs, rfl, hD, hG, hC, hLd, hF, hw, hd, k⟩ := h
      refine ⟨_, (pss_cons (ps_if (PW.pt (pw_or (pt_cmpR op_eq (pe_ix (ix_seqG (K := K) rfl) (pv 1) pe_int (fun _ _ => rfl)) pe_str (nomark _)) (pw_or1 (pt_cmpR op_eq (pe_ix (ix_seqG (K := K) rfl) (pv 1) pe_int (fun _ _ => rfl)) pe_str (nomark _)))))
  (pss_cons (ps_if (pt_cmpR op_eq (pe_def (ok__law_take T) hr rfl (pa_cons (pv 0) (pa_cons pe_int pa_nil)) (hk := by omega)) pe_int (nomark _))
  (pss_one (ps_ret (pe_tup (pa_cons (pe_ix (ix_seqG (K := K) rfl) (pv 1) pe_int (fun _ _ => rfl)) (pa_cons (pe_def (ok__law_replaced T) hr rfl (pa_cons (pv 0) (pa_cons (pe_ix (ix_seqG (K := K) rfl) (pv 1) pe_int (fun _ _ => rfl)) (pa_cons (pv 2) pa_nil))) (hk := by omega)) (pa_cons (pe_ix (ix_seqG (K := K) rfl) (pv 1) pe_int (fun _ _ => rfl)) pa_nil))))))
  pss_nil)
  (pss_one (ps_ret (pe_tup (pa_cons (pe_ix (ix_seqG (K := K) rfl) (pv 1) pe_int (fun _ _ => rfl)) (pa_cons (pe_ix (ix_seqG (K := K) rfl) (pv 1) pe_int (fun _ _ => rfl)) (pa_cons (pe_def (ok__law_replaced T) hr rfl (pa_cons (pv 0) (pa_cons (pe_ix (ix_seqG (K := K) rfl) (pv 1) pe_int (fun _ _ => rfl)) (pa_cons (pv 2) pa_nil))) (hk := by omega)) pa_nil)))))))
  pss_nil)
  (pss_cons (ps_if (PW.pt (pw_or (pt_cmpR op_eq (pe_ix (ix_seqG (K := K) rfl) (pv 1) pe_int (fun _ _ => rfl)) pe_str (nomark _)) (pw_or1 (pt_cmpR op_eq (pe_ix (ix_seqG (K := K) rfl) (pv 1) pe_int (fun _ _ => rfl)) pe_str (nomark _)))))
  (pss_one (ps_ret (pe_tup (pa_cons (pe_ix (ix_seqG (K := K) rfl) (pv 1) pe_int (fun _ _ => rfl)) (pa_cons (pe_def (ok__law_replaced T) hr rfl (pa_cons (pv 0) (pa_cons (pe_ix (ix_seqG (K := K) rfl) (pv 1) pe_int (fun _ _ => rfl)) (pa_cons (pv 2) pa_nil))) (hk := by omega)) pa_nil)))))
  pss_nil)
  (pss_cons (ps_if (PW.pt (pw_and (pt_cmpR op_eq (pe_ix (ix_seqG (K := K) rfl) (pv 1) pe_int (fun _ _ => rfl)) pe_str (nomark _)) (pw_and1 (pt_cmpR op_eq (pe_def (ok__law_take T) hr rfl (pa_cons (pv 0) (pa_cons pe_int pa_nil)) (hk := by omega)) pe_int (nomark _)))))
  (pss_one (ps_ret (pe_tup (pa_cons (pe_ix (ix_seqG (K := K) rfl) (pv 1) pe_int (fun _ _ => rfl)) (pa_cons (pe_ix (ix_seqG (K := K) rfl) (pv 1) pe_int (fun _ _ => rfl)) (pa_cons (pe_def (ok__law_op T) hr rfl (pa_cons (pv 0) pa_nil) (hk := by omega)) (pa_cons (pe_ix (ix_seqG (K := K) rfl) (pv 1) pe_int (fun _ _ => rfl)) pa_nil)))))))
  pss_nil)
  (pss_cons (ps_if (PW.pt (pw_and (pt_cmpR op_eq (pe_ix (ix_seqG (K := K) rfl) (pv 1) pe_int (fun _ _ => rfl)) pe_str (nomark _)) (pw_and1 (pt_cmpR op_eq (pe_def (ok__law_take T) hr rfl (pa_cons (pv 0) (pa_cons pe_int pa_nil)) (hk := by omega)) pe_int (nomark _)))))
  (pss_one (ps_ret (pe_tup (pa_cons (pe_ix (ix_seqG (K := K) rfl) (pv 1) pe_int (fun _ _ => rfl)) (pa_cons (pe_ix (ix_seqG (K := K) rfl) (pv 1) pe_int (fun _ _ => rfl)) (pa_cons (pe_op op_addG (pe_ix (ix_seqG (K := K) rfl) (pv 1) pe_int (fun _ _ => rfl)) (pe_slice (sl_G (K := K) rfl) (pe_ix (ix_seqG (K := K) rfl) (pv 1) pe_int (fun _ _ => rfl)) po_none (po_some pe_int))) pa_nil))))))
  pss_nil)
  (pss_one (ps_ret (pe_def (ok__law_atom T) hr rfl (pa_cons (pv 0) (pa_cons (pv 2) pa_nil)) (hk := by omega)))))))), ?_⟩
      cases f with
      | bi wd a b =>
        obtain ⟨q1, q2, hA, h1, h2⟩ := hF
        obtain ⟨hwd, w1, w2⟩ := hw
        have hd' : max a.ts.depth b.ts.depth + 1 < n + 1 := hd
        have goal2 : ∀ r r1 r2 a' b' H', FormAt H' a' r1 → FormAt H' b' r2 → H' r = some (.tup [.str wd, .ref r1, .ref r2]) → a'.WfW cs → b'.WfW cs → a'.ts.size = a.ts.size → b'.ts.size = b.ts.size → a'.ts.depth = a.ts.depth → b'.ts.depth = b.ts.depth → DK d sc ns H H' → Q (.ref r) H' := fun r r1 r2 a' b' H' g1 g2 g3 g4 g5 g6 g7 g8 g9 B =>
          k r (.bi wd a' b') H' ⟨r1, r2, g3, g1, g2⟩ ⟨hwd, g4, g5⟩ (by show a'.ts.size + b'.ts.size = a.ts.size + b.ts.size; omega) (by show max a'.ts.depth b'.ts.depth + 1 = max a.ts.depth b.ts.depth + 1; rw [g8, g9]) B
        walk_at "g"
        rcases hwd with rfl | rfl
        · refine g_ixT (SqT.of hA) (v := .str "and") (by rfl) ?_
          walk_at "g"
          refine g_dec (fun _ => ?_) (fun h => absurd rfl h)
          walk_at "g"
          refine ⟨_, _, _, _, rfl, hD, by decide, by decide +kernel, fun r5 H5 r50 r51 D5 K5 => ?_⟩
          have B5 := (DK.refl hD).step D5 K5
          have hC5 := hC.draw hD K5 hLd
          have hA5 := K5 _ _ (hD.tne hA) hA
          have h15 := FormAt.draw h1 hD K5
          have h25 := FormAt.draw h2 hD K5
          walk_at "g"
          refine g_dec (fun _ => ?_) (fun _ => ?_)
          · walk_at "g"
            refine g_ixT (SqT.of hA5) (v := .str "and") (by rfl) ?_
            walk_at "g"
            refine g_ixT (SqT.of hA5) (v := .ref q1) (by rfl) ?_
            walk_at "g"
            refine ⟨d, sc, ns, q1, L, a, cs, rfl, D5, hG, hC5, hLd, h15, w1, by omega, fun r f' H6 F6 W6 z6 d6 B6 => ?_⟩
            have hA6 := B6.K _ _ (D5.tne hA5) hA5
            have o6 := FormAt.draw h25 D5 B6.K
            have B7 := B5.step B6.D B6.K
            walk_at "g"
            refine g_ixT (SqT.of hA6) (v := .ref q2) (by rfl) ?_
            walk_at "g"
            refine ⟨by show 3 ≤ sizeLine; decide, fun t ht => ?_⟩
            walk_at "g"
            exact goal2 t r q2 f' b _ (F6.keep (ext_new ht)) (o6.keep (ext_new ht)) upd_same W6 w2.wide z6 rfl d6 rfl (B7.new ht)
          · walk_at "g"
            refine g_ixT (SqT.of hA5) (v := .str "and") (by rfl) ?_
            walk_at "g"
            refine g_ixT (SqT.of hA5) (v := .ref q1) (by rfl) ?_
            walk_at "g"
            refine g_ixT (SqT.of hA5) (v := .ref q2) (by rfl) ?_
            walk_at "g"
            refine ⟨d, sc, ns, q2, L, b, cs, rfl, D5, hG, hC5, hLd, h25, w2, by omega, fun r f' H6 F6 W6 z6 d6 B6 => ?_⟩
            have hA6 := B6.K _ _ (D5.tne hA5) hA5
            have o6 := FormAt.draw h15 D5 B6.K
            have B7 := B5.step B6.D B6.K
            walk_at "g"
            refine ⟨by show 3 ≤ sizeLine; decide, fun t ht => ?_⟩
            walk_at "g"
            exact goal2 t q1 r a f' _ (o6.keep (ext_new ht)) (F6.keep (ext_new ht)) upd_same w1.wide W6 rfl z6 rfl d6 (B7.new ht)
        · refine g_ixT (SqT.of hA) (v := .str "or") (by rfl) ?_
          walk_at "g"
          refine g_dec (fun h => absurd h (show ("or" : Str) ≠ "and" by decide +kernel)) (fun _ => ?_)
          walk_at "g"
          refine g_ixT (SqT.of hA) (v := .str "or") (by rfl) ?_
          walk_at "g"
          refine g_dec (fun _ => ?_) (fun h => absurd rfl h)
          walk_at "g"
          refine ⟨_, _, _, _, rfl, hD, by decide, by decide +kernel, fun r5 H5 r50 r51 D5 K5 => ?_⟩
          have B5 := (DK.refl hD).step D5 K5
          have hC5 := hC.draw hD K5 hLd
          have hA5 := K5 _ _ (hD.tne hA) hA
          have h15 := FormAt.draw h1 hD K5
          have h25 := FormAt.draw h2 hD K5
          walk_at "g"
          refine g_dec (fun _ => ?_) (fun _ => ?_)
          · walk_at "g"
            refine g_ixT (SqT.of hA5) (v := .str "or") (by rfl) ?_
            walk_at "g"
            refine g_ixT (SqT.of hA5) (v := .ref q1) (by rfl) ?_
            walk_at "g"
            refine ⟨d, sc, ns, q1, L, a, cs, rfl, D5, hG, hC5, hLd, h15, w1, by omega, fun r f' H6 F6 W6 z6 d6 B6 => ?_⟩
            have hA6 := B6.K _ _ (D5.tne hA5) hA5
            have o6 := FormAt.draw h25 D5 B6.K
            have B7 := B5.step B6.D B6.K
            walk_at "g"
            refine g_ixT (SqT.of hA6) (v := .ref q2) (by rfl) ?_
            walk_at "g"
            refine ⟨by show 3 ≤ sizeLine; decide, fun t ht => ?_⟩
            walk_at "g"
            exact goal2 t r q2 f' b _ (F6.keep (ext_new ht)) (o6.keep (ext_new ht)) upd_same W6 w2.wide z6 rfl d6 rfl (B7.new ht)
          · walk_at "g"
            refine g_ixT (SqT.of hA5) (v := .str "or") (by rfl) ?_
            walk_at "g"
            refine g_ixT (SqT.of hA5) (v := .ref q1) (by rfl) ?_
            walk_at "g"
            refine g_ixT (SqT.of hA5) (v := .ref q2) (by rfl) ?_
            walk_at "g"
            refine ⟨d, sc, ns, q2, L, b, cs, rfl, D5, hG, hC5, hLd, h25, w2, by omega, fun r f' H6 F6 W6 z6 d6 B6 => ?_⟩
            have hA6 := B6.K _ _ (D5.tne hA5) hA5
            have o6 := FormAt.draw h15 D5 B6.K
            have B7 := B5.step B6.D B6.K
            walk_at "g"
            refine ⟨by show 3 ≤ sizeLine; decide, fun t ht => ?_⟩
            walk_at "g"
            exact goal2 t q1 r a f' _ (o6.keep (ext_new ht)) (F6.keep (ext_new ht)) upd_same w1.wide W6 rfl z6 rfl d6 (B7.new ht)
      | un wd a =>
        obtain ⟨q1, hA, h1⟩ := hF
        obtain ⟨hwd, w1⟩ := hw
        have hd' : a.ts.depth + 1 < n + 1 := hd
        walk_at "g"
        rcases hwd with rfl | rfl
        · skip
          refine g_ixT (SqT.of hA) (v := .str "not") (by rfl) ?_
          walk_at "g"
          refine g_dec (fun h => absurd h (show ("not" : Str) ≠ "and" by decide +kernel)) (fun _ => ?_)
          walk_at "g"
          refine g_ixT (SqT.of hA) (v := .str "not") (by rfl) ?_
          walk_at "g"
          refine g_dec (fun h => absurd h (show ("not" : Str) ≠ "or" by decide +kernel)) (fun _ => ?_)
          walk_at "g"
          refine g_ixT (SqT.of hA) (v := .str "not") (by rfl) ?_
          walk_at "g"
          refine g_dec (fun _ => ?_) (fun h => absurd rfl h)
          walk_at "g"
          refine g_ixT (SqT.of hA) (v := .str "not") (by rfl) ?_
          walk_at "g"
          refine g_ixT (SqT.of hA) (v := .ref q1) (by rfl) ?_
          walk_at "g"
          refine ⟨d, sc, ns, q1, L, a, cs, rfl, hD, hG, hC, hLd, h1, w1, by omega, fun r f' H6 F6 W6 z6 d6 B6 => ?_⟩
          walk_at "g"
          refine ⟨by show 2 ≤ sizeLine; decide, fun t ht => ?_⟩
          walk_at "g"
          exact k t (.un "not" f') _ ⟨r, upd_same, F6.keep (ext_new ht)⟩ ⟨.inl rfl, W6⟩ z6 (by show f'.ts.depth + 1 = a.ts.depth + 1; rw [d6]) (B6.new ht)
        · skip
          refine g_ixT (SqT.of hA) (v := .str "sure") (by rfl) ?_
          walk_at "g"
          refine g_dec (fun h => absurd h (show ("sure" : Str) ≠ "and" by decide +kernel)) (fun _ => ?_)
          walk_at "g"
          refine g_ixT (SqT.of hA) (v := .str "sure") (by rfl) ?_
          walk_at "g"
          refine g_dec (fun h => absurd h (show ("sure" : Str) ≠ "or" by decide +kernel)) (fun _ => ?_)
          walk_at "g"
          refine g_ixT (SqT.of hA) (v := .str "sure") (by rfl) ?_
          walk_at "g"
          refine g_dec (fun h => absurd h (show ("sure" : Str) ≠ "not" by decide +kernel)) (fun _ => ?_)
          walk_at "g"
          refine g_ixT (SqT.of hA) (v := .str "sure") (by rfl) ?_
          walk_at "g"
          refine g_dec (fun _ => ?_) (fun h => absurd rfl h)
          walk_at "g"
          refine g_ixT (SqT.of hA) (v := .str "sure") (by rfl) ?_
          walk_at "g"
          refine g_ixT (SqT.of hA) (v := .ref q1) (by rfl) ?_
          walk_at "g"
          refine ⟨d, sc, ns, q1, L, a, cs, rfl, hD, hG, hC, hLd, h1, w1, by omega, fun r f' H6 F6 W6 z6 d6 B6 => ?_⟩
          walk_at "g"
          refine ⟨by show 2 ≤ sizeLine; decide, fun t ht => ?_⟩
          walk_at "g"
          exact k t (.un "sure" f') _ ⟨r, upd_same, F6.keep (ext_new ht)⟩ ⟨.inr rfl, W6⟩ z6 (by show f'.ts.depth + 1 = a.ts.depth + 1; rw [d6]) (B6.new ht)
      | «at» a =>
        have atom : ∀ {H5 : Hp}, DK d sc ns H H5 → ColsAt H5 L cs → spAtom [.ref d, .ref L] H5 Q E0 := fun {H5} B5 C5 => ⟨d, sc, ns, L, cs, rfl, B5.D, hG, C5, hLd, fun q a' H6 A6 W6 B6 => k q (.at a') H6 A6 (At.Wf.wide W6) rfl rfl (B5.step B6.D B6.K)⟩
        cases a with
        | always =>
          have hA : H q = some (.tup [.str "always"]) := hF
          walk_at "g"
          refine g_ixT (SqT.of hA) (v := .str "always") (by rfl) ?_
          walk_at "g"
          refine g_dec (fun h => absurd h (show ("always" : Str) ≠ "and" by decide +kernel)) (fun _ => ?_)
          walk_at "g"
          refine g_ixT (SqT.of hA) (v := .str "always") (by rfl) ?_
          walk_at "g"
          refine g_dec (fun h => absurd h (show ("always" : Str) ≠ "or" by decide +kernel)) (fun _ => ?_)
          walk_at "g"
          refine g_ixT (SqT.of hA) (v := .str "always") (by rfl) ?_
          walk_at "g"
          refine g_dec (fun h => absurd h (show ("always" : Str) ≠ "not" by decide +kernel)) (fun _ => ?_)
          walk_at "g"
          refine g_ixT (SqT.of hA) (v := .str "always") (by rfl) ?_
          walk_at "g"
          refine g_dec (fun h => absurd h (show ("always" : Str) ≠ "sure" by decide +kernel)) (fun _ => ?_)
          walk_at "g"
          refine g_ixT (SqT.of hA) (v := .str "always") (by rfl) ?_
          walk_at "g"
          refine g_dec (fun h => absurd h (show ("always" : Str) ≠ "compare" by decide +kernel)) (fun _ => ?_)
          walk_at "g"
          refine g_ixT (SqT.of hA) (v := .str "always") (by rfl) ?_
          walk_at "g"
          refine g_dec (fun h => absurd h (show ("always" : Str) ≠ "among" by decide +kernel)) (fun _ => ?_)
          walk_at "g"
          obtain ⟨d0, sc0, ns0, L0, cs0, e0, a1, a2, a3, a4, a5⟩ := atom (DK.refl hD) hC
          exact ⟨d0, sc0, ns0, L0, cs0, e0, a1, a2, a3, a4, fun q a H' b1 b2 b3 => g_rt (a5 q a H' b1 b2 b3)⟩
        | never =>
          have hA : H q = some (.tup [.str "never"]) := hF
          walk_at "g"
          refine g_ixT (SqT.of hA) (v := .str "never") (by rfl) ?_
          walk_at "g"
          refine g_dec (fun h => absurd h (show ("never" : Str) ≠ "and" by decide +kernel)) (fun _ => ?_)
          walk_at "g"
          refine g_ixT (SqT.of hA) (v := .str "never") (by rfl) ?_
          walk_at "g"
          refine g_dec (fun h => absurd h (show ("never" : Str) ≠ "or" by decide +kernel)) (fun _ => ?_)
          walk_at "g"
          refine g_ixT (SqT.of hA) (v := .str "never") (by rfl) ?_
          walk_at "g"
          refine g_dec (fun h => absurd h (show ("never" : Str) ≠ "not" by decide +kernel)) (fun _ => ?_)
          walk_at "g"
          refine g_ixT (SqT.of hA) (v := .str "never") (by rfl) ?_
          walk_at "g"
          refine g_dec (fun h => absurd h (show ("never" : Str) ≠ "sure" by decide +kernel)) (fun _ => ?_)
          walk_at "g"
          refine g_ixT (SqT.of hA) (v := .str "never") (by rfl) ?_
          walk_at "g"
          refine g_dec (fun h => absurd h (show ("never" : Str) ≠ "compare" by decide +kernel)) (fun _ => ?_)
          walk_at "g"
          refine g_ixT (SqT.of hA) (v := .str "never") (by rfl) ?_
          walk_at "g"
          refine g_dec (fun h => absurd h (show ("never" : Str) ≠ "among" by decide +kernel)) (fun _ => ?_)
          walk_at "g"
          obtain ⟨d0, sc0, ns0, L0, cs0, e0, a1, a2, a3, a4, a5⟩ := atom (DK.refl hD) hC
          exact ⟨d0, sc0, ns0, L0, cs0, e0, a1, a2, a3, a4, fun q a H' b1 b2 b3 => g_rt (a5 q a H' b1 b2 b3)⟩
        | empty c =>
          have hA : H q = some (.tup [.str "empty", .str c]) := hF
          walk_at "g"
          refine g_ixT (SqT.of hA) (v := .str "empty") (by rfl) ?_
          walk_at "g"
          refine g_dec (fun h => absurd h (show ("empty" : Str) ≠ "and" by decide +kernel)) (fun _ => ?_)
          walk_at "g"
          refine g_ixT (SqT.of hA) (v := .str "empty") (by rfl) ?_
          walk_at "g"
          refine g_dec (fun h => absurd h (show ("empty" : Str) ≠ "or" by decide +kernel)) (fun _ => ?_)
          walk_at "g"
          refine g_ixT (SqT.of hA) (v := .str "empty") (by rfl) ?_
          walk_at "g"
          refine g_dec (fun h => absurd h (show ("empty" : Str) ≠ "not" by decide +kernel)) (fun _ => ?_)
          walk_at "g"
          refine g_ixT (SqT.of hA) (v := .str "empty") (by rfl) ?_
          walk_at "g"
          refine g_dec (fun h => absurd h (show ("empty" : Str) ≠ "sure" by decide +kernel)) (fun _ => ?_)
          walk_at "g"
          refine g_ixT (SqT.of hA) (v := .str "empty") (by rfl) ?_
          walk_at "g"
          refine g_dec (fun h => absurd h (show ("empty" : Str) ≠ "compare" by decide +kernel)) (fun _ => ?_)
          walk_at "g"
          refine g_ixT (SqT.of hA) (v := .str "empty") (by rfl) ?_
          walk_at "g"
          refine g_dec (fun h => absurd h (show ("empty" : Str) ≠ "among" by decide +kernel)) (fun _ => ?_)
          walk_at "g"
          obtain ⟨d0, sc0, ns0, L0, cs0, e0, a1, a2, a3, a4, a5⟩ := atom (DK.refl hD) hC
          exact ⟨d0, sc0, ns0, L0, cs0, e0, a1, a2, a3, a4, fun q a H' b1 b2 b3 => g_rt (a5 q a H' b1 b2 b3)⟩
        | among c vs =>
          obtain ⟨l, kd, hA, hl, hne, hvs⟩ := hF
          obtain ⟨hcn, _, hl2, kd2, hcm, hvs2⟩ := hw
          walk_at "g"
          refine g_ixT (SqT.of hA) (v := .str "among") (by rfl) ?_
          walk_at "g"
          refine g_dec (fun h => absurd h (show ("among" : Str) ≠ "and" by decide +kernel)) (fun _ => ?_)
          walk_at "g"
          refine g_ixT (SqT.of hA) (v := .str "among") (by rfl) ?_
          walk_at "g"
          refine g_dec (fun h => absurd h (show ("among" : Str) ≠ "or" by decide +kernel)) (fun _ => ?_)
          walk_at "g"
          refine g_ixT (SqT.of hA) (v := .str "among") (by rfl) ?_
          walk_at "g"
          refine g_dec (fun h => absurd h (show ("among" : Str) ≠ "not" by decide +kernel)) (fun _ => ?_)
          walk_at "g"
          refine g_ixT (SqT.of hA) (v := .str "among") (by rfl) ?_
          walk_at "g"
          refine g_dec (fun h => absurd h (show ("among" : Str) ≠ "sure" by decide +kernel)) (fun _ => ?_)
          walk_at "g"
          refine g_ixT (SqT.of hA) (v := .str "among") (by rfl) ?_
          walk_at "g"
          refine g_dec (fun h => absurd h (show ("among" : Str) ≠ "compare" by decide +kernel)) (fun _ => ?_)
          walk_at "g"
          refine g_ixT (SqT.of hA) (v := .str "among") (by rfl) ?_
          walk_at "g"
          refine g_dec (fun _ => ?_) (fun h => absurd rfl h)
          walk_at "g"
          refine ⟨_, _, _, _, rfl, hD, by decide, by decide +kernel, fun r5 H5 r50 r51 D5 K5 => ?_⟩
          have B5 := (DK.refl hD).step D5 K5
          have hC5 := hC.draw hD K5 hLd
          have hA5 := K5 _ _ (hD.tne hA) hA
          have hl5 : H5 l = some (.lst vs) := by
            refine K5 _ _ (fun z => ?_) hl
            obtain ⟨o, ho, _, n2⟩ := hD.nf
            rw [← z, hl] at ho
            cases ho
            exact n2 vs kd rfl hne hvs
          walk_at "g"
          refine g_dec (fun _ => ?_) (fun _ => ?_)
          · walk_at "g"
            refine g_ixT (SqT.of hA5) (v := .str "among") (by rfl) ?_
            walk_at "g"
            refine g_ixT (SqT.of hA5) (v := .str c) (by rfl) ?_
            walk_at "g"
            refine g_ixT (SqT.of hA5) (v := .ref l) (by rfl) ?_
            walk_at "g"
            refine g_ixT (SqT.of hA5) (v := .ref l) (by rfl) ?_
            walk_at "g"
            obtain ⟨v, r, rfl⟩ : ∃ v r, vs = v :: r := by
              cases vs with
              | nil => exact absurd rfl hne
              | cons v r => exact ⟨v, r, rfl⟩
            have ecut : cutV (v :: r) none (some 1) = [v] := cut_to (a := [v]) (b := r)
            refine g_slL (SqL.of hl5) fun A hAn => ?_
            rw [ecut]
            have xA := ext_new (o := .lst ([v])) hAn
            refine .inr (.inr ⟨l, A, _, _, rfl, rfl, xA _ _ hl5, upd_same, ?_, fun C hCn => ?_⟩)
            · have : (v :: r).length ≤ 2 := hl2
              rw [sizeLine_eq]
              show (v :: r).length + 1 ≤ _
              omega
            · have xC := ext_new (o := .lst (v :: r ++ [v])) hCn
              walk_at "g"
              refine ⟨by show 3 ≤ sizeLine; decide, fun t ht => ?_⟩
              walk_at "g"
              have hall : ∀ x ∈ v :: r ++ [v], isV kd2 x := fun x hx => by
                rcases List.mem_append.mp hx with hx | hx
                · exact hvs2 x hx
                · rw [List.mem_singleton.mp hx]; exact hvs2 v List.mem_cons_self
              exact k t (.at (.among c (v :: r ++ [v]))) _ ⟨C, kd2, upd_same, ext_new ht _ _ upd_same, (by simp), hall⟩ ⟨hcn, by simp, by have : (v :: r).length ≤ 2 := hl2; rw [List.length_append]; show (v :: r).length + 1 ≤ 8; omega, kd2, hcm, hall⟩ rfl rfl (((B5.new hAn).new hCn).new ht)
          · walk_at "g"
            obtain ⟨d0, sc0, ns0, L0, cs0, e0, a1, a2, a3, a4, a5⟩ := atom B5 hC5
            exact ⟨d0, sc0, ns0, L0, cs0, e0, a1, a2, a3, a4, fun q a H' b1 b2 b3 => g_rt (a5 q a H' b1 b2 b3)⟩
        | begins c z =>
          have hA : H q = some (.tup [.str "begins", .str c, .str z]) := hF
          walk_at "g"
          refine g_ixT (SqT.of hA) (v := .str "begins") (by rfl) ?_
          walk_at "g"
          refine g_dec (fun h => absurd h (show ("begins" : Str) ≠ "and" by decide +kernel)) (fun _ => ?_)
          walk_at "g"
          refine g_ixT (SqT.of hA) (v := .str "begins") (by rfl) ?_
          walk_at "g"
          refine g_dec (fun h => absurd h (show ("begins" : Str) ≠ "or" by decide +kernel)) (fun _ => ?_)
          walk_at "g"
          refine g_ixT (SqT.of hA) (v := .str "begins") (by rfl) ?_
          walk_at "g"
          refine g_dec (fun h => absurd h (show ("begins" : Str) ≠ "not" by decide +kernel)) (fun _ => ?_)
          walk_at "g"
          refine g_ixT (SqT.of hA) (v := .str "begins") (by rfl) ?_
          walk_at "g"
          refine g_dec (fun h => absurd h (show ("begins" : Str) ≠ "sure" by decide +kernel)) (fun _ => ?_)
          walk_at "g"
          refine g_ixT (SqT.of hA) (v := .str "begins") (by rfl) ?_
          walk_at "g"
          refine g_dec (fun h => absurd h (show ("begins" : Str) ≠ "compare" by decide +kernel)) (fun _ => ?_)
          walk_at "g"
          refine g_ixT (SqT.of hA) (v := .str "begins") (by rfl) ?_
          walk_at "g"
          refine g_dec (fun h => absurd h (show ("begins" : Str) ≠ "among" by decide +kernel)) (fun _ => ?_)
          walk_at "g"
          obtain ⟨d0, sc0, ns0, L0, cs0, e0, a1, a2, a3, a4, a5⟩ := atom (DK.refl hD) hC
          exact ⟨d0, sc0, ns0, L0, cs0, e0, a1, a2, a3, a4, fun q a H' b1 b2 b3 => g_rt (a5 q a H' b1 b2 b3)⟩
        | compare c op v =>
          have hA : H q = some (.tup [.str "compare", .str c, .str op, v]) := hF
          walk_at "g"
          refine g_ixT (SqT.of hA) (v := .str "compare") (by rfl) ?_
          walk_at "g"
          refine g_dec (fun h => absurd h (show ("compare" : Str) ≠ "and" by decide +kernel)) (fun _ => ?_)
          walk_at "g"
          refine g_ixT (SqT.of hA) (v := .str "compare") (by rfl) ?_
          walk_at "g"
          refine g_dec (fun h => absurd h (show ("compare" : Str) ≠ "or" by decide +kernel)) (fun _ => ?_)
          walk_at "g"
          refine g_ixT (SqT.of hA) (v := .str "compare") (by rfl) ?_
          walk_at "g"
          refine g_dec (fun h => absurd h (show ("compare" : Str) ≠ "not" by decide +kernel)) (fun _ => ?_)
          walk_at "g"
          refine g_ixT (SqT.of hA) (v := .str "compare") (by rfl) ?_
          walk_at "g"
          refine g_dec (fun h => absurd h (show ("compare" : Str) ≠ "sure" by decide +kernel)) (fun _ => ?_)
          walk_at "g"
          obtain ⟨hcn, _, kd, hcm, hv⟩ := hw
          refine g_ixT (SqT.of hA) (v := .str "compare") (by rfl) ?_
          walk_at "g"
          refine g_dec (fun _ => ?_) (fun h => absurd rfl h)
          walk_at "g"
          refine ⟨_, _, _, _, rfl, hD, by decide, by decide +kernel, fun r5 H5 r50 r51 D5 K5 => ?_⟩
          have B5 := (DK.refl hD).step D5 K5
          have hC5 := hC.draw hD K5 hLd
          have hA5 := K5 _ _ (hD.tne hA) hA
          walk_at "g"
          refine g_dec (fun _ => ?_) (fun _ => ?_)
          · walk_at "g"
            refine g_ixT (SqT.of hA5) (v := .str "compare") (by rfl) ?_
            walk_at "g"
            refine g_ixT (SqT.of hA5) (v := .str c) (by rfl) ?_
            walk_at "g"
            refine ⟨d, sc, ns, rfl, D5, fun op2 H6 hop2 B6 => ?_⟩
            have hA6 := B6.K _ _ (D5.tne hA5) hA5
            have B7 := B5.step B6.D B6.K
            walk_at "g"
            refine g_ixT (SqT.of hA6) (v := v) (by rfl) ?_
            walk_at "g"
            refine ⟨by show 4 ≤ sizeLine; decide, fun t ht => ?_⟩
            walk_at "g"
            exact k t (.at (.compare c op2 v)) _ upd_same ⟨hcn, hop2, kd, hcm, hv⟩ rfl rfl (B7.new ht)
          · walk_at "g"
            refine g_ixT (SqT.of hA5) (v := .str "compare") (by rfl) ?_
            walk_at "g"
            refine g_dec (fun h => absurd h (show ("compare" : Str) ≠ "among" by decide +kernel)) (fun _ => ?_)
            walk_at "g"
            obtain ⟨d0, sc0, ns0, L0, cs0, e0, a1, a2, a3, a4, a5⟩ := atom B5 hC5
            exact ⟨d0, sc0, ns0, L0, cs0, e0, a1, a2, a3, a4, fun q a H' b1 b2 b3 => g_rt (a5 q a H' b1 b2 b3)⟩
        | against c op d2 m =>
          have hA : H q = some (.tup [.str "against", .str c, .str op, .str d2, .int m]) := hF
          walk_at "g"
          refine g_ixT (SqT.of hA) (v := .str "against") (by rfl) ?_
          walk_at "g"
          refine g_dec (fun h => absurd h (show ("against" : Str) ≠ "and" by decide +kernel)) (fun _ => ?_)
          walk_at "g"
          refine g_ixT (SqT.of hA) (v := .str "against") (by rfl) ?_
          walk_at "g"
          refine g_dec (fun h => absurd h (show ("against" : Str) ≠ "or" by decide +kernel)) (fun _ => ?_)
          walk_at "g"
          refine g_ixT (SqT.of hA) (v := .str "against") (by rfl) ?_
          walk_at "g"
          refine g_dec (fun h => absurd h (show ("against" : Str) ≠ "not" by decide +kernel)) (fun _ => ?_)
          walk_at "g"
          refine g_ixT (SqT.of hA) (v := .str "against") (by rfl) ?_
          walk_at "g"
          refine g_dec (fun h => absurd h (show ("against" : Str) ≠ "sure" by decide +kernel)) (fun _ => ?_)
          walk_at "g"
          refine g_ixT (SqT.of hA) (v := .str "against") (by rfl) ?_
          walk_at "g"
          refine g_dec (fun h => absurd h (show ("against" : Str) ≠ "compare" by decide +kernel)) (fun _ => ?_)
          walk_at "g"
          refine g_ixT (SqT.of hA) (v := .str "against") (by rfl) ?_
          walk_at "g"
          refine g_dec (fun h => absurd h (show ("against" : Str) ≠ "among" by decide +kernel)) (fun _ => ?_)
          walk_at "g"
          obtain ⟨d0, sc0, ns0, L0, cs0, e0, a1, a2, a3, a4, a5⟩ := atom (DK.refl hD) hC
          exact ⟨d0, sc0, ns0, L0, cs0, e0, a1, a2, a3, a4, fun q a H' b1 b2 b3 => g_rt (a5 q a H' b1 b2 b3)⟩
theorem ok__law_replaced (T : Txt K mg) : Def P w K mg base 18 "_law_replaced" ["_law_draw", "_law_form_here", "_law_columns_here"] (spRepl 13) := ok_replN T 13
end
/-! the second form; renamed; refuses -/
theorem tf_renamed {w : Str} {i f t : Addr} {n d : Int} : (tf w i f t n d).lookup ("renamed" : Str) = none := by rfl
def spSecond : Sp := fun vs H Q _ => ∃ (d sc : Addr) (ns : List Int) (q L : Addr) (f : Fm) (cs : List (Str × Bool)), vs = [.ref d, .ref q, .ref L] ∧ Dr H d sc ns ∧ GoodCols cs ∧ ColsAt H L cs ∧ L ≠ d ∧ FormAt H f q ∧ f.Wf cs ∧ f.ts.depth ≤ 11 ∧ f.ts.size ≤ 6 ∧
  ∀ r f' H', FormAt H' f' r → f'.WfW cs → f'.ts.size ≤ 24 → f'.ts.depth ≤ 12 → DK d sc ns H H' → Q (.ref r) H'
def spRenamed (C CB : Addr) : Sp := fun vs H Q E => ∃ (p : Addr) (t : Ts) (y : V), vs = [.ref p, y] ∧ TestAt C H t p ∧
  ((∃ (d : Addr) (kvs : List (Key × V)), y = .ref d ∧ H d = some (.dK kvs) ∧ (∀ c ∈ t.cols, thing H (mv kvs c)) ∧ t.depth ≤ 12 ∧ t.cols.length ≤ 1000 ∧ OutR C CB kvs t H Q E) ∨
   (∃ Tn, Tn ∈ kinds7 ∧ TyOf7 H y Tn ∧ Tn ≠ "dict" ∧ ∀ d H', Ext H H' → H' d = some (xwhy "column") → E (.ref CB) (some d) H'))
/-- the error is told, whatever was asked -/
def spRefuses (C : Addr) : Sp := fun vs H Q _ => ∃ (p : Addr) (t : Ts) (y : V), vs = [.ref p, y] ∧ TestAt C H t p ∧
  ((∃ (d : Addr) (kvs : List (Key × V)), y = .ref d ∧ H d = some (.dK kvs) ∧ (∀ c ∈ t.cols, thing H (mv kvs c)) ∧ t.depth ≤ 12 ∧ t.cols.length ≤ 1000 ∧ ren kvs t = none) ∨ (∃ Tn, Tn ∈ kinds7 ∧ TyOf7 H y Tn ∧ Tn ≠ "dict")) ∧ ∀ H', Ext H H' → Q (.bl true) H'
section
variable {P : Program} {w : World} {K : PySem.W.Frag} {mg : Str → Option Value} {base : Heap}
theorem ok__law_second (T : Txt K mg) : Def P w K mg base 19 "_law_second" ["_law_draw", "_law_form_here", "_law_columns_here"] spSecond := by
  obtain ⟨f, fd, h⟩ := T.d__law_second
  refine h.def (Fun.okM h.fn sc__law_second (fun vs H Q E h => ?_) (fun cdv A outer s H vs Q E hr h => ?_))
  · obtain ⟨d, sc, ns, q, L, f, cs, rfl, _⟩ := h
    rfl
  · obtain ⟨d, sc, ns, q, L, f, cs, rfl, hD, hG, hC, hLd, hF, hw, hdp, hsz, k⟩ := h
    refine ⟨_, (pss_cons (ps_set (i := 3) sc__law_second.nd rfl (Or.inl rfl) (pe_def (ok__law_take T) hr rfl (pa_cons (pv 0) (pa_cons pe_int pa_nil))))
  (pss_cons (ps_if (pt_cmpR op_eq (pv 3) pe_int (nomark _))
  (pss_one (ps_ret (pe_def (ok__law_form T) hr rfl (pa_cons (pv 0) (pa_cons (pv 2) (pa_cons pe_int pa_nil))))))
  pss_nil)
  (pss_cons (ps_if (pt_cmpR op_eq (pv 3) pe_int (nomark _))
  (pss_one (ps_ret (pe_def (ok__law_replaced T) hr rfl (pa_cons (pv 0) (pa_cons (pv 1) (pa_cons (pv 2) pa_nil))))))
  pss_nil)
  (pss_cons (ps_if (PW.pt (pw_and (pt_cmpR op_eq (pv 3) pe_int (nomark _)) (pw_and (pt_cmpR op_eq (pe_callB (call_lenG (K := K) rfl) (by rfl) T.h_len (by decide +kernel) (pa_cons (pv 1) pa_nil)) pe_int (nomark _)) (pw_and1 (PW.pt (pw_or (pt_cmpR op_eq (pe_ix (ix_seqG (K := K) rfl) (pv 1) pe_int (fun _ _ => rfl)) pe_str (nomark _)) (pw_or1 (pt_cmpR op_eq (pe_ix (ix_seqG (K := K) rfl) (pv 1) pe_int (fun _ _ => rfl)) pe_str (nomark _)))))))))
  (pss_one (ps_ret (pe_tup (pa_cons (pe_ix (ix_seqG (K := K) rfl) (pv 1) pe_int (fun _ _ => rfl)) (pa_cons (pe_ix (ix_seqG (K := K) rfl) (pv 1) pe_int (fun _ _ => rfl)) (pa_cons (pe_ix (ix_seqG (K := K) rfl) (pv 1) pe_int (fun _ _ => rfl)) pa_nil))))))
  pss_nil)
  (pss_cons (ps_if (pt_cmpR op_eq (pv 3) pe_int (nomark _))
  (pss_one (ps_ret (pe_tup (pa_cons pe_str (pa_cons (pv 1) pa_nil)))))
  pss_nil)
  (pss_one (ps_ret (pv 1)))))))), ?_⟩
    walk_at "g"
    refine ⟨_, _, _, _, rfl, hD, by decide, by decide +kernel, fun r5 H5 r50 r51 D5 K5 => ?_⟩
    have B5 := (DK.refl hD).step D5 K5
    have hC5 := hC.draw hD K5 hLd
    have hF5 := FormAt.draw hF hD K5
    walk_at "g"
    refine g_dec (fun _ => ?_) (fun _ => ?_)
    · walk_at "g"
      refine ⟨d, sc, ns, L, cs, 3, rfl, D5, hG, hC5, hLd, by decide, by decide, fun r f' H6 F6 g6 z6 B6 => ?_⟩
      walk_at "g"
      exact k r f' H6 F6 g6.1.wide (by omega) (by have := g6.2; omega) (B5.step B6.D B6.K)
    walk_at "g"
    refine g_dec (fun _ => ?_) (fun _ => ?_)
    · walk_at "g"
      refine ⟨d, sc, ns, q, L, f, cs, rfl, D5, hG, hC5, hLd, hF5, hw, by omega, fun r f' H6 F6 w6 z6 d6 B6 => ?_⟩
      walk_at "g"
      exact k r f' H6 F6 w6 (by omega) (by omega) (B5.step B6.D B6.K)
    walk_at "g"
    -- the rest: wrapped, or the same
    cases f with
    | bi wd a b =>
      obtain ⟨q1, q2, hA, h1, h2⟩ := hF5
      obtain ⟨hwd, w1, w2⟩ := hw
      have hA' := hA
      refine g_dec (fun _ => ?_) (fun _ => ?_)
      · walk_at "g"
        refine g_lenT (SqT.of hA) ?_
        walk_at "g"
        refine g_dec (fun _ => ?_) (fun h => absurd rfl h)
        walk_at "g"
        refine g_ixT (SqT.of hA) (v := .str wd) (by rfl) ?_
        walk_at "g"
        have swap : ∀ t H', Ext H5 H' → H' t = some (.tup [.str wd, .ref q2, .ref q1]) → DK d sc ns H H' → Q (.ref t) H' := fun t H' x h B => k t (.bi wd b a) H' ⟨q2, q1, h, h2.keep x, h1.keep x⟩ ⟨hwd, w2.wide, w1.wide⟩ (by have : a.ts.size + b.ts.size ≤ 6 := hsz; show b.ts.size + a.ts.size ≤ 24; omega) (by have : max a.ts.depth b.ts.depth + 1 ≤ 11 := hdp; show max b.ts.depth a.ts.depth + 1 ≤ 12; omega) B
        rcases hwd with rfl | rfl
        · refine g_dec (fun _ => ?_) (fun h => absurd rfl h)
          walk_at "g"
          refine g_ixT (SqT.of hA) (v := .str "and") (by rfl) ?_
          walk_at "g"
          refine g_ixT (SqT.of hA) (v := .ref q2) (by rfl) ?_
          walk_at "g"
          refine g_ixT (SqT.of hA) (v := .ref q1) (by rfl) ?_
          walk_at "g"
          refine ⟨by show 3 ≤ sizeLine; decide, fun t ht => ?_⟩
          walk_at "g"
          exact swap t _ (ext_new ht) upd_same (B5.new ht)
        · refine g_dec (fun h => absurd h (show ("or" : Str) ≠ "and" by decide +kernel)) (fun _ => ?_)
          walk_at "g"
          refine g_ixT (SqT.of hA) (v := .str "or") (by rfl) ?_
          walk_at "g"
          refine g_dec (fun _ => ?_) (fun h => absurd rfl h)
          walk_at "g"
          refine g_ixT (SqT.of hA) (v := .str "or") (by rfl) ?_
          walk_at "g"
          refine g_ixT (SqT.of hA) (v := .ref q2) (by rfl) ?_
          walk_at "g"
          refine g_ixT (SqT.of hA) (v := .ref q1) (by rfl) ?_
          walk_at "g"
          refine ⟨by show 3 ≤ sizeLine; decide, fun t ht => ?_⟩
          walk_at "g"
          exact swap t _ (ext_new ht) upd_same (B5.new ht)
      walk_at "g"
      refine g_dec (fun _ => ?_) (fun _ => ?_)
      · walk_at "g"
        refine ⟨by show 2 ≤ sizeLine; decide, fun t ht => ?_⟩
        walk_at "g"
        exact k t (.un "not" (.bi wd a b)) _ ⟨q, upd_same, ext_new ht _ _ hA |> fun h => ⟨q1, q2, h, h1.keep (ext_new ht), h2.keep (ext_new ht)⟩⟩ ⟨.inl rfl, hwd, w1.wide, w2.wide⟩ (by show a.ts.size + b.ts.size ≤ 24; have : a.ts.size + b.ts.size ≤ 6 := hsz; omega) (by have : max a.ts.depth b.ts.depth + 1 ≤ 11 := hdp; show max a.ts.depth b.ts.depth + 1 + 1 ≤ 12; omega) (B5.new ht)
      walk_at "g"
      exact k q (.bi wd a b) _ ⟨q1, q2, hA, h1, h2⟩ ⟨hwd, w1.wide, w2.wide⟩ (Nat.le_trans hsz (by decide)) (Nat.le_trans hdp (by decide)) B5
    | un wd a =>
      have notF : ∀ t H', Ext H5 H' → H' t = some (.tup [.str "not", .ref q]) → DK d sc ns H H' → Q (.ref t) H' := fun t H' x h B => k t (.un "not" (.un wd a)) H' ⟨q, h, FormAt.keep x hF5⟩ ⟨.inl rfl, hw.wide⟩ (Nat.le_trans (show a.ts.size ≤ 6 from hsz) (by decide)) (Nat.succ_le_succ hdp) B
      obtain ⟨q1, hA, h1⟩ := id hF5
      refine g_dec (fun _ => ?_) (fun _ => ?_)
      · walk_at "g"
        refine g_lenT (SqT.of hA) ?_
        walk_at "g"
        refine g_dec (fun h => ?_) (fun _ => ?_)
        · cases h
        walk_at "g"
        refine g_dec (fun _ => ?_) (fun _ => ?_)
        · walk_at "g"
          refine ⟨by show 2 ≤ sizeLine; decide, fun t ht => ?_⟩
          walk_at "g"
          exact notF t _ (ext_new ht) upd_same (B5.new ht)
        walk_at "g"
        exact k q (.un wd a) _ hF5 hw.wide (Nat.le_trans hsz (by decide)) (Nat.le_trans hdp (by decide)) B5
      walk_at "g"
      refine g_dec (fun _ => ?_) (fun _ => ?_)
      · walk_at "g"
        refine ⟨by show 2 ≤ sizeLine; decide, fun t ht => ?_⟩
        walk_at "g"
        exact notF t _ (ext_new ht) upd_same (B5.new ht)
      walk_at "g"
      exact k q (.un wd a) _ hF5 hw.wide (Nat.le_trans hsz (by decide)) (Nat.le_trans hdp (by decide)) B5
    | «at» a =>
      have notF : ∀ t H', Ext H5 H' → H' t = some (.tup [.str "not", .ref q]) → DK d sc ns H H' → Q (.ref t) H' := fun t H' x h B => k t (.un "not" (.at a)) H' ⟨q, h, FormAt.keep (f := .at a) x hF5⟩ ⟨.inl rfl, At.Wf.wide hw⟩ (by show (1 : Nat) ≤ 24; decide) (by show (0 : Nat) + 1 ≤ 12; decide) B
      obtain ⟨rr, hA⟩ := form_word hF5
      obtain ⟨n1, n2, n3, n4⟩ := atom_words a
      refine g_dec (fun _ => ?_) (fun _ => ?_)
      · walk_at "g"
        refine g_lenT (SqT.of hA) ?_
        walk_at "g"
        refine g_dec (fun _ => ?_) (fun _ => ?_)
        · walk_at "g"
          refine g_ixT (SqT.of hA) (v := .str a.word) (atI_nat (j := 0) rfl) ?_
          walk_at "g"
          refine g_dec (fun h => absurd h n1) (fun _ => ?_)
          walk_at "g"
          refine g_ixT (SqT.of hA) (v := .str a.word) (atI_nat (j := 0) rfl) ?_
          walk_at "g"
          refine g_dec (fun h => absurd h n2) (fun _ => ?_)
          walk_at "g"
          refine g_dec (fun _ => ?_) (fun _ => ?_)
          · walk_at "g"
            refine ⟨by show 2 ≤ sizeLine; decide, fun t ht => ?_⟩
            walk_at "g"
            exact notF t _ (ext_new ht) upd_same (B5.new ht)
          walk_at "g"
          exact k q (.at a) _ hF5 hw.wide (Nat.le_trans hsz (by decide)) (Nat.le_trans hdp (by decide)) B5
        walk_at "g"
        refine g_dec (fun _ => ?_) (fun _ => ?_)
        · walk_at "g"
          refine ⟨by show 2 ≤ sizeLine; decide, fun t ht => ?_⟩
          walk_at "g"
          exact notF t _ (ext_new ht) upd_same (B5.new ht)
        walk_at "g"
        exact k q (.at a) _ hF5 hw.wide (Nat.le_trans hsz (by decide)) (Nat.le_trans hdp (by decide)) B5
      walk_at "g"
      refine g_dec (fun _ => ?_) (fun _ => ?_)
      · walk_at "g"
        refine ⟨by show 2 ≤ sizeLine; decide, fun t ht => ?_⟩
        walk_at "g"
        exact notF t _ (ext_new ht) upd_same (B5.new ht)
      walk_at "g"
      exact k q (.at a) _ hF5 hw.wide (Nat.le_trans hsz (by decide)) (Nat.le_trans hdp (by decide)) B5
theorem ok_Test_renamed (T : Txt K mg) : DefMX P w K mg base 17 (cadr mg "Test") "renamed" ["self", "mapping"] (spRenamed (cadr mg "Test") (cadr mg "BadTest")) := by
  obtain ⟨f, fd, h⟩ := T.d_Test_renamed
  obtain ⟨fE_BadTest, EB_BadTest⟩ := T.x_BadTest
  refine h.defX (Fun.okMX h.fn sc_Test_renamed (fun vs H Q E h => ?_) (fun cdv A outer s H vs Q E hr h => ?_))
  · obtain ⟨p, t, y, rfl, _⟩ := h
    rfl
  · obtain ⟨p, t, y, rfl, hA, h⟩ := h
    refine ⟨_, (pss_cons (ps_if (pt_not (pt_val (pe_callB (call_isiG (K := K) rfl) (by rfl) T.h_isinstance (by decide +kernel) (pa_cons (pv 1) (pa_cons (pe_bltn (v := .ty "dict") (by rfl) T.h_dict (by decide +kernel) rfl) pa_nil)))))
  (pss_one (ps_raiseBadTest rfl EB_BadTest hr (takes_of rfl rfl rfl rfl) (pa_cons pe_str pa_nil)))
  pss_nil)
  (pss_one (ps_ret (pe_defX (takes_of rfl rfl rfl rfl) (ok_renamed_by T) hr rfl (pa_cons (pv 0) (pa_cons (pv 1) pa_nil)))))), ?_⟩
    walk_at "g"
    rcases h with ⟨d, kvs, rfl, hd, hv, hdp, hcl, hO⟩ | ⟨Tn, hT, ty, hne, hE⟩
    · refine g_isi ((TyOf7.dct hd).x K) (kb_dict "dict" (by decide)) ?_
      rw [decide_eq_true rfl]
      walk_at "g"
      refine ⟨p, d, t, kvs, rfl, hA, hd, hv, by omega, hcl, hO.1, fun u e q H' x A => ?_⟩
      walk_at "g"
      exact hO.2 u e q H' x A
    · refine g_isi (ty.x K) (kb_dict Tn hT) ?_
      rw [decide_eq_false hne]
      walk_at "g"
      exact ⟨_, rfl, fun d hd => hE d _ (fun q o h => by rw [upd_ne (ne_of_none h hd)]; exact h) upd_same⟩
theorem ok__law_refuses (T : Txt K mg) : Def P w K mg base 18 "_law_refuses" ["_law_test", "_law_mapping"] (spRefuses (cadr mg "Test")) := by
  obtain ⟨f, fd, h⟩ := T.d__law_refuses
  obtain ⟨fE_BadTest, EB_BadTest⟩ := T.x_BadTest
  refine h.def (Fun.okM h.fn sc__law_refuses (fun vs H Q E h => ?_) (fun cdv A outer s H vs Q E hr h => ?_))
  · obtain ⟨p, t, y, rfl, _⟩ := h
    rfl
  · obtain ⟨p, t, y, rfl, hA, h, k⟩ := h
    obtain ⟨dx, i1, f1, u1, qs1, hp, _⟩ := hA.node
    refine ⟨_, (pss_cons (ps_set (i := 2) sc__law_refuses.nd rfl (Or.inl rfl) pe_bl)
  (pss_cons (ps_try_as (i := 3) (Wout := fun _ _ _ _ => False) rfl rfl sc__law_refuses.nd rfl rfl ⟨rfl, by decide, Or.inl EB_BadTest.gC⟩ takes0 (fun W pn xe tk _ =>
  (pss_one (ps_expr (pe_meX tk (pv 0) T.cl_Test (ok_Test_renamed T) hr (pa_cons (pv 1) pa_nil)))))
  (fun a oe cls d pn hz hf => (pss_one (ps_set (i := 2) sc__law_refuses.nd rfl (Or.inl rfl) (pe_cmpR op_eq (pe_byBadTest EB_BadTest hz hf (pv 3)) pe_str (nomark _))))))
  (pss_one (ps_ret (pv 2))))), ?_⟩
    have caught : ∀ (D : Ends) (d : Addr) (H' : Hp), (∀ H2, H2 = H' → D.nx [some (.ref p), some y, some (.bl true), none] H2) → H' d = some (xwhy "column") →
        wAs K (.ref (cadr mg "BadTest")) 3 (fun a cls d => tAsg (tOp rEq (tByBadTest (cadr mg "BadTest") a cls d (tVar 3)) (tC (.str (Str.ofString "column")))) (gName 2)) (fun _ _ _ _ => False) D (.ref (cadr mg "BadTest")) (some d) ((L2.start N__law_refuses [.ref p, y]).set 2 (some (.bl false))) H' := by
      intro D d H' hD hd
      refine ⟨true, EB_BadTest.te, fun _ a0 ha0 => ?_, fun q => Bool.noConfusion q⟩
      walk_at "g"
      refine ⟨_, rfl, rfl, rfl, d, _, rfl, hd, ?_⟩
      walk_at "g"
      rw [decide_eq_true rfl]
      walk_at "g"
      exact hD _ rfl
    walk_at "g"
    refine ⟨p, dx, _, rfl, hp, tf_renamed, ?_⟩
    walk_at "g"
    have fin : ∀ dd H', Ext H H' → H' dd = some (xwhy "column") → _ := fun dd H' x hd => caught (mkE (tRet (tVar 2) (mkE (fun x H' => Q V.non H') Q (fun _ _ => False) fun _ _ => False)) Q (fun _ _ => False) fun _ _ => False) dd H' (fun H2 e => by
      subst e
      walk_at "g"
      exact k _ x) hd
    rcases h with ⟨d, kvs, rfl, hd, hv, hdp, hcl, hO⟩ | ⟨Tn, hT, ty, hne⟩
    · exact ⟨p, t, _, rfl, hA, .inl ⟨d, kvs, rfl, hd, hv, hdp, hcl, fun _ dd H' x h => fin dd H' x h, fun u e => absurd (hO.symm.trans e) nofun⟩⟩
    · exact ⟨p, t, y, rfl, hA, .inr ⟨Tn, hT, ty, hne, fun dd H' x h => fin dd H' x h⟩⟩
end
def spFlag : Sp := fun vs H Q _ => ∃ a b, vs = [.bl a, .bl b] ∧ Q (.bl (decide (a = b))) H
section
variable {P : Program} {w : World} {K : PySem.W.Frag} {mg : Str → Option Value} {base : Heap}
theorem ok__law_flag (T : Txt K mg) : Def P w K mg base 1 "_law_flag" ["_law_thing_here", "_law_due"] spFlag := by
  obtain ⟨f, fd, h⟩ := T.d__law_flag
  refine h.def (Fun.okM h.fn sc__law_flag (fun vs H Q E h => ?_) (fun cdv A outer s H vs Q E hr h => ?_))
  · obtain ⟨a, b, rfl, _⟩ := h
    rfl
  · obtain ⟨a, b, rfl, k⟩ := h
    refine ⟨_, (pss_one (ps_ret (pe_and (pe_callB (call_isiG (K := K) rfl) (by rfl) T.h_isinstance (by decide +kernel) (pa_cons (pv 0) (pa_cons (pe_bltn (v := .ty "bool") (by rfl) T.h_bool (by decide +kernel) rfl) pa_nil))) (pe_one (pe_cmpR op_eq (pv 0) (pe_callTy call_boolG (by rfl) T.h_bool (by decide +kernel) (pa_cons (pv 1) pa_nil)) (nomark _)))))), ?_⟩
    walk_at "g"
    exact k
end
/-! forms as plain data -/
def vpd : V → PyData
  | .int i => .int i
  | .str z => .str z
  | _ => .none
theorem vpd_eq {x y : V} (h : kv x) (h' : kv y) : PyData.eqv (vpd x) (vpd y) = true ↔ x = y := by
  rcases h with ⟨i, rfl⟩ | ⟨z, rfl⟩ <;> rcases h' with ⟨j, rfl⟩ | ⟨u, rfl⟩ <;> simp [vpd, PyData.eqv]
theorem vpds_eq : ∀ {xs ys : List V}, (∀ x ∈ xs, kv x) → (∀ y ∈ ys, kv y) → (PyData.eqvAll (xs.map vpd) (ys.map vpd) = true ↔ xs = ys)
  | [], [], _, _ => by simp [PyData.eqvAll]
  | [], _ :: _, _, _ => by simp [PyData.eqvAll]
  | _ :: _, [], _, _ => by simp [PyData.eqvAll]
  | x :: xs, y :: ys, h1, h2 => by
    simp only [List.map_cons, PyData.eqvAll, Bool.and_eq_true, List.cons.injEq]
    rw [vpd_eq (h1 x List.mem_cons_self) (h2 y List.mem_cons_self), vpds_eq (fun v m => h1 v (List.mem_cons_of_mem _ m)) fun v m => h2 v (List.mem_cons_of_mem _ m)]
def At.args : At → List PyData
  | .always => []
  | .never => []
  | .empty c => [.str c]
  | .among c vs => [.str c, .list (vs.map vpd)]
  | .begins c z => [.str c, .str z]
  | .compare c op v => [.str c, .str op, vpd v]
  | .against c op d n => [.str c, .str op, .str d, .int n]
def Fm.pd : Fm → PyData
  | .at a => .tuple (.str a.word :: a.args)
  | .un w f => .tuple [.str w, f.pd]
  | .bi w f g => .tuple [.str w, f.pd, g.pd]
def At.Kv : At → Prop
  | .among _ vs => ∀ v ∈ vs, kv v
  | .compare _ _ v => kv v
  | _ => True
def Fm.Kv : Fm → Prop
  | .at a => a.Kv
  | .un _ f => f.Kv
  | .bi _ f g => f.Kv ∧ g.Kv
theorem isV.kv {k : Bool} {v : V} (h : isV k v) : kv v := by
  cases k with
  | false => exact .inl h
  | true => obtain ⟨z, rfl, _⟩ := h; exact .inr ⟨z, rfl⟩
theorem At.WfW.kv {κ : List (Str × Bool)} {a : At} (h : a.WfW κ) : a.Kv := by
  cases a with
  | among c vs => obtain ⟨_, _, _, k, _, hv⟩ := h; exact fun v m => (hv v m).kv
  | compare c op v => obtain ⟨_, _, k, _, hv⟩ := h; exact hv.kv
  | _ => trivial
theorem Fm.WfW.kv {κ : List (Str × Bool)} : ∀ {f : Fm}, f.WfW κ → f.Kv
  | .at _, h => At.WfW.kv h
  | .un _ f, h => Fm.WfW.kv (f := f) h.2
  | .bi _ f g, h => ⟨Fm.WfW.kv (f := f) h.2.1, Fm.WfW.kv (f := g) h.2.2⟩
theorem At.Kv.ok {a : At} (h : a.Kv) : a.ts.Ok := by
  cases a with
  | among c vs => exact h
  | compare c op v =>
    intro x hx
    rcases List.mem_cons.mp hx with rfl | hx
    · exact .inr ⟨op, rfl⟩
    · rw [List.mem_singleton.mp hx]; exact h
  | against c op d n =>
    intro x hx
    rcases List.mem_cons.mp hx with rfl | hx
    · exact .inr ⟨op, rfl⟩
    · rw [List.mem_singleton.mp hx]; exact .inl ⟨n, rfl⟩
  | begins c z =>
    intro x hx
    rw [List.mem_singleton.mp hx]
    exact .inr ⟨z, rfl⟩
  | always => exact nofun
  | never => exact nofun
  | empty c => exact nofun
theorem Fm.Kv.ok : ∀ {f : Fm}, f.Kv → f.ts.Ok
  | .at _, h => At.Kv.ok h
  | .un _ f, h => Fm.Kv.ok (f := f) h
  | .bi _ f g, h => ⟨Fm.Kv.ok (f := f) h.1, Fm.Kv.ok (f := g) h.2⟩
theorem At.eq_of {a b : At} (hw : a.word = b.word) (hf : a.flds = b.flds) (ht : a.trms = b.trms) : a = b := by
  cases a <;> cases b <;> first
    | exact absurd hw (by simp only [At.word]; decide +kernel)
    | rfl
    | (simp only [At.flds, At.trms, List.cons.injEq, V.str.injEq, V.int.injEq] at hf ht; simp_all)
theorem At.args_eq {a b : At} (ha : a.Kv) (hb : b.Kv) (hw : a.word = b.word) : PyData.eqvAll a.args b.args = true ↔ a = b := by
  cases a with
  | always =>
    cases b with
    | always => simp [At.args, PyData.eqvAll]
    | _ => exact absurd hw (by simp only [At.word]; decide +kernel)
  | never =>
    cases b with
    | never => simp [At.args, PyData.eqvAll]
    | _ => exact absurd hw (by simp only [At.word]; decide +kernel)
  | empty c =>
    cases b with
    | empty c2 => simp [At.args, PyData.eqvAll, PyData.eqv]
    | _ => exact absurd hw (by simp only [At.word]; decide +kernel)
  | among c vs =>
    cases b with
    | among c2 us => simp only [At.args, PyData.eqvAll, PyData.eqv, Bool.and_eq_true, Bool.and_true, beq_iff_eq, At.among.injEq]; rw [vpds_eq ha hb]
    | _ => exact absurd hw (by simp only [At.word]; decide +kernel)
  | begins c z =>
    cases b with
    | begins c2 z2 => simp [At.args, PyData.eqvAll, PyData.eqv]
    | _ => exact absurd hw (by simp only [At.word]; decide +kernel)
  | compare c op v =>
    cases b with
    | compare c2 op2 v2 => simp only [At.args, PyData.eqvAll, PyData.eqv, Bool.and_eq_true, Bool.and_true, beq_iff_eq, At.compare.injEq]; rw [vpd_eq ha hb]
    | _ => exact absurd hw (by simp only [At.word]; decide +kernel)
  | against c op d n =>
    cases b with
    | against c2 op2 d2 n2 => simp [At.args, PyData.eqvAll, PyData.eqv]
    | _ => exact absurd hw (by simp only [At.word]; decide +kernel)
theorem Fm.ts_inj : ∀ {f g : Fm}, f.ts = g.ts → f = g
  | .at a, .at b, h => by
    injection h with h1 h2 h3
    rw [At.eq_of h1 h2 h3]
  | .at _, .un _ _, h => by cases h
  | .at _, .bi _ _ _, h => by cases h
  | .un _ _, .at _, h => by cases h
  | .un w f, .un w' g, h => by
    injection h with h1 h2
    rw [h1, Fm.ts_inj h2]
  | .un _ _, .bi _ _ _, h => by cases h
  | .bi _ _ _, .at _, h => by cases h
  | .bi _ _ _, .un _ _, h => by cases h
  | .bi w f g, .bi w' f' g', h => by
    injection h with h1 h2 h3
    rw [h1, Fm.ts_inj h2, Fm.ts_inj h3]
theorem Fm.ts_eq {f g : Fm} : f.ts = g.ts ↔ f = g := ⟨Fm.ts_inj, fun e => by rw [e]⟩
theorem pd_words {w w' : Str} {xs ys : List PyData} : PyData.eqv (.tuple (.str w :: xs)) (.tuple (.str w' :: ys)) = ((w == w') && PyData.eqvAll xs ys) := by simp only [PyData.eqv, PyData.eqvAll]
theorem pd_ne {w w' : Str} {xs ys : List PyData} (h : w ≠ w') : PyData.eqv (.tuple (.str w :: xs)) (.tuple (.str w' :: ys)) = false := by
  rw [pd_words, beq_eq_false_iff_ne.mpr h]
  rfl
theorem un_word {w : Str} (h : w = "not" ∨ w = "sure") (a : At) : a.word ≠ w := by
  obtain ⟨_, _, n3, n4⟩ := atom_words a
  rcases h with rfl | rfl
  · exact n3
  · exact n4
theorem bi_word {w : Str} (h : w = "and" ∨ w = "or") (a : At) : a.word ≠ w := by
  obtain ⟨n1, n2, _, _⟩ := atom_words a
  rcases h with rfl | rfl
  · exact n1
  · exact n2
theorem ub_word {w w' : Str} (h : w = "not" ∨ w = "sure") (h' : w' = "and" ∨ w' = "or") : w ≠ w' := by
  rcases h with rfl | rfl <;> rcases h' with rfl | rfl <;> decide +kernel
theorem Fm.pd_eq {κ κ' : List (Str × Bool)} : ∀ {f g : Fm}, f.WfW κ → g.WfW κ' → (PyData.eqv f.pd g.pd = true ↔ f = g)
  | .at a, .at b, h1, h2 => by
    show PyData.eqv (.tuple (.str a.word :: a.args)) (.tuple (.str b.word :: b.args)) = true ↔ _
    rw [pd_words, Bool.and_eq_true, beq_iff_eq, Fm.at.injEq]
    constructor
    · rintro ⟨hw, h⟩
      exact (At.args_eq (At.WfW.kv h1) (At.WfW.kv h2) hw).mp h
    · rintro rfl
      exact ⟨rfl, (At.args_eq (At.WfW.kv h1) (At.WfW.kv h1) rfl).mpr rfl⟩
  | .at a, .un w g, h1, h2 => by
    show PyData.eqv (.tuple (.str a.word :: a.args)) (.tuple (.str w :: [g.pd])) = true ↔ _
    rw [pd_ne (un_word h2.1 a)]
    exact ⟨nofun, nofun⟩
  | .at a, .bi w g g', h1, h2 => by
    show PyData.eqv (.tuple (.str a.word :: a.args)) (.tuple (.str w :: [g.pd, g'.pd])) = true ↔ _
    rw [pd_ne (bi_word h2.1 a)]
    exact ⟨nofun, nofun⟩
  | .un w f, .at b, h1, h2 => by
    show PyData.eqv (.tuple (.str w :: [f.pd])) (.tuple (.str b.word :: b.args)) = true ↔ _
    rw [pd_ne (Ne.symm (un_word h1.1 b))]
    exact ⟨nofun, nofun⟩
  | .un w f, .un w' g, h1, h2 => by
    show PyData.eqv (.tuple (.str w :: [f.pd])) (.tuple (.str w' :: [g.pd])) = true ↔ _
    rw [pd_words, Bool.and_eq_true, beq_iff_eq, Fm.un.injEq]
    simp only [PyData.eqvAll, Bool.and_true]
    rw [Fm.pd_eq (f := f) (g := g) h1.2 h2.2]
  | .un w f, .bi w' g g', h1, h2 => by
    show PyData.eqv (.tuple (.str w :: [f.pd])) (.tuple (.str w' :: [g.pd, g'.pd])) = true ↔ _
    rw [pd_ne (ub_word h1.1 h2.1)]
    exact ⟨nofun, nofun⟩
  | .bi w f f', .at b, h1, h2 => by
    show PyData.eqv (.tuple (.str w :: [f.pd, f'.pd])) (.tuple (.str b.word :: b.args)) = true ↔ _
    rw [pd_ne (Ne.symm (bi_word h1.1 b))]
    exact ⟨nofun, nofun⟩
  | .bi w f f', .un w' g, h1, h2 => by
    show PyData.eqv (.tuple (.str w :: [f.pd, f'.pd])) (.tuple (.str w' :: [g.pd])) = true ↔ _
    rw [pd_ne (Ne.symm (ub_word h2.1 h1.1))]
    exact ⟨nofun, nofun⟩
  | .bi w f f', .bi w' g g', h1, h2 => by
    show PyData.eqv (.tuple (.str w :: [f.pd, f'.pd])) (.tuple (.str w' :: [g.pd, g'.pd])) = true ↔ _
    rw [pd_words, Bool.and_eq_true, beq_iff_eq, Fm.bi.injEq]
    simp only [PyData.eqvAll, Bool.and_true, Bool.and_eq_true]
    rw [Fm.pd_eq (f := f) (g := g) h1.2.1 h2.2.1, Fm.pd_eq (f := f') (g := g') h1.2.2 h2.2.2]
/-! the data stand where the form stands, and are of the shape that == asks -/
theorem dp_v {K : PySem.W.Frag} {H : Hp} {v : V} (h : kv v) : Dp K H v (vpd v) := by
  rcases h with ⟨i, rfl⟩ | ⟨z, rfl⟩
  · exact .int i
  · exact .str z
theorem dp_vs {K : PySem.W.Frag} {H : Hp} : ∀ {vs : List V}, (∀ v ∈ vs, kv v) → DpAll K H vs (vs.map vpd)
  | [], _ => .nil
  | v :: vs, h => .cons (dp_v (h v List.mem_cons_self)) (dp_vs fun x m => h x (List.mem_cons_of_mem _ m))
theorem dp_form {K : PySem.W.Frag} {H : Hp} : ∀ {f : Fm} {q : Addr}, f.Kv → FormAt H f q → Dp K H (.ref q) f.pd
  | .at a, q, hk, h => by
    cases a with
    | always => exact .tup (SqT.of h) (.cons (.str _) .nil)
    | never => exact .tup (SqT.of h) (.cons (.str _) .nil)
    | empty c => exact .tup (SqT.of h) (.cons (.str _) (.cons (.str c) .nil))
    | among c vs =>
      obtain ⟨l, kd, h1, h2, _⟩ := h
      exact .tup (SqT.of h1) (.cons (.str _) (.cons (.str c) (.cons (.lst (SqL.of h2) (dp_vs hk)) .nil)))
    | begins c z => exact .tup (SqT.of h) (.cons (.str _) (.cons (.str c) (.cons (.str z) .nil)))
    | compare c op v => exact .tup (SqT.of h) (.cons (.str _) (.cons (.str c) (.cons (.str op) (.cons (dp_v hk) .nil))))
    | against c op d n => exact .tup (SqT.of h) (.cons (.str _) (.cons (.str c) (.cons (.str op) (.cons (.str d) (.cons (.int n) .nil)))))
  | .un w f, q, hk, ⟨p, h1, h2⟩ => .tup (SqT.of h1) (.cons (.str w) (.cons (dp_form (f := f) hk h2) .nil))
  | .bi w f g, q, hk, ⟨p, r, h1, h2, h3⟩ => .tup (SqT.of h1) (.cons (.str w) (.cons (dp_form (f := f) hk.1 h2) (.cons (dp_form (f := g) hk.2 h3) .nil)))
theorem str_lay {z : Str} (h : ∀ c ∈ z.cps.toList, c < 0x110000) : PyData.canLay0 (.str z) = true := by
  show (z.cps.all (· < 0x110000)) = true
  rw [← Array.all_toList, List.all_eq_true]
  intro c hc
  exact decide_eq_true (h c hc)
theorem name_lay {z : Str} (h : nameP z) : PyData.canLay0 (.str z) = true := str_lay fun c hc => by
  have : ∀ c ∈ nameSigns, c < 0x110000 := by decide +kernel
  exact this c (h.2.2.2.2 c hc)
theorem op_lay {z : Str} (h : z ∈ opsL) : PyData.canLay0 (.str z) = true := by
  have : ∀ z ∈ opsL, PyData.canLay0 (.str z) = true := by decide +kernel
  exact this z h
theorem isV_lay {k : Bool} {v : V} (h : isV k v) : PyData.canLay0 (vpd v) = true := by
  cases k with
  | false => obtain ⟨i, rfl⟩ := h; rfl
  | true =>
    obtain ⟨z, rfl, _, hz⟩ := h
    refine str_lay fun c hc => ?_
    have : ∀ c ∈ signs.cps.toList, c < 0x110000 := by decide +kernel
    exact this c (hz c hc)
theorem isV_lays {k : Bool} : ∀ {vs : List V}, (∀ v ∈ vs, isV k v) → PyData.canLayAll0 (vs.map vpd) = true
  | [], _ => rfl
  | v :: vs, h => by
    simp only [List.map_cons, PyData.canLayAll0, Bool.and_eq_true]
    exact ⟨isV_lay (h v List.mem_cons_self), isV_lays fun x m => h x (List.mem_cons_of_mem _ m)⟩
theorem vpd_depth (v : V) : (vpd v).depth = 0 := by
  cases v <;> rfl
theorem vpds_depth : ∀ (vs : List V), PyData.depthAll (vs.map vpd) = 0
  | [] => rfl
  | v :: vs => by
    simp only [List.map_cons, PyData.depthAll, vpd_depth, vpds_depth vs]
    rfl
theorem Fm.pd_lay {κ : List (Str × Bool)} : ∀ {f : Fm}, f.WfW κ → f.pd.canLay0 = true
  | .at a, h => by
    show PyData.canLay0 (.tuple (.str a.word :: a.args)) = true
    have hw : PyData.canLay0 (.str a.word) = true := by cases a <;> (simp only [At.word]; decide +kernel)
    simp only [PyData.canLay0, PyData.canLayAll0] at hw ⊢
    rw [hw, Bool.true_and]
    cases a with
    | always => rfl
    | never => rfl
    | empty c =>
      have := name_lay h.1
      simp only [PyData.canLay0] at this
      simp [At.args, PyData.canLayAll0, PyData.canLay0, this]
    | among c vs =>
      obtain ⟨hc, _, _, k, _, hv⟩ := h
      have := name_lay hc
      simp only [PyData.canLay0] at this
      simp [At.args, PyData.canLayAll0, PyData.canLay0, this, isV_lays hv]
    | begins c z =>
      obtain ⟨hc, _, hz⟩ := h
      have h1 := name_lay hc
      have h2 := isV_lay (k := true) hz
      simp only [PyData.canLay0, vpd] at h1 h2
      simp [At.args, PyData.canLayAll0, PyData.canLay0, h1, h2]
    | compare c op v =>
      obtain ⟨hc, ho, k, _, hv⟩ := h
      have h1 := name_lay hc
      have h2 := op_lay ho
      have h3 := isV_lay hv
      simp only [PyData.canLay0] at h1 h2
      simp [At.args, PyData.canLayAll0, PyData.canLay0, h1, h2, h3]
    | against c op d n =>
      obtain ⟨hc, hd, _, ho, _⟩ := h
      have h1 := name_lay hc
      have h2 := op_lay ho
      have h3 := name_lay hd
      simp only [PyData.canLay0] at h1 h2 h3
      simp [At.args, PyData.canLayAll0, PyData.canLay0, h1, h2, h3]
  | .un w f, h => by
    show PyData.canLay0 (.tuple [.str w, f.pd]) = true
    have hw : PyData.canLay0 (.str w) = true := by rcases h.1 with rfl | rfl <;> decide +kernel
    simp only [PyData.canLay0, PyData.canLayAll0] at hw ⊢
    rw [hw, Fm.pd_lay (f := f) h.2]
    rfl
  | .bi w f g, h => by
    show PyData.canLay0 (.tuple [.str w, f.pd, g.pd]) = true
    have hw : PyData.canLay0 (.str w) = true := by rcases h.1 with rfl | rfl <;> decide +kernel
    simp only [PyData.canLay0, PyData.canLayAll0] at hw ⊢
    rw [hw, Fm.pd_lay (f := f) h.2.1, Fm.pd_lay (f := g) h.2.2]
    rfl
theorem Fm.pd_depth : ∀ f : Fm, f.pd.depth ≤ f.ts.depth + 2
  | .at a => by
    show PyData.depth (.tuple (.str a.word :: a.args)) ≤ 0 + 2
    cases a <;> simp [At.args, PyData.depth, PyData.depthAll, vpd_depth, vpds_depth]
  | .un w f => by
    show PyData.depth (.tuple [.str w, f.pd]) ≤ f.ts.depth + 1 + 2
    have := Fm.pd_depth f
    simp only [PyData.depth, PyData.depthAll]
    omega
  | .bi w f g => by
    show PyData.depth (.tuple [.str w, f.pd, g.pd]) ≤ max f.ts.depth g.ts.depth + 1 + 2
    have := Fm.pd_depth f
    have := Fm.pd_depth g
    simp only [PyData.depth, PyData.depthAll]
    omega
theorem Fm.shaped {κ : List (Str × Bool)} {f : Fm} (h : f.WfW κ) (hd : f.ts.depth ≤ 12) : SeqAt.shaped f.pd = true := by
  unfold SeqAt.shaped
  rw [Fm.pd_lay h, decide_eq_true (by have := Fm.pd_depth f; omega)]
  rfl
section
variable {K : PySem.W.Frag} {H : Hp} {Q : VK} {κ κ' : List (Str × Bool)} {f g : Fm} {p q : Addr}
theorem g_eqForm (h1 : FormAt H f p) (h2 : FormAt H g q) (w1 : f.WfW κ) (w2 : g.WfW κ') (d1 : f.ts.depth ≤ 12) (d2 : g.ts.depth ≤ 12) (k : ∀ r, (r = true ↔ f = g) → Q (.bl r) H) : rEqD K (.ref p) (.ref q) H Q :=
  ⟨f.pd, g.pd, dp_form w1.kv h1, dp_form w2.kv h2, Fm.shaped w1 d1, Fm.shaped w2 d2, k _ (Fm.pd_eq w1 w2)⟩
theorem g_neForm (h1 : FormAt H f p) (h2 : FormAt H g q) (w1 : f.WfW κ) (w2 : g.WfW κ') (d1 : f.ts.depth ≤ 12) (d2 : g.ts.depth ≤ 12) (k : ∀ r, (r = true ↔ f = g) → Q (.bl (!r)) H) : rNeD K (.ref p) (.ref q) H Q :=
  ⟨f.pd, g.pd, dp_form w1.kv h1, dp_form w2.kv h2, Fm.shaped w1 d1, Fm.shaped w2 d2, k _ (Fm.pd_eq w1 w2)⟩
end
/-! what a mapping of columns does to a form -/
theorem strV_nameB {v : V} {c : Str} (h : nameB v = true) : nameP (strV v c) := by
  have e := nameB_strV c h
  rw [e] at h
  exact nameB_str.mp h
theorem mvS_name {kvs : List (Key × V)} {c : Str} (h : nameB (mv kvs c) = true) : nameP (mvS kvs c) := strV_nameB h
/-- a mapping that takes the columns to columns, no two to one -/
structure MapOk (ns : List Str) (kvs : List (Key × V)) : Prop where
  nm : ∀ c ∈ ns, nameB (mv kvs c) = true
  inj : ∀ c ∈ ns, ∀ d ∈ ns, mvS kvs c = mvS kvs d → c = d
def renCs (kvs : List (Key × V)) (cs : List (Str × Bool)) : List (Str × Bool) := cs.map fun c => (mvS kvs c.1, c.2)
theorem mem_ren {kvs : List (Key × V)} {cs : List (Str × Bool)} {c : Str} {k : Bool} (h : (c, k) ∈ cs) : (mvS kvs c, k) ∈ renCs kvs cs := List.mem_map.mpr ⟨(c, k), h, rfl⟩
theorem mem_fst {cs : List (Str × Bool)} {c : Str} {k : Bool} (h : (c, k) ∈ cs) : c ∈ cs.map (·.1) := List.mem_map.mpr ⟨(c, k), h, rfl⟩
theorem At.cols_in {cs : List (Str × Bool)} {a : At} (h : a.Wf cs) : ∀ c ∈ a.flds, c ∈ cs.map (·.1) := by
  intro c hc
  cases a with
  | always => exact nomatch hc
  | never => exact nomatch hc
  | empty d => obtain ⟨_, k, m⟩ := h; rw [List.mem_singleton.mp hc]; exact mem_fst m
  | among d vs => obtain ⟨_, _, _, k, m, _⟩ := h; rw [List.mem_singleton.mp hc]; exact mem_fst m
  | begins d z => rw [List.mem_singleton.mp hc]; exact mem_fst h.2.1
  | compare d op v => obtain ⟨_, _, k, m, _⟩ := h; rw [List.mem_singleton.mp hc]; exact mem_fst m
  | against d op e n =>
    obtain ⟨_, _, _, _, k, m1, m2, _⟩ := h
    rcases List.mem_cons.mp hc with rfl | hc
    · exact mem_fst m1
    · rw [List.mem_singleton.mp hc]; exact mem_fst m2
theorem Fm.cols_in {cs : List (Str × Bool)} : ∀ {f : Fm}, f.Wf cs → ∀ c ∈ f.cols, c ∈ cs.map (·.1)
  | .at a, h => At.cols_in h
  | .un _ f, h => Fm.cols_in (f := f) h.2
  | .bi _ f g, h => fun c hc => (List.mem_append.mp hc).elim (Fm.cols_in (f := f) h.2.1 c) (Fm.cols_in (f := g) h.2.2 c)
theorem At.move_wf {cs : List (Str × Bool)} {kvs : List (Key × V)} (M : MapOk (cs.map (·.1)) kvs) {a : At} (h : a.Wf cs) : (a.move (mvS kvs)).Wf (renCs kvs cs) := by
  cases a with
  | always => trivial
  | never => trivial
  | empty d => obtain ⟨_, k, m⟩ := h; exact ⟨mvS_name (M.nm _ (mem_fst m)), k, mem_ren m⟩
  | among d vs => obtain ⟨_, h1, h2, k, m, h3⟩ := h; exact ⟨mvS_name (M.nm _ (mem_fst m)), h1, h2, k, mem_ren m, h3⟩
  | begins d z => obtain ⟨_, m, h2⟩ := h; exact ⟨mvS_name (M.nm _ (mem_fst m)), mem_ren m, h2⟩
  | compare d op v => obtain ⟨_, h1, k, m, h3⟩ := h; exact ⟨mvS_name (M.nm _ (mem_fst m)), h1, k, mem_ren m, h3⟩
  | against d op e n =>
    obtain ⟨_, _, hne, h1, k, m1, m2, h3⟩ := h
    exact ⟨mvS_name (M.nm _ (mem_fst m1)), mvS_name (M.nm _ (mem_fst m2)), fun e => hne (M.inj _ (mem_fst m2) _ (mem_fst m1) e), h1, k, mem_ren m1, mem_ren m2, h3⟩
theorem Fm.move_wf {cs : List (Str × Bool)} {kvs : List (Key × V)} (M : MapOk (cs.map (·.1)) kvs) : ∀ {f : Fm}, f.Wf cs → (f.move (mvS kvs)).Wf (renCs kvs cs)
  | .at _, h => At.move_wf M h
  | .un _ f, h => ⟨h.1, Fm.move_wf M (f := f) h.2⟩
  | .bi _ f g, h => ⟨h.1, Fm.move_wf M (f := f) h.2.1, Fm.move_wf M (f := g) h.2.2⟩
theorem At.move_flds (m : Str → Str) (a : At) : (a.move m).flds = a.flds.map m := by cases a <;> rfl
theorem At.move_ts (m : Str → Str) (a : At) : (a.move m).ts = .at a.word (a.flds.map m) a.trms := by cases a <;> rfl
theorem Fm.move_cols (m : Str → Str) : ∀ f : Fm, (f.move m).cols = f.cols.map m
  | .at a => At.move_flds m a
  | .un _ f => Fm.move_cols m f
  | .bi _ f g => by
    show (f.move m).cols ++ (g.move m).cols = (f.cols ++ g.cols).map m
    rw [Fm.move_cols m f, Fm.move_cols m g, List.map_append]
theorem Fm.move_depth (m : Str → Str) : ∀ f : Fm, (f.move m).ts.depth = f.ts.depth
  | .at a => by cases a <;> rfl
  | .un _ f => congrArg (· + 1) (Fm.move_depth m f)
  | .bi _ f g => by
    show max (f.move m).ts.depth (g.move m).ts.depth + 1 = max f.ts.depth g.ts.depth + 1
    rw [Fm.move_depth m f, Fm.move_depth m g]
theorem Fm.move_size (m : Str → Str) : ∀ f : Fm, (f.move m).ts.size = f.ts.size
  | .at a => by cases a <;> rfl
  | .un _ f => Fm.move_size m f
  | .bi _ f g => by
    show (f.move m).ts.size + (g.move m).ts.size = f.ts.size + g.ts.size
    rw [Fm.move_size m f, Fm.move_size m g]
theorem okF_of {cs : List (Str × Bool)} {kvs : List (Key × V)} (M : MapOk (cs.map (·.1)) kvs) {a : At} (h : a.Wf cs) : okF kvs a.flds = true := by
  have hall : a.flds.all (fun c => nameB (mv kvs c)) = true := List.all_eq_true.mpr fun c m => M.nm c (At.cols_in h c m)
  unfold okF
  rw [hall, Bool.true_and]
  cases a with
  | against d op e n =>
    obtain ⟨_, _, hne, _, k, m1, m2, _⟩ := h
    show (!decide (mvS kvs d = mvS kvs e)) = true
    rw [decide_eq_false fun e => hne (M.inj _ (mem_fst m1) _ (mem_fst m2) e).symm]
    rfl
  | _ => rfl
theorem ren_move {cs : List (Str × Bool)} {kvs : List (Key × V)} (M : MapOk (cs.map (·.1)) kvs) : ∀ {f : Fm}, f.Wf cs → ren kvs f.ts = some (f.move (mvS kvs)).ts
  | .at a, h => by
    show ren kvs (.at a.word a.flds a.trms) = some (a.move (mvS kvs)).ts
    unfold ren
    rw [if_pos (okF_of M h), At.move_ts]
  | .un w f, h => by
    show ren kvs (.un w f.ts) = some (.un w (f.move (mvS kvs)).ts)
    unfold ren
    rw [ren_move M (f := f) h.2]
    rfl
  | .bi w f g, h => by
    show ren kvs (.bi w f.ts g.ts) = some (.bi w (f.move (mvS kvs)).ts (g.move (mvS kvs)).ts)
    unfold ren
    rw [ren_move M (f := f) h.2.1, ren_move M (f := g) h.2.2]
theorem At.move_back {m b : Str → Str} {a : At} (h : ∀ c ∈ a.flds, b (m c) = c) : (a.move m).move b = a := by
  cases a with
  | always => rfl
  | never => rfl
  | empty d => show At.empty (b (m d)) = _; rw [h d List.mem_cons_self]
  | among d vs => show At.among (b (m d)) vs = _; rw [h d List.mem_cons_self]
  | begins d z => show At.begins (b (m d)) z = _; rw [h d List.mem_cons_self]
  | compare d op v => show At.compare (b (m d)) op v = _; rw [h d List.mem_cons_self]
  | against d op e n => show At.against (b (m d)) op (b (m e)) n = _; rw [h d List.mem_cons_self, h e (List.mem_cons_of_mem _ List.mem_cons_self)]
theorem Fm.move_back {m b : Str → Str} : ∀ {f : Fm}, (∀ c ∈ f.cols, b (m c) = c) → (f.move m).move b = f
  | .at a, h => congrArg Fm.at (At.move_back h)
  | .un w f, h => congrArg (Fm.un w) (Fm.move_back (f := f) h)
  | .bi w f g, h => by
    show Fm.bi w ((f.move m).move b) ((g.move m).move b) = _
    rw [Fm.move_back (f := f) fun c hc => h c (List.mem_append.mpr (.inl hc)), Fm.move_back (f := g) fun c hc => h c (List.mem_append.mpr (.inr hc))]
theorem any_move {g g' : Str → V} {m : Str → Str} : ∀ {l : List Str}, (∀ c ∈ l, g' (m c) = g c) → (l.map m).any (fun c => decide (g' c = .non)) = l.any fun c => decide (g c = .non)
  | [], _ => rfl
  | c :: r, h => by
    simp only [List.map_cons, List.any_cons]
    rw [h c List.mem_cons_self, any_move fun d hd => h d (List.mem_cons_of_mem _ hd)]
theorem evalA_move {g g' : Str → V} {m : Str → Str} {a : At} (h : ∀ c ∈ a.flds, g' (m c) = g c) : evalA g' (a.move m) = evalA g a := by
  have ha := any_move h
  cases a with
  | always => rfl
  | never => rfl
  | empty d => show V.bl (decide (g' (m d) = .non)) = _; rw [h d List.mem_cons_self]; rfl
  | among d vs =>
    show (if ((At.among d vs).flds.map m).any (fun c => decide (g' c = .non)) = true then V.non else .bl (inV (g' (m d)) vs)) = _
    rw [ha, h d List.mem_cons_self]; rfl
  | begins d z =>
    show (if ((At.begins d z).flds.map m).any (fun c => decide (g' c = .non)) = true then V.non else .bl (startsV (g' (m d)) z)) = _
    rw [ha, h d List.mem_cons_self]; rfl
  | compare d op v =>
    show (if ((At.compare d op v).flds.map m).any (fun c => decide (g' c = .non)) = true then V.non else .bl (cmpB op (g' (m d)) v)) = _
    rw [ha, h d List.mem_cons_self]; rfl
  | against d op e n =>
    show (if ((At.against d op e n).flds.map m).any (fun c => decide (g' c = .non)) = true then V.non else .bl (cmpB op (g' (m d)) (movV (g' (m e)) n))) = _
    rw [ha, h d List.mem_cons_self, h e (List.mem_cons_of_mem _ List.mem_cons_self)]; rfl
theorem evalF_move {g g' : Str → V} {m : Str → Str} : ∀ {f : Fm}, (∀ c ∈ f.cols, g' (m c) = g c) → evalF g' (f.move m) = evalF g f
  | .at a, h => evalA_move h
  | .un w f, h => by
    show combV w [evalF g' (f.move m)] = combV w [evalF g f]
    rw [evalF_move (f := f) h]
  | .bi w f k, h => by
    show combV w [evalF g' (f.move m), evalF g' (k.move m)] = combV w [evalF g f, evalF g k]
    rw [evalF_move (f := f) fun c hc => h c (List.mem_append.mpr (.inl hc)), evalF_move (f := k) fun c hc => h c (List.mem_append.mpr (.inr hc))]
/-- an atom that cannot be renamed -/
theorem ren_bad {kvs : List (Key × V)} {w : Str} {fs : List Str} {ts : List V} (h : okF kvs fs = false) : ∀ {t : Ts}, .at w fs ts ∈ t.atoms → ren kvs t = none
  | .at w' fs' ts', m => by
    have e : Ts.at w fs ts = .at w' fs' ts' := List.mem_singleton.mp m
    injection e with _ e _
    subst e
    unfold ren
    rw [if_neg (by rw [h]; exact Bool.false_ne_true)]
  | .un w' a, m => by
    unfold ren
    rw [ren_bad h (t := a) m]
    rfl
  | .bi w' a b, m => by
    unfold ren
    rcases List.mem_append.mp m with m | m
    · rw [ren_bad h (t := a) m]
    · rw [ren_bad h (t := b) m]
      cases ren kvs a <;> rfl
theorem ren_badc {kvs : List (Key × V)} {c : Str} (h : nameB (mv kvs c) = false) {t : Ts} (m : c ∈ t.cols) : ren kvs t = none := by
  obtain ⟨a, ha, hc⟩ := List.mem_flatMap.mp m
  have leaf : ∀ {t : Ts}, ∀ a ∈ t.atoms, ∃ w fs ts, a = .at w fs ts := by
    intro t
    induction t with
    | «at» w fs ts => intro a ha; exact ⟨w, fs, ts, List.mem_singleton.mp ha⟩
    | un w a ih => exact ih
    | bi w a b iha ihb => exact fun x hx => (List.mem_append.mp hx).elim (iha x) (ihb x)
  obtain ⟨w, fs, ts, rfl⟩ := leaf a ha
  refine ren_bad ?_ ha
  unfold okF
  rw [show fs.all (fun c => nameB (mv kvs c)) = false from List.all_eq_false.mpr ⟨c, hc, by rw [h]; decide⟩]
  rfl
/-! the written mappings -/
theorem mv_put {kvs : List (Key × V)} {k c : Str} {v : V} : mv (putK kvs (Sum.inr k) v) c = if c = k then v else mv kvs c := by
  unfold mv
  rw [valV_put]
  by_cases h : c = k
  · subst h
    rw [if_pos rfl, if_pos rfl]
    rfl
  · rw [if_neg h, if_neg (fun e => h (by injection e))]
theorem val_put {kvs : List (Key × V)} {k c : Str} {v : V} : valV (putK kvs (Sum.inr k) v) (Sum.inr c) = if c = k then some v else valV kvs (Sum.inr c) := by
  rw [valV_put]
  by_cases h : c = k
  · subst h
    rw [if_pos rfl, if_pos rfl]
  · rw [if_neg h, if_neg (fun e => h (by injection e))]
structure MI (ns : List Str) (j : Nat) (kvm kvb kvr row : List (Key × V)) (ts : List Str) : Prop where
  a : ∀ i c, ns[i]? = some c → i < j → ∃ n, mv kvm c = .str n ∧ nameP n ∧ valV kvr (Sum.inr n) = valV row (Sum.inr c) ∧ mv kvb n = .str c ∧ n ∈ ts ∧ (n = c ∨ n ∉ ns)
  b : ∀ i c, ns[i]? = some c → j ≤ i → valV kvm (Sum.inr c) = none
  c : ∀ x, (valV kvb (Sum.inr x)).isSome = true → x ∉ ns
  d : ∀ c ∈ ns, c ∈ ts
  nd : (kvm.map (·.1)).Nodup
  fl : ∀ p ∈ kvm, flatB p.2 = true
  lm : kvm.length ≤ j
  lb : kvb.length ≤ j
  lr : kvr.length ≤ j
  lt : ts.length ≤ ns.length + j
theorem MI.init {ns : List Str} {row : List (Key × V)} : MI ns 0 [] [] [] row ns :=
  ⟨fun i c _ h => absurd h (Nat.not_lt_zero _), fun _ _ _ _ => rfl, fun x h => (nomatch h), fun c h => h, List.nodup_nil, fun p h => (nomatch h), Nat.zero_le _, Nat.zero_le _, Nat.zero_le _, Nat.le_refl _⟩
theorem nd_at {ns : List Str} (h : ns.Nodup) {i j : Nat} {c d : Str} (hi : ns[i]? = some c) (hj : ns[j]? = some d) (ne : i ≠ j) : c ≠ d := fun e => by
  subst e
  obtain ⟨h1, e1⟩ := List.getElem?_eq_some_iff.mp hi
  obtain ⟨h2, e2⟩ := List.getElem?_eq_some_iff.mp hj
  exact ne ((List.getElem_inj h).mp (e1.trans e2.symm))
section
variable {ns : List Str} {j : Nat} {kvm kvb kvr row : List (Key × V)} {ts : List Str} {c : Str} {v : V}
theorem MI.keep (M : MI ns j kvm kvb kvr row ts) (hn : ns.Nodup) (hc : ns[j]? = some c) (nm : nameP c) (hv : valV row (Sum.inr c) = some v) : MI ns (j + 1) kvm kvb (putK kvr (Sum.inr c) v) row ts := by
  have hcm := List.mem_of_getElem? hc
  refine ⟨fun i d hd hi => ?_, fun i d hd hi => M.b i d hd (by omega), M.c, M.d, M.nd, M.fl, Nat.le_succ_of_le M.lm, Nat.le_succ_of_le M.lb, Nat.le_trans len_put (Nat.succ_le_succ M.lr), Nat.le_succ_of_le M.lt⟩
  by_cases e : i = j
  · subst e
    rw [hc] at hd
    cases hd
    refine ⟨c, ?_, nm, by rw [val_put, if_pos rfl, hv], ?_, M.d _ hcm, .inl rfl⟩
    · unfold mv; rw [M.b _ _ hc (Nat.le_refl _)]; rfl
    · unfold mv
      cases eb : valV kvb (Sum.inr c) with
      | none => rfl
      | some u => exact absurd hcm (M.c c (by rw [eb]; rfl))
  · obtain ⟨n, h1, h2, h3, h4, h5, h6⟩ := M.a i d hd (by omega)
    refine ⟨n, h1, h2, ?_, h4, h5, h6⟩
    rw [val_put, if_neg, h3]
    rintro rfl
    rcases h6 with h6 | h6
    · exact nd_at hn hd hc e h6.symm
    · exact h6 hcm
theorem MI.fresh (M : MI ns j kvm kvb kvr row ts) (hn : ns.Nodup) (hc : ns[j]? = some c) {z : Str} (nm : nameP z) (hz : z ∉ ts) (hv : valV row (Sum.inr c) = some v) : MI ns (j + 1) (putK kvm (Sum.inr c) (.str z)) (putK kvb (Sum.inr z) (.str c)) (putK kvr (Sum.inr z) v) row (ts ++ [z]) := by
  have hcm := List.mem_of_getElem? hc
  have hzn : z ∉ ns := fun h => hz (M.d z h)
  refine ⟨fun i d hd hi => ?_, fun i d hd hi => ?_, fun x hx => ?_, fun d hd => List.mem_append.mpr (.inl (M.d d hd)), nd_put M.nd, fun p hp => ?_, Nat.le_trans len_put (Nat.succ_le_succ M.lm), Nat.le_trans len_put (Nat.succ_le_succ M.lb), Nat.le_trans len_put (Nat.succ_le_succ M.lr), by rw [List.length_append]; show ts.length + 1 ≤ _; have := M.lt; omega⟩
  · by_cases e : i = j
    · subst e
      rw [hc] at hd
      cases hd
      exact ⟨z, by rw [mv_put, if_pos rfl], nm, by rw [val_put, if_pos rfl, hv], by rw [mv_put, if_pos rfl], List.mem_append.mpr (.inr (List.mem_singleton.mpr rfl)), .inr hzn⟩
    · obtain ⟨n, h1, h2, h3, h4, h5, h6⟩ := M.a i d hd (by omega)
      have hnz : n ≠ z := fun e => hz (e ▸ h5)
      exact ⟨n, by rw [mv_put, if_neg (nd_at hn hd hc e), h1], h2, by rw [val_put, if_neg hnz, h3], by rw [mv_put, if_neg hnz, h4], List.mem_append.mpr (.inl h5), h6⟩
  · rw [val_put, if_neg (nd_at hn hd hc (by omega))]
    exact M.b i d hd (by omega)
  · rw [val_put] at hx
    split at hx
    · rename_i e; rw [e]; exact hzn
    · exact M.c x hx
  · rcases mem_put hp with hp | hp
    · exact M.fl p hp
    · rw [hp]; rfl
theorem MI.at (M : MI ns ns.length kvm kvb kvr row ts) (h : c ∈ ns) : mv kvm c = .str (mvS kvm c) ∧ nameP (mvS kvm c) ∧ valV kvr (Sum.inr (mvS kvm c)) = valV row (Sum.inr c) ∧ mv kvb (mvS kvm c) = .str c := by
  obtain ⟨i, hi, e⟩ := List.mem_iff_getElem.mp h
  obtain ⟨n, h1, h2, h3, h4, _⟩ := M.a i c (by rw [List.getElem?_eq_getElem hi, e]) hi
  have : mvS kvm c = n := by unfold mvS; rw [h1]; rfl
  rw [this]
  exact ⟨h1, h2, h3, h4⟩
theorem MI.mapOk (M : MI ns ns.length kvm kvb kvr row ts) : MapOk ns kvm := by
  refine ⟨fun c h => ?_, fun c hc d hd e => ?_⟩
  · obtain ⟨h1, h2, _⟩ := M.at h
    rw [h1]
    exact nameB_str.mpr h2
  · obtain ⟨_, _, _, h1⟩ := M.at hc
    obtain ⟨_, _, _, h2⟩ := M.at hd
    rw [e, h2] at h1
    injection h1 with h1
    exact h1.symm
theorem MI.back (M : MI ns ns.length kvm kvb kvr row ts) (h : c ∈ ns) : mvS kvb (mvS kvm c) = c := by
  obtain ⟨_, _, _, h4⟩ := M.at h
  unfold mvS at h4 ⊢
  rw [h4]
  rfl
theorem MI.backOk (M : MI ns ns.length kvm kvb kvr row ts) (nm : ∀ c ∈ ns, nameP c) : MapOk (ns.map (mvS kvm)) kvb := by
  refine ⟨fun n h => ?_, fun n h m h' e => ?_⟩
  · obtain ⟨c, hc, rfl⟩ := List.mem_map.mp h
    obtain ⟨_, _, _, h4⟩ := M.at hc
    rw [h4]
    exact nameB_str.mpr (nm c hc)
  · obtain ⟨c, hc, rfl⟩ := List.mem_map.mp h
    obtain ⟨d, hd, rfl⟩ := List.mem_map.mp h'
    rw [M.back hc, M.back hd] at e
    rw [e]
end
/-! each to the one before -/
def prevN (ns : List Str) (i : Nat) : Str := ns.getD ((i + ns.length - 1) % ns.length) ""
theorem prev_ix {n i : Nat} (h : i < n) : (i + n - 1) % n = if i = 0 then n - 1 else i - 1 := by
  split
  · rename_i e
    subst e
    rw [Nat.zero_add, Nat.mod_eq_of_lt (by omega)]
  · rename_i e
    rw [show i + n - 1 = (i - 1) + n by omega, Nat.add_mod_right, Nat.mod_eq_of_lt (by omega)]
theorem atI_prev {xs : List V} {i : Nat} (h : i < xs.length) : atI xs ((0 + (i : Int)) - 1) = xs[(i + xs.length - 1) % xs.length]? := by
  rw [prev_ix h]
  cases i with
  | zero =>
    rw [if_pos rfl]
    obtain ⟨ys, v, rfl⟩ : ∃ ys v, xs = ys ++ [v] := ⟨xs.dropLast, xs.getLast (fun e => by rw [e] at h; exact absurd h (Nat.lt_irrefl _)), (List.dropLast_concat_getLast _).symm⟩
    rw [show ((0 : Int) + ((0 : Nat) : Int) - 1) = -1 by omega, atI_last, List.length_append]
    show _ = (ys ++ [v])[ys.length + 1 - 1]?
    rw [Nat.add_sub_cancel, List.getElem?_append_right (Nat.le_refl _), Nat.sub_self]
    rfl
  | succ k =>
    rw [if_neg (Nat.succ_ne_zero k), Nat.succ_sub_one, show ((0 : Int) + ((k + 1 : Nat) : Int) - 1) = (k : Int) by omega]
    rw [List.getElem?_eq_getElem (by omega)]
    exact atI_nat (List.getElem?_eq_getElem (by omega))
theorem prevN_at {ns : List Str} {i : Nat} (h : i < ns.length) : ns[(i + ns.length - 1) % ns.length]? = some (prevN ns i) := by
  have hm : (i + ns.length - 1) % ns.length < ns.length := Nat.mod_lt _ (by omega)
  unfold prevN
  rw [List.getD_eq_getElem?_getD, List.getElem?_eq_getElem hm]
  rfl
theorem prevN_mem {ns : List Str} {i : Nat} (h : i < ns.length) : prevN ns i ∈ ns := List.mem_of_getElem? (prevN_at h)
theorem prevN_ne {ns : List Str} (hn : ns.Nodup) {i j : Nat} (hi : i < ns.length) (hj : j < ns.length) (ne : i ≠ j) : prevN ns i ≠ prevN ns j := by
  refine nd_at hn (prevN_at hi) (prevN_at hj) ?_
  rw [prev_ix hi, prev_ix hj]
  split <;> split <;> omega
structure SW (ns : List Str) (j : Nat) (kvs : List (Key × V)) : Prop where
  a : ∀ i c, ns[i]? = some c → i < j → valV kvs (Sum.inr c) = some (.str (prevN ns i))
  l : kvs.length ≤ j
theorem SW.init {ns : List Str} : SW ns 0 [] := ⟨fun i c _ h => absurd h (Nat.not_lt_zero _), Nat.zero_le _⟩
theorem SW.put {ns : List Str} {j : Nat} {kvs : List (Key × V)} {c : Str} (S : SW ns j kvs) (hn : ns.Nodup) (hc : ns[j]? = some c) : SW ns (j + 1) (putK kvs (Sum.inr c) (.str (prevN ns j))) := by
  refine ⟨fun i d hd hi => ?_, Nat.le_trans len_put (Nat.succ_le_succ S.l)⟩
  by_cases e : i = j
  · subst e
    rw [hc] at hd
    cases hd
    rw [val_put, if_pos rfl]
  · rw [val_put, if_neg (nd_at hn hd hc e)]
    exact S.a i d hd (by omega)
theorem SW.mv {ns : List Str} {kvs : List (Key × V)} {i : Nat} {c : Str} (S : SW ns ns.length kvs) (hc : ns[i]? = some c) : mv kvs c = .str (prevN ns i) := by
  unfold L.mv
  rw [S.a i c hc (List.getElem?_eq_some_iff.mp hc).1]
  rfl
theorem SW.mvS {ns : List Str} {kvs : List (Key × V)} {i : Nat} {c : Str} (S : SW ns ns.length kvs) (hc : ns[i]? = some c) : mvS kvs c = prevN ns i := by
  unfold L.mvS
  rw [S.mv hc]
  rfl
theorem SW.mapOk {ns : List Str} {kvs : List (Key × V)} (S : SW ns ns.length kvs) (hn : ns.Nodup) (nm : ∀ c ∈ ns, nameP c) : MapOk ns kvs := by
  refine ⟨fun c h => ?_, fun c hc d hd e => ?_⟩
  · obtain ⟨i, hi, e⟩ := List.mem_iff_getElem.mp h
    rw [S.mv (by rw [List.getElem?_eq_getElem hi, e])]
    exact nameB_str.mpr (nm _ (prevN_mem hi))
  · obtain ⟨i, hi, ei⟩ := List.mem_iff_getElem.mp hc
    obtain ⟨j, hj, ej⟩ := List.mem_iff_getElem.mp hd
    have h1 : ns[i]? = some c := by rw [List.getElem?_eq_getElem hi, ei]
    have h2 : ns[j]? = some d := by rw [List.getElem?_eq_getElem hj, ej]
    rw [S.mvS h1, S.mvS h2] at e
    by_cases hij : i = j
    · subst hij
      exact ei.symm.trans ej
    · exact absurd e (prevN_ne hn hi hj hij)
structure TW (ns : List Str) (j : Nat) (kvt row : List (Key × V)) : Prop where
  a : ∀ i c, ns[i]? = some c → i < j → valV kvt (Sum.inr (prevN ns i)) = valV row (Sum.inr c)
  l : kvt.length ≤ j
theorem TW.init {ns : List Str} {row : List (Key × V)} : TW ns 0 [] row := ⟨fun i c _ h => absurd h (Nat.not_lt_zero _), Nat.zero_le _⟩
theorem TW.put {ns : List Str} {j : Nat} {kvt row : List (Key × V)} {c : Str} {v : V} (S : TW ns j kvt row) (hn : ns.Nodup) (hc : ns[j]? = some c) (hv : valV row (Sum.inr c) = some v) : TW ns (j + 1) (putK kvt (Sum.inr (prevN ns j)) v) row := by
  refine ⟨fun i d hd hi => ?_, Nat.le_trans len_put (Nat.succ_le_succ S.l)⟩
  by_cases e : i = j
  · subst e
    rw [hc] at hd
    cases hd
    rw [val_put, if_pos rfl, hv]
  · rw [val_put, if_neg (prevN_ne hn (List.getElem?_eq_some_iff.mp hd).1 (List.getElem?_eq_some_iff.mp hc).1 e)]
    exact S.a i d hd (by omega)
theorem g_of {kv kv' : List (Key × V)} {c d : Str} (h : valV kv' (Sum.inr d) = valV kv (Sum.inr c)) : gOf kv' d = gOf kv c := by
  unfold gOf
  rw [h]
/-- the moved row is a row of the moved columns -/
theorem rowV_ren {cs : List (Str × Bool)} {kvs kv kv' : List (Key × V)} (h : RowV cs (gOf kv)) (e : ∀ c ∈ cs.map (·.1), gOf kv' (mvS kvs c) = gOf kv c) : RowV (renCs kvs cs) (gOf kv') := by
  intro c k m
  obtain ⟨⟨d, k'⟩, hd, hh⟩ := List.mem_map.mp m
  injection hh with h1 h2
  subst h1 h2
  show gOf kv' (mvS kvs d) = .non ∨ isV k' (gOf kv' (mvS kvs d))
  rw [e d (mem_fst hd)]
  exact h d k' hd
/-! what is refused -/
theorem bad_col {c : Str} {v : V} (h : nameB v = false) : nameB (mv [(Sum.inr c, v)] c) = false := by
  have : mv [(Sum.inr c, v)] c = v := by
    unfold mv
    rw [valV_pos rfl]
    rfl
  rw [this]
  exact h
theorem mv_one {c d : Str} {v : V} (h : d ≠ c) : mv [(Sum.inr c, v)] d = .str d := by
  unfold mv
  rw [valV_neg (fun e => h (by injection e with e; exact e.symm))]
  rfl
theorem mv_one_thing {H : Hp} {c d : Str} {v : V} (hv : thing H v) (hd : d.length ≤ 100) : thing H (mv [(Sum.inr c, v)] d) := by
  by_cases h : d = c
  · subst h
    have : mv [(Sum.inr d, v)] d = v := by unfold mv; rw [valV_pos rfl]; rfl
    rw [this]
    exact hv
  · rw [mv_one h]
    exact .inr (.inr (.inr (.inl ⟨d, rfl, hd⟩)))
theorem bad_pair {c d : Str} (h : d ≠ c) : okF [(Sum.inr c, .str d)] [c, d] = false := by
  have e1 : mv [(Sum.inr c, .str d)] c = .str d := by unfold mv; rw [valV_pos rfl]; rfl
  have e2 : mv [(Sum.inr c, .str d)] d = .str d := mv_one h
  unfold okF
  have : samePair ([c, d].map (mvS [(Sum.inr c, .str d)])) = true := by
    show decide (mvS [(Sum.inr c, .str d)] c = mvS [(Sum.inr c, .str d)] d) = true
    unfold mvS
    rw [e1, e2]
    exact decide_eq_true rfl
  rw [this]
  exact Bool.and_false _
theorem no_name {z : Str} (h : ¬ nameP z) : nameB (.str z) = false := nameB_no h
theorem bad_names : nameB .non = false ∧ nameB (.int 5) = false ∧ nameB (.str "") = false ∧ nameB (.str "A") = false ∧ nameB (.str "in") = false ∧ nameB (.str "abcdefghi") = false ∧ (∀ p, nameB (.ref p) = false) ∧ nameB (.bl true) = false :=
  ⟨rfl, rfl, no_name fun h => h.1 (by decide +kernel), no_name fun h => absurd (h.2.2.1 65 [] (by decide +kernel)) (by decide +kernel), no_name fun h => h.2.2.2.1 (by decide +kernel), no_name fun h => absurd h.2.1 (by decide +kernel), fun _ => rfl, rfl⟩
theorem against_atom : ∀ {f : Fm} {c op d : Str} {n : Int}, At.against c op d n ∈ f.ats → Ts.at "against" [c, d] [.str op, .int n] ∈ f.ts.atoms
  | .at a, c, op, d, n, h => by
    have : At.against c op d n = a := List.mem_singleton.mp h
    subst this
    exact List.mem_singleton.mpr rfl
  | .un w f, _, _, _, _, h => against_atom (f := f) h
  | .bi w f g, _, _, _, _, h => (List.mem_append.mp h).elim (fun h => List.mem_append.mpr (.inl (against_atom (f := f) h))) fun h => List.mem_append.mpr (.inr (against_atom (f := g) h))
theorem ats_wf {cs : List (Str × Bool)} : ∀ {f : Fm}, f.Wf cs → ∀ a ∈ f.ats, a.Wf cs
  | .at a, h, b, m => by
    have : b = a := List.mem_singleton.mp m
    rw [this]
    exact h
  | .un w f, h, b, m => ats_wf (f := f) h.2 b m
  | .bi w f g, h, b, m => (List.mem_append.mp m).elim (ats_wf (f := f) h.2.1 b) (ats_wf (f := g) h.2.2 b)
def spLaw (K : PySem.W.Frag) : Sp := fun vs H Q _ => ∃ (a : Addr) (ns : List Int), vs = [.ref a] ∧ SqL K H a (ns.map V.int) ∧ ns.length ≤ 63 ∧ ∀ H', Q (.bl true) H'
/-! what stands while the law runs -/
theorem tv_scal {x : V} (h : isTv x) : L2.scal x x = true := by
  rcases h with rfl | ⟨b, rfl⟩ <;> rfl
theorem cols_len : ∀ f : Fm, f.cols.length ≤ 2 * f.ts.size
  | .at a => At.flds_len a
  | .un _ f => cols_len f
  | .bi _ f g => by
    have h1 := cols_len f
    have h2 := cols_len g
    show (f.cols ++ g.cols).length ≤ 2 * (f.ts.size + g.ts.size)
    rw [List.length_append]
    omega
structure BS (C d sc : Addr) (ms : List Int) (H : Hp) (L : Addr) (cs : List (Str × Bool)) (f : Fm) (q tp : Addr) : Prop where
  D : Dr H d sc ms
  co : ColsAt H L cs
  fo : FormAt H f q
  te : TestAt C H f.ts tp
section
variable {C d sc : Addr} {ms : List Int} {H H' : Hp} {L : Addr} {cs : List (Str × Bool)} {f : Fm} {q tp r : Addr} {kvs : List (Key × V)} {o : HO}
theorem BS.keep (b : BS C d sc ms H L cs f q tp) (k : Ext H H') : BS C d sc ms H' L cs f q tp := ⟨b.D.keepAll k, b.co.keep k, FormAt.keep k b.fo, b.te.keep k⟩
theorem TestAt.draw {t : Ts} (h : TestAt C H t tp) (D : Dr H d sc ms) (k : Keep d H H') : TestAt C H' t tp := h.keepN (p := d) k fun o e => by
  obtain ⟨xs, hx⟩ := D.at
  rw [hx] at e
  cases e
  exact ⟨(fun _ _ z => nomatch z), (fun _ z => nomatch z)⟩
theorem BS.draw (b : BS C d sc ms H L cs f q tp) (D : Dr H' d sc ms) (k : Keep d H H') (h1 : L ≠ d) : BS C d sc ms H' L cs f q tp := ⟨D, b.co.draw b.D k h1, FormAt.draw b.fo b.D k, b.te.draw b.D k⟩
/-- a list or a dict written -/
theorem ColsAt.written (h : ColsAt H L cs) (hr : H r = some o) (n : ∀ l, o ≠ .tup l) (hL : L ≠ r) {o' : HO} : ColsAt (upd H r o') L cs := by
  obtain ⟨ps, h1, h2, h3⟩ := h
  refine ⟨ps, by rw [upd_ne hL]; exact h1, h2, fun i q c hq hc => ?_⟩
  obtain ⟨fl, e⟩ := h3 i q c hq hc
  exact ⟨fl, by rw [upd_ne (fun z => by rw [z, hr] at e; injection e with e; exact n _ e)]; exact e⟩
theorem BS.dict (b : BS C d sc ms H L cs f q tp) (hr : H r = some (.dK kvs)) {o' : HO} (h1 : r ≠ d) (h2 : r ≠ sc) : BS C d sc ms (upd H r o') L cs f q tp := by
  have k : ∀ b u, b ≠ r → H b = some u → (upd H r o') b = some u := fun b u hb h => by rw [upd_ne hb]; exact h
  refine ⟨b.D.other h1 h2, b.co.written hr (fun _ e => nomatch e) (fun z => ?_), FormAt.keepN k ⟨_, hr, NF.dict⟩ b.fo, b.te.keepN (p := r) k fun o e => ?_⟩
  · obtain ⟨ps, e, _⟩ := b.co
    rw [z, hr] at e
    cases e
  · rw [hr] at e
    cases e
    exact ⟨(fun _ _ z => nomatch z), (fun _ z => nomatch z)⟩
/-- the list of taken names written: it is no list of values of a form -/
theorem BS.names (b : BS C d sc ms H L cs f q tp) {xs : List V} (hr : H r = some (.lst xs)) {o' : HO} (h1 : r ≠ d) (h2 : r ≠ sc) (hL : L ≠ r) (hf : FormAt (upd H r o') f q) : BS C d sc ms (upd H r o') L cs f q tp := by
  have k : ∀ b u, b ≠ r → H b = some u → (upd H r o') b = some u := fun b u hb h => by rw [upd_ne hb]; exact h
  refine ⟨b.D.other h1 h2, b.co.written hr (fun _ e => nomatch e) hL, hf, b.te.keepN (p := r) k fun o e => ?_⟩
  rw [hr] at e
  cases e
  exact ⟨(fun _ _ z => nomatch z), (fun _ z => nomatch z)⟩
end
theorem g_pairs1 {tk tv : TE} {σ : L2.St} {H : Hp} {Q : List (V × V) → Hp → Prop} (h : tk σ H fun x H1 => tv σ H1 fun y H2 => Q [(x, y)] H2) : tPairs [(tk, tv)] σ H Q := h
theorem merge1 (k : Key) (v : V) : mergeK [] [(k, v)] = [(k, v)] := rfl
theorem not_against {a : At} (h : ∀ c op d n, a ≠ .against c op d n) : a.word ≠ "against" := by
  cases a with
  | against c op d n => exact absurd rfl (h c op d n)
  | _ => simp only [At.word]; decide +kernel
section
variable {P : Program} {w : World} {K : PySem.W.Frag} {mg : Str → Option Value} {base : Heap}
theorem ok_law (T : Txt K mg) {f : Addr} {fd : FuncData} (F : Fun K "law" "law" S_law f fd) : FnOk P w K mg base CX0 40 f fd ["_law_script"] (spLaw K) := by
  refine Fun.okM F sc_law (fun vs H Q E h => ?_) (fun cdv A outer s H vs Q E hr h => ?_)
  · obtain ⟨a, ns, rfl, _⟩ := h
    rfl
  · obtain ⟨a, ns, rfl, hS, hlen, k⟩ := h
    refine ⟨_, (pss_cons (ps_set (i := 1) sc_law.nd rfl (Or.inl rfl) (pe_def (ok__law_begin T) hr rfl (pa_cons (pv 0) pa_nil)))
  (pss_cons (ps_set (i := 2) sc_law.nd rfl (Or.inl rfl) (pe_def (ok__law_columns T) hr rfl (pa_cons (pv 1) (pa_cons pe_int pa_nil))))
  (pss_cons (ps_set (i := 3) sc_law.nd rfl (Or.inl rfl) (pe_def (ok__law_form T) hr rfl (pa_cons (pv 1) (pa_cons (pv 2) (pa_cons pe_int pa_nil)))))
  (pss_cons (ps_set (i := 4) sc_law.nd rfl (Or.inl rfl) (pe_def (ok__law_second T) hr rfl (pa_cons (pv 1) (pa_cons (pv 3) (pa_cons (pv 2) pa_nil)))))
  (pss_cons (ps_set (i := 5) sc_law.nd rfl (Or.inl rfl) (pe_def (ok__law_make T) hr rfl (pa_cons (pv 3) pa_nil)))
  (Evl.pss_cut (ps_if (PW.pt (pw_or (pt_not (pt_val (pe_def (ok__law_flag T) hr rfl (pa_cons (pe_cmpR (op_eqOwn (K := K) rfl (ok_Test_eq T) hr) (pv 5) (pe_def (ok__law_make T) hr rfl (pa_cons (pv 4) pa_nil)) (nomark _)) (pa_cons (pe_cmpR (op_eqDu (K := K) rfl (hu64_of hr)) (pv 3) (pv 4) (nomark _)) pa_nil))))) (pw_or1 (pt_not (pt_val (pe_def (ok__law_flag T) hr rfl (pa_cons (pe_cmpR (op_neOwn (K := K) rfl T.ne_Test (ok_Test_eq T) hr) (pv 5) (pe_def (ok__law_make T) hr rfl (pa_cons (pv 4) pa_nil)) (nomark _)) (pa_cons (pe_cmpR (op_neDu (K := K) rfl (hu64_of hr)) (pv 3) (pv 4) (nomark _)) pa_nil))))))))
  (pss_one (ps_ret pe_bl))
  pss_nil)
  (Evl.pss_cut (ps_if (pt_not (pt_val (pe_def (ok__law_flag T) hr rfl (pa_cons (pe_cmpR (op_eqOwn (K := K) rfl (ok_Test_eq T) hr) (pv 5) (pe_def (ok__law_thing T) hr rfl (pa_cons (pv 1) pa_nil)) (nomark _)) (pa_cons pe_bl pa_nil)))))
  (pss_one (ps_ret pe_bl))
  pss_nil)
  (pss_cons (ps_setLc (i := 6) (own := [("_law_column", 11)]) rfl sc_law.nd rfl rfl (sw_true rfl rfl rfl (by decide +kernel)) (pi_list (pv 2)) (blkOk_by (N := N_law) (sc := defScope S_law) (by decide +kernel)) (fun _ _ _ _ _ => pg_name (i := 11) sc_law.nd rfl (Or.inl rfl)) (fun _ _ _ _ _ => pts_nil) (fun _ _ _ _ _ => (pe_ix (ix_seqG (K := K) rfl) (pv 11) pe_int (fun _ _ => rfl))))
  (pss_cons (ps_set (i := 7) sc_law.nd rfl (Or.inl rfl) pe_dnewK)
  (pss_cons (ps_set (i := 8) sc_law.nd rfl (Or.inl rfl) pe_dnewK)
  (pss_cons (ps_set (i := 9) sc_law.nd rfl (Or.inl rfl) (pe_def (ok__law_row T) hr rfl (pa_cons (pv 1) (pa_cons (pv 2) pa_nil))))
  (pss_cons (ps_set (i := 10) sc_law.nd rfl (Or.inl rfl) pe_dnewK)
  (pss_cons (ps_for PassesOwn.never rfl (pi_list (pv 2)) (pg_name (i := 11) sc_law.nd rfl (Or.inl rfl))
  (pss_cons (ps_set (i := 12) sc_law.nd rfl (Or.inl rfl) (pe_ix (ix_seqG (K := K) rfl) (pv 11) pe_int (fun _ _ => rfl)))
  (Evl.pss_cut (ps_if (pt_cmpR op_gtG (pe_def (ok__law_take T) hr rfl (pa_cons (pv 1) (pa_cons pe_int pa_nil))) pe_int (nomark _))
  (pss_cons (ps_set (i := 12) sc_law.nd rfl (Or.inl rfl) (pe_def (ok__law_name T) hr rfl (pa_cons (pv 1) (pa_cons (pv 6) pa_nil))))
  (pss_cons (ps_expr (pe_bm PySem.F.plainAttrs_list PySem.F.slot_list_append PySem.F.type_list_append mt_append (pv 6) (pa_cons (pv 12) pa_nil)))
  (pss_cons (ps_dput (hu_of hr) (pv 7) (pe_ix (ix_seqG (K := K) rfl) (pv 11) pe_int (fun _ _ => rfl)) (pv 12) rfl)
  (pss_one (ps_dput (hu_of hr) (pv 8) (pv 12) (pe_ix (ix_seqG (K := K) rfl) (pv 11) pe_int (fun _ _ => rfl)) rfl)))))
  pss_nil)
  (pss_one (ps_dput (hu_of hr) (pv 10) (pv 12) (pe_dget (hu_of hr) (pv 9) (pe_ix (ix_seqG (K := K) rfl) (pv 11) pe_int (fun _ _ => rfl)) (fun _ _ => rfl)) rfl)))))
  (pss_cons (ps_set (i := 13) sc_law.nd rfl (Or.inl rfl) (pe_callTy call_dictD (by rfl) T.h_dict (by decide +kernel) (pa_cons (pv 7) pa_nil)))
  (pss_cons (ps_set (i := 14) sc_law.nd rfl (Or.inl rfl) (pe_meX takes0 (pv 5) T.cl_Test (ok_Test_renamed T) hr (pa_cons (pv 7) pa_nil)))
  (pss_cons (ps_if (PW.pt (pw_or (pt_cmpR (op_ne_dictA (hu0_of hr)) (pv 7) (pv 13) (nomark _)) (pw_or1 (pt_not (pt_cmpR (op_eqOwn (K := K) rfl (ok_Test_eq T) hr) (pv 14) (pe_def (ok__law_make T) hr rfl (pa_cons (pe_def (ok__law_moved T) hr rfl (pa_cons (pv 3) (pa_cons (pv 7) pa_nil))) pa_nil)) (nomark _))))))
  (pss_one (ps_ret pe_bl))
  pss_nil)
  (pss_cons (ps_set (i := 15) sc_law.nd rfl (Or.inl rfl) (pe_meX takes0 (pv 14) T.cl_Test (ok_Test_truth T) hr (pa_cons (pv 10) pa_nil)))
  (pss_cons (ps_if (PW.pt (pw_or (pt_not (pt_val (pe_def (ok__law_is_truth T) hr rfl (pa_cons (pv 15) pa_nil)))) (pw_or1 (pt_cmpR op_ne (pv 15) (pe_def (ok__law_truth T) hr rfl (pa_cons (pv 3) (pa_cons (pv 9) pa_nil))) (nomark _)))))
  (pss_one (ps_ret pe_bl))
  pss_nil)
  (pss_cons (ps_if (PW.pt (pw_or (pt_not (pt_cmpR (op_eqOwn (K := K) rfl (ok_Test_eq T) hr) (pe_meX takes0 (pv 14) T.cl_Test (ok_Test_renamed T) hr (pa_cons (pv 8) pa_nil)) (pv 5) (nomark _))) (pw_or1 (pt_not (pt_cmpR (op_eqOwn (K := K) rfl (ok_Test_eq T) hr) (pv 5) (pe_def (ok__law_make T) hr rfl (pa_cons (pv 3) pa_nil)) (nomark _))))))
  (pss_one (ps_ret pe_bl))
  pss_nil)
  (pss_cons (ps_set (i := 16) sc_law.nd rfl (Or.inl rfl) (pe_def (ok__law_names T) hr rfl (pa_cons (pv 3) pa_nil)))
  (Evl.pss_cut (ps_if (pt_cmpR op_gtG (pe_callB (call_lenG (K := K) rfl) (by rfl) T.h_len (by decide +kernel) (pa_cons (pv 2) pa_nil)) pe_int (nomark _))
  (pss_cons (ps_set (i := 17) sc_law.nd rfl (Or.inl rfl) pe_dnewK)
  (pss_cons (ps_for PassesOwn.never rfl (pi_range1 rfl T.h_range (pa_cons (pe_callB (call_lenG (K := K) rfl) (by rfl) T.h_len (by decide +kernel) (pa_cons (pv 2) pa_nil)) pa_nil)) (pg_name (i := 18) sc_law.nd rfl (Or.inl rfl))
  (pss_one (ps_dput (hu_of hr) (pv 17) (pe_ix (ix_seqG (K := K) rfl) (pe_ix (ix_seqG (K := K) rfl) (pv 2) (pv 18) (fun _ _ => rfl)) pe_int (fun _ _ => rfl)) (pe_ix (ix_seqG (K := K) rfl) (pe_ix (ix_seqG (K := K) rfl) (pv 2) (pe_op op_subG (pv 18) pe_int) (fun _ _ => rfl)) pe_int (fun _ _ => rfl)) rfl)))
  (pss_cons (ps_set (i := 19) sc_law.nd rfl (Or.inl rfl) (pe_meX takes0 (pv 5) T.cl_Test (ok_Test_renamed T) hr (pa_cons (pv 17) pa_nil)))
  (pss_cons (ps_if (pt_not (pt_cmpR (op_eqOwn (K := K) rfl (ok_Test_eq T) hr) (pv 19) (pe_def (ok__law_make T) hr rfl (pa_cons (pe_def (ok__law_moved T) hr rfl (pa_cons (pv 3) (pa_cons (pv 17) pa_nil))) pa_nil)) (nomark _)))
  (pss_one (ps_ret pe_bl))
  pss_nil)
  (pss_cons (ps_set (i := 20) sc_law.nd rfl (Or.inl rfl) pe_dnewK)
  (pss_cons (ps_for PassesOwn.never rfl (pi_list (pv 2)) (pg_name (i := 11) sc_law.nd rfl (Or.inl rfl))
  (pss_one (ps_dput (hu_of hr) (pv 20) (pe_dget (hu_of hr) (pv 17) (pe_ix (ix_seqG (K := K) rfl) (pv 11) pe_int (fun _ _ => rfl)) (fun _ _ => rfl)) (pe_dget (hu_of hr) (pv 9) (pe_ix (ix_seqG (K := K) rfl) (pv 11) pe_int (fun _ _ => rfl)) (fun _ _ => rfl)) rfl)))
  (pss_cons (ps_set (i := 15) sc_law.nd rfl (Or.inl rfl) (pe_meX takes0 (pv 19) T.cl_Test (ok_Test_truth T) hr (pa_cons (pv 20) pa_nil)))
  (pss_one (ps_if (PW.pt (pw_or (pt_not (pt_val (pe_def (ok__law_is_truth T) hr rfl (pa_cons (pv 15) pa_nil)))) (pw_or1 (pt_cmpR op_ne (pv 15) (pe_def (ok__law_truth T) hr rfl (pa_cons (pv 3) (pa_cons (pv 9) pa_nil))) (nomark _)))))
  (pss_one (ps_ret pe_bl))
  pss_nil)))))))))
  pss_nil)
  (Evl.pss_cut (ps_if (pt_cmpR op_gtG (pe_callB (call_lenG (K := K) rfl) (by rfl) T.h_len (by decide +kernel) (pa_cons (pv 16) pa_nil)) pe_int (nomark _))
  (pss_cons (ps_set (i := 21) sc_law.nd rfl (Or.inl rfl) (pe_ix (ix_seqG (K := K) rfl) (pe_lst (pa_cons pe_non (pa_cons pe_int (pa_cons pe_str (pa_cons pe_str (pa_cons pe_str (pa_cons pe_str (pa_cons (pe_lst pa_nil) (pa_cons pe_bl pa_nil))))))))) (pe_def (ok__law_take T) hr rfl (pa_cons (pv 1) (pa_cons pe_int pa_nil))) (fun _ _ => rfl)))
  (pss_one (ps_if (pt_not (pt_val (pe_def (ok__law_refuses T) hr rfl (pa_cons (pv 5) (pa_cons (pe_disp (pps_cons (pe_ix (ix_seqG (K := K) rfl) (pv 16) (pe_def (ok__law_take T) hr rfl (pa_cons (pv 1) (pa_cons (pe_callB (call_lenG (K := K) rfl) (by rfl) T.h_len (by decide +kernel) (pa_cons (pv 16) pa_nil)) pa_nil))) (fun _ _ => rfl)) (pv 21) pps_nil) (by rfl) (by rfl) (fun z => by cases z) (by decide)) pa_nil)))))
  (pss_one (ps_ret pe_bl))
  pss_nil)))
  pss_nil)
  (pss_cons (ps_for PassesOwn.never rfl (pi_list (pe_def (ok__law_atoms T) hr rfl (pa_cons (pv 3) pa_nil))) (pg_name (i := 22) sc_law.nd rfl (Or.inl rfl))
  (pss_one (ps_if (PW.pt (pw_and (pt_cmpR op_eq (pe_ix (ix_seqG (K := K) rfl) (pv 22) pe_int (fun _ _ => rfl)) pe_str (nomark _)) (pw_and1 (pt_not (pt_val (pe_def (ok__law_refuses T) hr rfl (pa_cons (pv 5) (pa_cons (pe_disp (pps_cons (pe_ix (ix_seqG (K := K) rfl) (pv 22) pe_int (fun _ _ => rfl)) (pe_ix (ix_seqG (K := K) rfl) (pv 22) pe_int (fun _ _ => rfl)) pps_nil) (by rfl) (by rfl) (fun z => by cases z) (by decide)) pa_nil))))))))
  (pss_one (ps_ret pe_bl))
  pss_nil)))
  (pss_one (ps_ret (pe_def (ok__law_refuses T) hr rfl (pa_cons (pv 5) (pa_cons (pe_ix (ix_seqG (K := K) rfl) (pe_lst (pa_cons pe_non (pa_cons pe_int (pa_cons (pe_lst pa_nil) (pa_cons pe_str (pa_cons (pe_tup pa_nil) pa_nil)))))) (pe_def (ok__law_take T) hr rfl (pa_cons (pv 1) (pa_cons pe_int pa_nil))) (fun _ _ => rfl)) pa_nil)))))))))))))))))))))))))))), ?_⟩
    walk_at "g"
    refine ⟨_, _, rfl, hS, fun d sc ms H1 hd S1 D1 => ?_⟩
    walk_at "g"
    refine ⟨_, _, _, _, rfl, D1, by decide, by decide, fun L cs H2 hG hC hLd hLs hL1 D2 K2 => ?_⟩
    walk_at "g"
    refine ⟨_, _, _, _, _, _, rfl, D2, hG, hC, hLd, by decide, by decide, fun q fm H3 hF hgood hsz B3 => ?_⟩
    have hC3 := hC.draw D2 B3.K hLd
    obtain ⟨hwf, hdep⟩ := hgood
    have hd11 : fm.ts.depth ≤ 11 := by omega
    walk_at "g"
    refine ⟨d, sc, ms, q, L, fm, cs, rfl, B3.D, hG, hC3, hLd, hF, hwf, hd11, hsz, fun q2 f2 H4 F2 W2 z2 d2 B4 => ?_⟩
    have hC4 := hC3.draw B3.D B4.K hLd
    have hF4 := FormAt.draw hF B3.D B4.K
    have D4 := B4.D
    clear hC hC3 hF B3 D2 D1 K2 B4
    walk_at "g"
    refine ⟨q, fm, cs, rfl, hF4, hwf.wide, by omega, by omega, by omega, fun tp H5 x5 A5 => ?_⟩
    have Z5 : BS (cadr mg "Test") d sc ms H5 L cs fm q tp := ⟨D4.keepAll x5, hC4.keep x5, hF4.keep x5, A5⟩
    have F25 := F2.keep x5
    clear hC4 hF4 A5 F2 D4 x5
    have okT : fm.ts.Ok := (hwf.wide).kv.ok
    have okU : f2.ts.Ok := W2.kv.ok
    have hd12 : fm.ts.depth ≤ 12 := by omega
    walk_at "g"
    refine g_cutA (M := fun σ' H' => σ' = [some (.ref a), some (.ref d), some (.ref L), some (.ref q), some (.ref q2), some (.ref tp), none, none, none, none, none, none, none, none, none, none, none, none, none, none, none, none, none] ∧ BS (cadr mg "Test") d sc ms H' L cs fm q tp) (fun D1' hn1 hr1 _ _ => ?_) ?_
    · obtain ⟨dx, _, _, _, _, hp5, _⟩ := Z5.te.node
      have both : ∀ {r r' : Bool}, (r = true ↔ fm.ts = f2.ts) → (r' = true ↔ fm = f2) → r = r' := fun {r r'} h1 h2 => by
        have : r = true ↔ r' = true := h1.trans (Fm.ts_eq.trans h2.symm)
        cases r <;> cases r' <;> simp_all
      walk_at "g"
      refine ⟨q2, f2, cs, rfl, F25, W2, d2, d2, z2, fun t2 H6 x6 A6 => ?_⟩
      obtain ⟨dy, _, _, _, _, hp6, _⟩ := A6.node
      walk_at "g"
      refine ⟨tp, dx, _, rfl, x6 _ _ hp5, .inl ⟨t2, dy, _, rfl, hp6⟩, tp, fm.ts, _, rfl, Z5.te.keep x6, okT, hd12, .inl ⟨t2, f2.ts, rfl, A6, okU, fun r H7 x7 hr => ?_⟩⟩
      have Z7 := (Z5.keep x6).keep x7
      have F27 := (F25.keep x6).keep x7
      have hp7 := x7 _ _ (x6 _ _ hp5)
      clear hp6 A6 x6 x7
      walk_at "g"
      refine g_eqForm Z7.fo F27 hwf.wide W2 hd12 d2 fun r' hr' => ?_
      walk_at "g"
      refine ⟨r, r', rfl, ?_⟩
      rw [both hr hr', decide_eq_true rfl]
      walk_at "g"
      refine ⟨q2, f2, cs, rfl, F27, W2, d2, d2, z2, fun t3 H8 x8 A8 => ?_⟩
      obtain ⟨dy, _, _, _, _, hp8, _⟩ := A8.node
      walk_at "g"
      refine ⟨tp, dx, _, rfl, x8 _ _ hp7, .inl ⟨t3, dy, _, rfl, hp8⟩, tp, fm.ts, _, rfl, Z7.te.keep x8, okT, hd12, .inl ⟨t3, f2.ts, rfl, A8, okU, fun r2 H9 x9 hr2 => ⟨r2, rfl, ?_⟩⟩⟩
      have Z9 := (Z7.keep x8).keep x9
      have F29 := (F27.keep x8).keep x9
      walk_at "g"
      refine g_neForm Z9.fo F29 hwf.wide W2 hd12 d2 fun r3 hr3 => ?_
      walk_at "g"
      refine ⟨!r2, !r3, rfl, ?_⟩
      rw [both hr2 hr3, decide_eq_true rfl]
      walk_at "g"
      exact hn1 _ _ ⟨rfl, Z9⟩
    rintro σ' H6 ⟨rfl, Z6⟩
    clear Z5 F25
    walk_at "g"
    refine g_cutA (M := fun σ' H' => σ' = [some (.ref a), some (.ref d), some (.ref L), some (.ref q), some (.ref q2), some (.ref tp), none, none, none, none, none, none, none, none, none, none, none, none, none, none, none, none, none] ∧ BS (cadr mg "Test") d sc ms H' L cs fm q tp) (fun D1' hn1 hr1 _ _ => ?_) ?_
    · walk_at "g"
      refine ⟨_, _, _, rfl, Z6.D, fun v H7 hv D7 K7 => ?_⟩
      have Z7 := Z6.draw D7 K7 hLd
      obtain ⟨Tn, hT, ty⟩ := thing_kind hv
      obtain ⟨dx, _, _, _, _, hp7, _⟩ := Z7.te.node
      walk_at "g"
      refine ⟨tp, dx, _, rfl, hp7, .inr ⟨Tn, hT, ty.x K⟩, tp, fm.ts, _, rfl, Z7.te, okT, hd12, .inr ⟨⟨Tn, hT, ty⟩, fun H8 x8 => ?_⟩⟩
      walk_at "g"
      refine ⟨false, false, rfl, ?_⟩
      rw [decide_eq_true rfl]
      walk_at "g"
      exact hn1 _ _ ⟨rfl, Z7.keep x8⟩
    rintro σ' H7 ⟨rfl, Z7⟩
    clear Z6
    -- the mapping, the way back, the row and the moved row
    obtain ⟨qs, hL7, hlen7, hcol7⟩ := id Z7.co
    have hq12 := hG.few
    have D7 := Z7.D
    walk_at "g"
    refine ⟨L, rfl, ⟨_, SqL.of hL7⟩, fun tk htk => ?_⟩
    refine lc_list (K := K) (a := L) (xs := qs.map V.ref) (fun j H' => H' tk = some (.lst (((cs.take j).map (·.1)).map V.str)) ∧ Ext H7 H') ⟨upd_same, ext_new htk⟩ (fun j H' _ p => SqL.of (p.2 _ _ hL7)) ?_ ?_
    · rintro j x H8 hj ⟨h8, x8⟩
      rw [List.getElem?_map] at hj
      obtain ⟨p, hp, rfl⟩ := Option.map_eq_some_iff.mp hj
      have hj12 := (List.getElem?_eq_some_iff.mp hp).1
      obtain ⟨c, hc⟩ : ∃ c, cs[j]? = some c := ⟨_, List.getElem?_eq_getElem (by omega)⟩
      obtain ⟨fl, ep⟩ := hcol7 j p c hp hc
      walk_at "g"
      refine ⟨rfl, ?_⟩
      walk_at "g"
      refine g_ixT (SqT.of (x8 _ _ ep)) (v := .str c.1) (by rfl) ?_
      refine ⟨_, h8, ?_, ?_, fun q o h => by rw [upd_ne (ne_of_none h htk)]; exact x8 _ _ h⟩
      · rw [List.length_map, List.length_map, List.length_take, sizeLine_eq]; omega
      · rw [upd_same, List.take_succ, hc, List.map_append, List.map_append]; rfl
    rintro H8 ⟨h8, x8⟩
    rw [List.length_map, hlen7, List.take_length] at h8
    have hDtk := D7.ne htk
    have B8 : DK d sc ms H7 H8 := (DK.refl D7).ext x8
    have htkd := hDtk.1
    have htks := hDtk.2
    have htk0 : H7 tk = none := htk
    clear x8
    walk_at "g"
    intro km hkm
    have nkm := B8.D.ne hkm
    have km0 := B8.K.back nkm.1 hkm
    have B9 := B8.new (o := .dK []) hkm
    have h9 : (upd H8 km (.dK [])) tk = _ := ext_new hkm _ _ h8
    have m9 : (upd H8 km (.dK [])) km = some (.dK []) := upd_same
    have tkm : tk ≠ km := ne_of_none h8 hkm
    generalize upd H8 km (.dK []) = H9 at B9 h9 m9
    clear B8 h8 hkm
    walk_at "g"
    intro kb hkb
    have nkb := B9.D.ne hkb
    have kb0 := B9.K.back nkb.1 hkb
    have B10 := B9.new (o := .dK []) hkb
    have h10 := ext_new (o := .dK []) hkb _ _ h9
    have m10 := ext_new (o := .dK []) hkb _ _ m9
    have b10 : (upd H9 kb (.dK [])) kb = some (.dK []) := upd_same
    have tkb : tk ≠ kb := ne_of_none h9 hkb
    have kmb : km ≠ kb := ne_of_none m9 hkb
    generalize upd H9 kb (.dK []) = H10 at B10 h10 m10 b10
    clear B9 h9 m9 hkb
    walk_at "g"
    refine ⟨d, sc, ms, L, cs, rfl, B10.D, hG, Z7.co.draw D7 B10.K hLd, hLd, fun rr row H11 hrr nrd nrs r11 hok hrl hall B11 => ?_⟩
    have h11 := B11.K _ _ htkd h10
    have m11 := B11.K _ _ nkm.1 m10
    have b11 := B11.K _ _ nkb.1 b10
    have trr : tk ≠ rr := ne_of_none h10 hrr
    have kmr : km ≠ rr := ne_of_none m10 hrr
    have kbr : kb ≠ rr := ne_of_none b10 hrr
    have C11 := B10.step B11.D B11.K
    clear B10 B11 h10 m10 b10 hrr
    walk_at "g"
    intro kr hkr
    have nkr := C11.D.ne hkr
    have kr0 := C11.K.back nkr.1 hkr
    have B12 := C11.new (o := .dK []) hkr
    have h12 := ext_new (o := .dK []) hkr _ _ h11
    have m12 := ext_new (o := .dK []) hkr _ _ m11
    have b12 := ext_new (o := .dK []) hkr _ _ b11
    have r12 := ext_new (o := .dK []) hkr _ _ r11
    have v12 : (upd H11 kr (.dK [])) kr = some (.dK []) := upd_same
    have tkr : tk ≠ kr := ne_of_none h11 hkr
    have kmv : km ≠ kr := ne_of_none m11 hkr
    have kbv : kb ≠ kr := ne_of_none b11 hkr
    have rrv : rr ≠ kr := ne_of_none r11 hkr
    generalize upd H11 kr (.dK []) = H12 at B12 h12 m12 b12 r12 v12
    clear C11 h11 m11 b11 r11 hkr
    have hnl : (cs.map (·.1)).length = cs.length := List.length_map _
    walk_at "g"
    refine ⟨L, rfl, ⟨_, SqL.of (B12.K _ _ hLd hL7)⟩, for_listA (xs := qs.map V.ref) (fun j σ' H' => (∃ s11 s12, σ' = [some (.ref a), some (.ref d), some (.ref L), some (.ref q), some (.ref q2), some (.ref tp), some (.ref tk), some (.ref km), some (.ref kb), some (.ref rr), some (.ref kr), s11, s12, none, none, none, none, none, none, none, none, none, none]) ∧ DK d sc ms H7 H' ∧ H' rr = some (.dK row) ∧ ∃ kvm kvb kvr ts, H' km = some (.dK kvm) ∧ H' kb = some (.dK kvb) ∧ H' kr = some (.dK kvr) ∧ H' tk = some (.lst (ts.map V.str)) ∧ MI (cs.map (·.1)) j kvm kvb kvr row ts) ⟨⟨none, none, rfl⟩, B12, r12, [], [], [], _, m12, b12, v12, h12, .init⟩ (fun _ _ _ _ e => SqL.of (e.2.1.K _ _ hLd hL7)) ?_ ?_⟩
    · rintro j x σ' H13 D' hj ⟨⟨s11, s12, rfl⟩, B13, r13, kvm, kvb, kvr, ts, m13, b13, v13, h13, M⟩ hnx hct hbk hrt
      clear B12 h12 m12 b12 r12 v12
      rw [List.getElem?_map] at hj
      obtain ⟨p, hp, rfl⟩ := Option.map_eq_some_iff.mp hj
      have hj12 := (List.getElem?_eq_some_iff.mp hp).1
      obtain ⟨⟨c, kd⟩, hc⟩ : ∃ c, cs[j]? = some c := ⟨_, List.getElem?_eq_getElem (by omega)⟩
      have hcm := List.mem_of_getElem? hc
      have hcn : nameP c := hG.nm _ hcm
      have hcj : (cs.map (·.1))[j]? = some c := by rw [List.getElem?_map, hc]; rfl
      obtain ⟨fl, ep7⟩ := hcol7 j p _ hp hc
      have hpd := D7.tne ep7
      have ep := B13.K _ _ hpd ep7
      obtain ⟨v0, hv0⟩ := Option.isSome_iff_exists.mp (hall _ hcm)
      have hv0 : valV row (Sum.inr c) = some v0 := hv0
      have lm := M.lm
      have lb := M.lb
      have lr := M.lr
      have lt := M.lt
      walk_at "g"
      refine g_ixT (SqT.of ep) (v := .str c) (by rfl) ?_
      walk_at "g"
      refine g_cutA (M := fun σ' H' => ∃ n, σ' = [some (.ref a), some (.ref d), some (.ref L), some (.ref q), some (.ref q2), some (.ref tp), some (.ref tk), some (.ref km), some (.ref kb), some (.ref rr), some (.ref kr), some (.ref p), some (.str n), none, none, none, none, none, none, none, none, none, none] ∧ DK d sc ms H7 H' ∧ H' rr = some (.dK row) ∧ ∃ kvm' kvb' ts', H' km = some (.dK kvm') ∧ H' kb = some (.dK kvb') ∧ H' kr = some (.dK kvr) ∧ H' tk = some (.lst (ts'.map V.str)) ∧ MI (cs.map (·.1)) (j + 1) kvm' kvb' (putK kvr (Sum.inr n) v0) row ts') (fun D1' hn1 hr1 _ _ => ?_) ?_
      · walk_at "g"
        refine ⟨_, _, _, _, rfl, B13.D, by decide, by decide +kernel, fun r5 H14 r50 r51 D14 K14 => ?_⟩
        have B14 := B13.step D14 K14
        have m14 := K14 _ _ nkm.1 m13
        have b14 := K14 _ _ nkb.1 b13
        have v14 := K14 _ _ nkr.1 v13
        have r14 := K14 _ _ nrd r13
        have h14 := K14 _ _ htkd h13
        walk_at "g"
        refine g_dec (fun h0 => ?_) (fun h0 => ?_)
        · walk_at "g"
          refine ⟨d, sc, ms, tk, ts, rfl, D14, htkd, h14, by omega, fun z H15 nz hz D15 K15 => ?_⟩
          have B15 := B14.step D15 K15
          have m15 := K15 _ _ nkm.1 m14
          have b15 := K15 _ _ nkb.1 b14
          have v15 := K15 _ _ nkr.1 v14
          have r15 := K15 _ _ nrd r14
          have h15 := K15 _ _ htkd h14
          clear B14 m14 b14 v14 r14 h14 D14 K14 K15
          walk_at "g"
          have B16 := B15.put (o := .lst (ts.map V.str ++ [.str z])) htk0 htkd htks
          have m16 : (upd H15 tk (.lst (ts.map V.str ++ [.str z]))) km = some (.dK kvm) := by rw [upd_ne (Ne.symm tkm)]; exact m15
          have b16 : (upd H15 tk (.lst (ts.map V.str ++ [.str z]))) kb = some (.dK kvb) := by rw [upd_ne (Ne.symm tkb)]; exact b15
          have v16 : (upd H15 tk (.lst (ts.map V.str ++ [.str z]))) kr = some (.dK kvr) := by rw [upd_ne (Ne.symm tkr)]; exact v15
          have r16 : (upd H15 tk (.lst (ts.map V.str ++ [.str z]))) rr = some (.dK row) := by rw [upd_ne (Ne.symm trr)]; exact r15
          have h16 : (upd H15 tk (.lst (ts.map V.str ++ [.str z]))) tk = some (.lst ((ts ++ [z]).map V.str)) := by rw [upd_same, List.map_append]; rfl
          generalize upd H15 tk (.lst (ts.map V.str ++ [.str z])) = H16 at B16 m16 b16 v16 r16 h16
          clear B15 m15 b15 v15 r15 h15
          have ep16 := B16.K _ _ hpd ep7
          refine g_dput ?_
          walk_at "g"
          refine g_ixT (SqT.of ep16) (v := .str c) (by rfl) ?_
          refine ⟨km, _, rfl, DPut.k (k := Sum.inr c) m16 (by rw [sizeLine_eq]; omega), ?_⟩
          have B17 := B16.put (o := .dK (putK kvm (Sum.inr c) (.str z))) km0 nkm.1 nkm.2
          have ep17 := B17.K _ _ hpd ep7
          walk_at "g"
          refine g_dput ?_
          walk_at "g"
          refine g_ixT (SqT.of ep17) (v := .str c) (by rfl) ?_
          walk_at "g"
          refine ⟨kb, _, rfl, DPut.k (k := Sum.inr z) (by rw [upd_ne (Ne.symm kmb)]; exact b16) (by rw [sizeLine_eq]; omega), ?_⟩
          refine hn1 _ _ ⟨z, rfl, B17.put kb0 nkb.1 nkb.2, by rw [upd_ne (Ne.symm kbr), upd_ne (Ne.symm kmr)]; exact r16, _, _, _, by rw [upd_ne kmb]; exact upd_same, upd_same, by rw [upd_ne (Ne.symm kbv), upd_ne (Ne.symm kmv)]; exact v16, by rw [upd_ne tkb, upd_ne tkm]; exact h16, M.fresh hG.nd hcj nz hz hv0⟩
        · walk_at "g"
          exact hn1 _ _ ⟨c, rfl, B14, r14, kvm, kvb, ts, m14, b14, v14, h14, M.keep hG.nd hcj hcn hv0⟩
      rintro σ' H14 ⟨n, rfl, B14, r14, kvm', kvb', ts', m14, b14, v14, h14, M'⟩
      have ep14 := B14.K _ _ hpd ep7
      refine g_dput ?_
      walk_at "g"
      refine g_ixT (SqT.of ep14) (v := .str c) (by rfl) ?_
      refine ⟨rr, v0, rfl, (by rw [← hv0]; exact DGet.k (k := Sum.inr c) r14), ?_⟩
      walk_at "g"
      refine ⟨kr, _, rfl, DPut.k (k := Sum.inr n) v14 (by rw [sizeLine_eq]; omega), ?_⟩
      exact hnx _ _ ⟨⟨_, _, rfl⟩, B14.put kr0 nkr.1 nkr.2, by rw [upd_ne rrv]; exact r14, kvm', kvb', _, ts', by rw [upd_ne kmv]; exact m14, by rw [upd_ne kbv]; exact b14, upd_same, by rw [upd_ne tkr]; exact h14, M'⟩
    rintro σ' H13 ⟨⟨s11, s12, rfl⟩, B13, r13, kvm, kvb, kvr, ts, m13, b13, v13, h13, M⟩
    rw [List.length_map, hlen7, ← hnl] at M
    have Z13 := Z7.draw B13.D B13.K hLd
    clear B12 h12 m12 b12 r12 v12 h13 hL7 hcol7
    have MO := M.mapOk
    have hnm : ∀ c ∈ cs.map (·.1), nameP c := fun c hc => by obtain ⟨x, hx, rfl⟩ := List.mem_map.mp hc; exact hG.nm x hx
    have hci := Fm.cols_in hwf
    have hcl := cols_len fm
    have strT : ∀ {H : Hp} {z : Str}, nameP z → thing H (.str z) := fun {H z} h => .inr (.inr (.inr (.inl ⟨z, rfl, Nat.le_trans h.2.1 (by decide)⟩)))
    have hWm := Fm.move_wf MO hwf
    have okM := hWm.wide.kv.ok
    have hdm := Fm.move_depth (mvS kvm) fm
    have hzm := Fm.move_size (mvS kvm) fm
    have hcm := Fm.move_cols (mvS kvm) fm
    have ev : evalF (gOf kvr) (fm.move (mvS kvm)) = evalF (gOf row) fm := evalF_move fun c hc => g_of (M.at (hci c hc)).2.2.1
    obtain ⟨dx, _, _, _, _, hp13, _⟩ := Z13.te.node
    walk_at "g"
    refine ⟨km, kvm, rfl, .inl m13, fun bf hbf => ?_⟩
    have x14 := ext_new (o := .dK kvm) hbf
    have c14 : (upd H13 bf (.dK kvm)) bf = some (.dK kvm) := upd_same
    generalize upd H13 bf (.dK kvm) = H14 at x14 c14
    walk_at "g"
    refine ⟨tp, dx, _, rfl, x14 _ _ hp13, tf_renamed, ?_⟩
    walk_at "g"
    refine ⟨tp, fm.ts, _, rfl, Z13.te.keep x14, .inl ⟨km, kvm, rfl, x14 _ _ m13, fun c hc => ?_, hd12, by rw [Fm.ts_cols]; omega, fun e => absurd ((ren_move MO hwf).symm.trans e) nofun, fun u e tf H15 x15 A15 => ?_⟩⟩
    · rw [Fm.ts_cols] at hc
      obtain ⟨h1, h2, _⟩ := M.at (hci c hc)
      rw [h1]
      exact strT h2
    rw [ren_move MO hwf] at e
    cases e
    have x145 : Ext H13 H15 := fun q o h => x15 _ _ (x14 _ _ h)
    have c15 := x15 _ _ c14
    have Z15 := Z13.keep x145
    have m15 := x145 _ _ m13
    have b15 := x145 _ _ b13
    have v15 := x145 _ _ v13
    have r15 := x145 _ _ r13
    have hp15 := x145 _ _ hp13
    clear Z13 m13 b13 v13 r13 hp13 c14 x14 x15 x145
    have same : ∀ p ∈ kvm, valV kvm p.1 = some p.2 ∧ flatB p.2 = true := fun p hp => ⟨val_mem M.nd hp, M.fl p hp⟩
    walk_at "g"
    refine ⟨km, bf, kvm, kvm, rfl, rfl, m15, c15, rfl, same, ?_⟩
    walk_at "g"
    refine ⟨q, km, fm, cs, kvm, rfl, Z15.fo, hwf, m15, fun c hc => MO.nm c (hci c hc), by omega, fun qm H16 x16 F16 => ?_⟩
    walk_at "g"
    refine ⟨qm, _, _, rfl, F16, hWm.wide, by omega, by omega, by omega, fun tm H17 x17 A17 => ?_⟩
    have x157 : Ext H15 H17 := fun q o h => x17 _ _ (x16 _ _ h)
    have A157 := A15.keep x157
    obtain ⟨dxf, _, _, _, _, hpf, _⟩ := A157.node
    obtain ⟨dxm, _, _, _, _, hpm, _⟩ := A17.node
    walk_at "g"
    refine ⟨tf, dxf, _, rfl, hpf, .inl ⟨tm, dxm, _, rfl, hpm⟩, tf, _, _, rfl, A157, okM, by omega, .inl ⟨tm, _, rfl, A17, okM, fun r H18 x18 hr => ?_⟩⟩
    obtain rfl : r = true := hr.mpr rfl
    have x158 : Ext H15 H18 := fun q o h => x18 _ _ (x157 _ _ h)
    have Z18 := Z15.keep x158
    have A18 := A157.keep x18
    have hpf18 := x18 _ _ hpf
    have b18 := x158 _ _ b15
    have v18 := x158 _ _ v15
    have r18 := x158 _ _ r15
    have hp18 := x158 _ _ hp15
    clear Z15 m15 b15 v15 r15 hp15 c15 x16 x17 x157 A157 A17 F16 x18 x158 hpf hpm A15
    walk_at "g"
    refine ⟨tf, dxf, _, rfl, hpf18, tf_truth, ?_⟩
    walk_at "g"
    refine ⟨tf, _, fm.move (mvS kvm), renCs kvm cs, rfl, A18, hWm, by omega, by omega, by rw [hcm, List.length_map]; omega, .inr ⟨kr, kvr, rfl, v18, rowV_ren hok.rv fun c hc => g_of (M.at hc).2.2.1, fun zs so nd hm => ⟨fun c hc => ?_, fun _ H19 x19 => ?_⟩⟩⟩
    · have h1 := List.mem_of_find?_eq_some hc
      have h2 := List.find?_some hc
      rw [hm, hcm] at h1
      obtain ⟨c0, hc0, rfl⟩ := List.mem_map.mp h1
      obtain ⟨x0, hx0, e0⟩ := List.mem_map.mp (hci c0 hc0)
      have h3 := hall x0 hx0
      rw [e0, ← (M.at (hci c0 hc0)).2.2.1] at h3
      unfold missB at h2
      cases e1 : valV kvr (Sum.inr (mvS kvm c0)) with
      | none => rw [e1] at h3; cases h3
      | some w0 => rw [e1] at h2; exact absurd h2 (by simp)
    rw [ev]
    have Z19 := Z18.keep x19
    have A19 := A18.keep x19
    have hpf19 := x19 _ _ hpf18
    have b19 := x19 _ _ b18
    have r19 := x19 _ _ r18
    have hp19 := x19 _ _ hp18
    have hin : ∀ c ∈ fm.cols, (valV row (Sum.inr c)).isSome = true := fun c hc => by
      obtain ⟨x0, hx0, e0⟩ := List.mem_map.mp (hci c hc)
      have := hall x0 hx0
      rw [e0] at this
      exact this
    clear Z18 A18 hpf18 b18 v18 r18 hp18 x19
    walk_at "g"
    refine ⟨_, rfl, evalF_tv _ _, ?_⟩
    walk_at "g"
    refine ⟨q, rr, fm, cs, row, rfl, Z19.fo, hwf, hd12, hok.rv, r19, hin, ?_⟩
    refine ⟨tv_scal (evalF_tv _ _), ?_⟩
    rw [decide_eq_true rfl]
    walk_at "g"
    -- back again
    refine ⟨tf, dxf, _, rfl, hpf19, tf_renamed, ?_⟩
    walk_at "g"
    have hfst : (renCs kvm cs).map (·.1) = (cs.map (·.1)).map (mvS kvm) := by unfold renCs; rw [List.map_map, List.map_map]; rfl
    have MB : MapOk ((renCs kvm cs).map (·.1)) kvb := by rw [hfst]; exact M.backOk hnm
    have hback : (fm.move (mvS kvm)).move (mvS kvb) = fm := Fm.move_back fun c hc => M.back (hci c hc)
    refine ⟨tf, _, _, rfl, A19, .inl ⟨kb, kvb, rfl, b19, fun c hc => ?_, by omega, by rw [Fm.ts_cols, hcm, List.length_map]; omega, fun e => absurd ((ren_move MB hWm).symm.trans e) nofun, fun u e tb H20 x20 A20 => ?_⟩⟩
    · rw [Fm.ts_cols, hcm] at hc
      obtain ⟨c0, hc0, rfl⟩ := List.mem_map.mp hc
      rw [(M.at (hci c0 hc0)).2.2.2]
      exact strT (hnm c0 (hci c0 hc0))
    rw [ren_move MB hWm, hback] at e
    cases e
    obtain ⟨dxb, _, _, _, _, hpb, _⟩ := A20.node
    walk_at "g"
    refine ⟨tb, dxb, _, rfl, hpb, .inl ⟨tp, dx, _, rfl, x20 _ _ hp19⟩, tb, fm.ts, _, rfl, A20, okT, hd12, .inl ⟨tp, fm.ts, rfl, Z19.te.keep x20, okT, fun r H21 x21 hr => ?_⟩⟩
    obtain rfl : r = true := hr.mpr rfl
    have Z21 := (Z19.keep x20).keep x21
    have r21 := x21 _ _ (x20 _ _ r19)
    have hp21 := x21 _ _ (x20 _ _ hp19)
    clear Z19 A19 b19 r19 hp19 x20 x21 A20 hpb hpf19
    walk_at "g"
    refine ⟨q, fm, cs, rfl, Z21.fo, hwf.wide, by omega, by omega, by omega, fun t2 H22 x22 A22 => ?_⟩
    obtain ⟨dx2, _, _, _, _, hp2, _⟩ := A22.node
    walk_at "g"
    refine ⟨tp, dx, _, rfl, x22 _ _ hp21, .inl ⟨t2, dx2, _, rfl, hp2⟩, tp, fm.ts, _, rfl, Z21.te.keep x22, okT, hd12, .inl ⟨t2, fm.ts, rfl, A22, okT, fun r H23 x23 hr => ?_⟩⟩
    obtain rfl : r = true := hr.mpr rfl
    have Z23 := (Z21.keep x22).keep x23
    have r23 := x23 _ _ (x22 _ _ r21)
    clear Z21 r21 hp21 x22 x23 A22 hp2
    walk_at "g"
    refine ⟨q, fm, rfl, Z23.fo, ⟨cs, hwf⟩, hd12, by omega, fun zs Lz H24 hLz x24 e24 hso hnd hmem => ?_⟩
    have hLzd : Lz ≠ d := (Z23.D.ne hLz).1
    have Z24 := Z23.keep x24
    have r24 := x24 _ _ r23
    clear Z23 r23 x24 hLz
    have hwz : (evalF (gOf row) fm) = evalF (gOf row) fm := rfl
    obtain ⟨ps, hL24, hlen24, hcol24⟩ := id Z24.co
    have D24 := Z24.D
    walk_at "g"
    refine g_cutA (M := fun σ' H' => (∃ s15 s17 s18 s19 s20 s11', σ' = [some (.ref a), some (.ref d), some (.ref L), some (.ref q), some (.ref q2), some (.ref tp), some (.ref tk), some (.ref km), some (.ref kb), some (.ref rr), some (.ref kr), s11', s12, some (.ref bf), some (.ref tf), s15, some (.ref Lz), s17, s18, s19, s20, none, none]) ∧ DK d sc ms H24 H') (fun D1' hn1 hr1 _ _ => ?_) ?_
    · walk_at "g" --S
      refine g_dec (fun h1 => ?_) (fun h1 => ?_)
      · walk_at "g"
        intro sw hsw
        have B25 := (DK.refl D24).new (o := .dK []) hsw
        have nsw := D24.ne hsw
        have sw0 : H24 sw = none := hsw
        have s25 : (upd H24 sw (.dK [])) sw = some (.dK []) := upd_same
        have L25 := ext_new (o := .dK []) hsw _ _ hL24
        generalize upd H24 sw (.dK []) = H25 at B25 s25 L25
        clear hsw
        have hpl : ps.length = (cs.map (·.1)).length := hlen24.trans hnl.symm
        walk_at "g"
        refine ⟨_, rfl, by omega, by rw [List.length_map]; omega, ?_⟩
        refine for_rangeA (fun i σ' H' => (∃ s18, σ' = [some (.ref a), some (.ref d), some (.ref L), some (.ref q), some (.ref q2), some (.ref tp), some (.ref tk), some (.ref km), some (.ref kb), some (.ref rr), some (.ref kr), s11, s12, some (.ref bf), some (.ref tf), some (evalF (gOf row) fm), some (.ref Lz), some (.ref sw), s18, none, none, none, none]) ∧ DK d sc ms H24 H' ∧ ∃ kvs, H' sw = some (.dK kvs) ∧ SW (cs.map (·.1)) i kvs) ⟨⟨none, rfl⟩, B25, [], s25, .init⟩ ?_ ?_
        · rintro i σ' H26 D' hi ⟨⟨s18, rfl⟩, B26, kvs, s26, S⟩ hnx hct hbk hrt
          rw [List.length_map] at hi
          clear B25 s25 L25
          have L26 := B26.K _ _ hLd hL24
          have hip : i < ps.length := by omega
          have hin' : i < (cs.map (·.1)).length := by omega
          obtain ⟨pi, hpi⟩ : ∃ x, ps[i]? = some x := ⟨_, List.getElem?_eq_getElem hip⟩
          obtain ⟨⟨c, kd⟩, hc⟩ : ∃ c, cs[i]? = some c := ⟨_, List.getElem?_eq_getElem (by omega)⟩
          have hci' : (cs.map (·.1))[i]? = some c := by rw [List.getElem?_map, hc]; rfl
          have hm : (i + ps.length - 1) % ps.length < ps.length := Nat.mod_lt _ (by omega)
          obtain ⟨pj, hpj⟩ : ∃ x, ps[(i + ps.length - 1) % ps.length]? = some x := ⟨_, List.getElem?_eq_getElem hm⟩
          obtain ⟨⟨c', kd'⟩, hc'⟩ : ∃ c, cs[(i + ps.length - 1) % ps.length]? = some c := ⟨_, List.getElem?_eq_getElem (by omega)⟩
          have hpv : prevN (cs.map (·.1)) i = c' := by
            have h := prevN_at hin'
            rw [← hpl, List.getElem?_map, hc'] at h
            injection h with h
            exact h.symm
          obtain ⟨fl, ei⟩ := hcol24 i pi _ hpi hc
          obtain ⟨fl', ej⟩ := hcol24 _ pj _ hpj hc'
          have ei := B26.K _ _ (D24.tne ei) ei
          have ej := B26.K _ _ (D24.tne ej) ej
          have a1 : atI (ps.map V.ref) (0 + (i : Int)) = some (.ref pi) := by
            rw [Int.zero_add]
            exact atI_nat (by rw [List.getElem?_map, hpi]; rfl)
          have a2 : atI (ps.map V.ref) (0 + (i : Int) - 1) = some (.ref pj) := by
            rw [atI_prev (by rw [List.length_map]; exact hip), List.length_map, List.getElem?_map, hpj]
            rfl
          have hSl := S.l
          refine g_name ?_
          refine g_dput ?_
          walk_at "g"
          refine g_ixL (SqL.of L26) a2 ?_
          walk_at "g"
          refine g_ixT (SqT.of ej) (v := .str c') (by rfl) ?_
          walk_at "g"
          refine g_ixL (SqL.of L26) a1 ?_
          walk_at "g"
          refine g_ixT (SqT.of ei) (v := .str c) (by rfl) ?_
          refine ⟨sw, _, rfl, DPut.k (k := Sum.inr c) s26 (by rw [sizeLine_eq]; omega), ?_⟩
          refine hnx _ _ ⟨⟨_, rfl⟩, B26.put sw0 nsw.1 nsw.2, _, upd_same, ?_⟩
          have := S.put hG.nd hci'
          rw [hpv] at this
          exact this
        rintro σ' H26 ⟨⟨s18, rfl⟩, B26, kvs, s26, S⟩
        rw [List.length_map, hpl] at S
        clear B25 s25 L25
        have MS := S.mapOk hG.nd hnm
        have Z26 := Z24.draw B26.D B26.K hLd
        have hWs := Fm.move_wf MS hwf
        have okS := hWs.wide.kv.ok
        have hds := Fm.move_depth (mvS kvs) fm
        have hzs := Fm.move_size (mvS kvs) fm
        have hcs := Fm.move_cols (mvS kvs) fm
        have r26 := B26.K _ _ nrd r24
        obtain ⟨dx, _, _, _, _, hp26, _⟩ := Z26.te.node
        walk_at "g"
        refine ⟨tp, dx, _, rfl, hp26, tf_renamed, ?_⟩
        walk_at "g"
        refine ⟨tp, fm.ts, _, rfl, Z26.te, .inl ⟨sw, kvs, rfl, s26, fun c hc => ?_, hd12, by rw [Fm.ts_cols]; omega, fun e => absurd ((ren_move MS hwf).symm.trans e) nofun, fun u e ta H27 x27 A27 => ?_⟩⟩
        · rw [Fm.ts_cols] at hc
          have h1 := MS.nm c (hci c hc)
          rw [mv_str h1]
          exact strT (mvS_name h1)
        rw [ren_move MS hwf] at e
        cases e
        have B27 := B26.ext x27
        have Z27 := Z26.keep x27
        have s27 := x27 _ _ s26
        have r27 := x27 _ _ r26
        clear B26 Z26 s26 r26 hp26 x27
        walk_at "g"
        refine ⟨q, sw, fm, cs, kvs, rfl, Z27.fo, hwf, s27, fun c hc => MS.nm c (hci c hc), by omega, fun qm H28 x28 F28 => ?_⟩
        walk_at "g"
        refine ⟨qm, _, _, rfl, F28, hWs.wide, by omega, by omega, by omega, fun tm H29 x29 A29 => ?_⟩
        have x279 : Ext H27 H29 := fun q o h => x29 _ _ (x28 _ _ h)
        have A279 := A27.keep x279
        obtain ⟨dxf, _, _, _, _, hpf, _⟩ := A279.node
        obtain ⟨dxm, _, _, _, _, hpm, _⟩ := A29.node
        walk_at "g"
        refine ⟨ta, dxf, _, rfl, hpf, .inl ⟨tm, dxm, _, rfl, hpm⟩, ta, _, _, rfl, A279, okS, by omega, .inl ⟨tm, _, rfl, A29, okS, fun r H30 x30 hr => ?_⟩⟩
        obtain rfl : r = true := hr.mpr rfl
        have x270 : Ext H27 H30 := fun q o h => x30 _ _ (x279 _ _ h)
        have B30 := B27.ext x270
        have Z30 := Z27.keep x270
        have s30 := x270 _ _ s27
        have r30 := x270 _ _ r27
        have A30 := A279.keep x30
        clear B27 Z27 s27 r27 A27 A279 A29 F28 x28 x29 x279 x30 x270 hpf hpm
        walk_at "g"
        intro tr htr
        have ntr := B30.D.ne htr
        have tr0 := B30.K.back ntr.1 htr
        have B31 := B30.new (o := .dK []) htr
        have x31 := ext_new (o := .dK []) htr
        have t31 : (upd H30 tr (.dK [])) tr = some (.dK []) := upd_same
        have s31 := x31 _ _ s30
        have r31 := x31 _ _ r30
        have ts' : sw ≠ tr := ne_of_none s30 htr
        have tr' : rr ≠ tr := ne_of_none r30 htr
        have A31 := A30.keep x31
        generalize upd H30 tr (.dK []) = H31 at B31 x31 t31 s31 r31 A31
        clear B30 Z30 s30 r30 A30 htr x31
        have G31 := B31
        walk_at "g"
        refine ⟨L, rfl, ⟨_, SqL.of (B31.K _ _ hLd hL24)⟩, for_listA (xs := ps.map V.ref) (fun j σ' H' => (∃ s11', σ' = [some (.ref a), some (.ref d), some (.ref L), some (.ref q), some (.ref q2), some (.ref tp), some (.ref tk), some (.ref km), some (.ref kb), some (.ref rr), some (.ref kr), s11', s12, some (.ref bf), some (.ref tf), some (evalF (gOf row) fm), some (.ref Lz), some (.ref sw), s18, some (.ref ta), some (.ref tr), none, none]) ∧ DK d sc ms H24 H' ∧ (∀ b o, b ≠ tr → H31 b = some o → H' b = some o) ∧ ∃ kvt, H' tr = some (.dK kvt) ∧ TW (cs.map (·.1)) j kvt row) ⟨⟨s11, rfl⟩, B31, fun b o _ h => h, [], t31, .init⟩ (fun _ _ _ _ e => SqL.of (e.2.1.K _ _ hLd hL24)) ?_ ?_⟩
        · rintro j x σ' H32 D' hj ⟨⟨s11', rfl⟩, B32, k32, kvt, t32, W⟩ hnx hct hbk hrt
          rw [List.getElem?_map] at hj
          obtain ⟨p, hp, rfl⟩ := Option.map_eq_some_iff.mp hj
          have hj12 := (List.getElem?_eq_some_iff.mp hp).1
          obtain ⟨⟨c, kd⟩, hc⟩ : ∃ c, cs[j]? = some c := ⟨_, List.getElem?_eq_getElem (by omega)⟩
          have hcj : (cs.map (·.1))[j]? = some c := by rw [List.getElem?_map, hc]; rfl
          obtain ⟨fl, ep⟩ := hcol24 j p _ hp hc
          have ep := B32.K _ _ (D24.tne ep) ep
          obtain ⟨v0, hv0⟩ := Option.isSome_iff_exists.mp (hall _ (List.mem_of_getElem? hc))
          have hv0 : valV row (Sum.inr c) = some v0 := hv0
          have s32 := k32 _ _ ts' s31
          have r32 := k32 _ _ tr' r31
          have hWl := W.l
          refine g_name ?_
          refine g_dput ?_
          walk_at "g"
          refine g_ixT (SqT.of ep) (v := .str c) (by rfl) ?_
          refine ⟨rr, v0, rfl, (by rw [← hv0]; exact DGet.k (k := Sum.inr c) r32), ?_⟩
          walk_at "g"
          refine g_ixT (SqT.of ep) (v := .str c) (by rfl) ?_
          refine ⟨sw, .str (prevN (cs.map (·.1)) j), rfl, (by rw [← S.a j c hcj (by omega)]; exact DGet.k (k := Sum.inr c) s32), ?_⟩
          refine ⟨tr, _, rfl, DPut.k (k := (Sum.inr (prevN (cs.map fun z : Str × Bool => z.1) j) : Key)) t32 (by rw [sizeLine_eq]; omega), ?_⟩
          exact hnx _ _ ⟨⟨_, rfl⟩, B32.put tr0 ntr.1 ntr.2, fun b o hb h => by rw [upd_ne hb]; exact k32 _ _ hb h, _, upd_same, W.put hG.nd hcj hv0⟩
        rintro σ' H32 ⟨⟨s11', rfl⟩, B32, k32, kvt, t32, W⟩
        rw [List.length_map, hpl] at W
        have Z32 := Z24.draw B32.D B32.K hLd
        have A32 : TestAt (cadr mg "Test") H32 (fm.move (mvS kvs)).ts ta := A31.keepN (p := tr) k32 fun o e => by
          rw [t31] at e
          cases e
          exact ⟨(fun _ _ z => nomatch z), (fun _ z => nomatch z)⟩
        have r32 := k32 _ _ tr' r31
        have hgt : ∀ c ∈ cs.map (·.1), valV kvt (Sum.inr (mvS kvs c)) = valV row (Sum.inr c) := fun c hc => by
          obtain ⟨i, hi, e⟩ := List.mem_iff_getElem.mp hc
          have h1 : (cs.map (·.1))[i]? = some c := by rw [List.getElem?_eq_getElem hi, e]
          rw [S.mvS h1]
          exact W.a i c h1 hi
        have ev2 : evalF (gOf kvt) (fm.move (mvS kvs)) = evalF (gOf row) fm := evalF_move fun c hc => g_of (hgt c (hci c hc))
        obtain ⟨dxf, _, _, _, _, hpf, _⟩ := A32.node
        clear B31 G31 A31 k32 s31 r31 t31
        walk_at "g"
        refine ⟨ta, dxf, _, rfl, hpf, tf_truth, ?_⟩
        walk_at "g"
        refine ⟨ta, _, fm.move (mvS kvs), renCs kvs cs, rfl, A32, hWs, by omega, by omega, by rw [hcs, List.length_map]; omega, .inr ⟨tr, kvt, rfl, t32, rowV_ren hok.rv fun c hc => g_of (hgt c hc), fun zs so nd hm => ⟨fun c hc => ?_, fun _ H33 x33 => ?_⟩⟩⟩
        · have h1 := List.mem_of_find?_eq_some hc
          have h2 := List.find?_some hc
          rw [hm, hcs] at h1
          obtain ⟨c0, hc0, rfl⟩ := List.mem_map.mp h1
          obtain ⟨x0, hx0, e0⟩ := List.mem_map.mp (hci c0 hc0)
          have h3 := hall x0 hx0
          rw [e0, ← hgt _ (hci c0 hc0)] at h3
          unfold missB at h2
          cases e1 : valV kvt (Sum.inr (mvS kvs c0)) with
          | none => rw [e1] at h3; cases h3
          | some w0 => rw [e1] at h2; exact absurd h2 (by simp)
        rw [ev2]
        have Z33 := Z32.keep x33
        have r33 := x33 _ _ r32
        have B33 := B32.ext x33
        clear Z32 r32 B32 A32 hpf x33
        walk_at "g"
        refine ⟨_, rfl, evalF_tv _ _, ?_⟩
        walk_at "g"
        refine ⟨q, rr, fm, cs, row, rfl, Z33.fo, hwf, hd12, hok.rv, r33, hin, ?_⟩
        refine ⟨tv_scal (evalF_tv _ _), ?_⟩
        rw [decide_eq_true rfl]
        walk_at "g"
        exact hn1 _ _ ⟨⟨_, _, _, _, _, _, rfl⟩, B33⟩
      · walk_at "g"
        exact hn1 _ _ ⟨⟨_, _, _, _, _, _, rfl⟩, DK.refl D24⟩
    rintro σ' H34 ⟨⟨s15, s17, s18, s19, s20, s11', rfl⟩, B34⟩
    have Z34 := Z24.draw B34.D B34.K hLd
    have n34 := B34.K _ _ hLzd e24
    clear Z24 B34 e24 r24 hL24 hcol24 D24
    walk_at "g"
    refine g_cutA (M := fun σ' H' => (∃ s21, σ' = [some (.ref a), some (.ref d), some (.ref L), some (.ref q), some (.ref q2), some (.ref tp), some (.ref tk), some (.ref km), some (.ref kb), some (.ref rr), some (.ref kr), s11', s12, some (.ref bf), some (.ref tf), s15, some (.ref Lz), s17, s18, s19, s20, s21, none]) ∧ DK d sc ms H34 H') (fun D1' hn1 hr1 _ _ => ?_) ?_
    · walk_at "g"
      refine g_dec (fun h1 => ?_) (fun h1 => ?_)
      · walk_at "g"
        refine ⟨by show 0 ≤ sizeLine; decide, fun p0 hp0 => ?_⟩
        have n0 := Z34.D.ne hp0
        have B35 := (DK.refl Z34.D).new (o := .lst []) hp0
        have e0 : (upd H34 p0 (.lst [])) p0 = some (.lst []) := upd_same
        generalize upd H34 p0 (.lst []) = H35 at B35 e0
        walk_at "g"
        refine ⟨by show 8 ≤ sizeLine; decide, fun p1 hp1 => ?_⟩
        have n1 := B35.D.ne hp1
        have B36 := B35.new (o := .lst [.non, .int 5, .str "", .str "A", .str "in", .str "abcdefghi", .ref p0, .bl true]) hp1
        have e1 : (upd H35 p1 (.lst [.non, .int 5, .str "", .str "A", .str "in", .str "abcdefghi", .ref p0, .bl true])) p1 = some (.lst [.non, .int 5, .str "", .str "A", .str "in", .str "abcdefghi", .ref p0, .bl true]) := upd_same
        have e0 := ext_new (o := .lst [.non, .int 5, .str "", .str "A", .str "in", .str "abcdefghi", .ref p0, .bl true]) hp1 _ _ e0
        have eq0 : upd H35 p1 (.lst [.non, .int 5, .str (Str.ofString ""), .str (Str.ofString "A"), .str (Str.ofString "in"), .str (Str.ofString "abcdefghi"), .ref p0, .bl true]) = upd H35 p1 (.lst [.non, .int 5, .str "", .str "A", .str "in", .str "abcdefghi", .ref p0, .bl true]) := rfl
        rw [eq0]
        generalize upd H35 p1 (.lst [.non, .int 5, .str "", .str "A", .str "in", .str "abcdefghi", .ref p0, .bl true]) = H36 at B36 e0 e1
        clear eq0 B35 hp1 hp0
        walk_at "g"
        refine ⟨_, _, _, _, rfl, B36.D, by decide, by decide +kernel, fun r H37 r0 r1 D37 K37 => ?_⟩
        obtain ⟨b, hb, hbn, hbt⟩ : ∃ b, atI [V.non, .int 5, .str "", .str "A", .str "in", .str "abcdefghi", .ref p0, .bl true] r = some b ∧ nameB b = false ∧ ∀ H' : Hp, H' p0 = some (.lst []) → thing H' b := by
          obtain ⟨b1, b2, b3, b4, b5, b6, b7, b8⟩ := bad_names
          have hcases : r = 0 ∨ r = 1 ∨ r = 2 ∨ r = 3 ∨ r = 4 ∨ r = 5 ∨ r = 6 ∨ r = 7 := by omega
          rcases hcases with rfl | rfl | rfl | rfl | rfl | rfl | rfl | rfl
          · exact ⟨_, rfl, b1, fun _ _ => .inl rfl⟩
          · exact ⟨_, rfl, b2, fun _ _ => .inr (.inr (.inl ⟨5, rfl⟩))⟩
          · exact ⟨_, rfl, b3, fun _ _ => .inr (.inr (.inr (.inl ⟨_, rfl, by decide +kernel⟩)))⟩
          · exact ⟨_, rfl, b4, fun _ _ => .inr (.inr (.inr (.inl ⟨_, rfl, by decide +kernel⟩)))⟩
          · exact ⟨_, rfl, b5, fun _ _ => .inr (.inr (.inr (.inl ⟨_, rfl, by decide +kernel⟩)))⟩
          · exact ⟨_, rfl, b6, fun _ _ => .inr (.inr (.inr (.inl ⟨_, rfl, by decide +kernel⟩)))⟩
          · exact ⟨_, rfl, b7 p0, fun _ h => .inr (.inr (.inr (.inr ⟨p0, rfl, .inl ⟨_, h⟩⟩)))⟩
          · exact ⟨_, rfl, b8, fun _ _ => .inr (.inl ⟨true, rfl⟩)⟩
        refine g_ixL (SqL.of (K37 _ _ n1.1 e1)) hb ?_
        have B37 := B36.step D37 K37
        have e0 := K37 _ _ n0.1 e0
        have n37 := B37.K _ _ hLzd n34
        clear B36 e1 K37 D37
        walk_at "g"
        intro pd hpd
        have npd := B37.D.ne hpd
        have pd0 := B37.K.back npd.1 hpd
        have B38 := B37.new (o := .dK []) hpd
        have n38 := ext_new (o := .dK []) hpd _ _ n37
        have e0 := ext_new (o := .dK []) hpd _ _ e0
        have p38 : (upd H37 pd (.dK [])) pd = some (.dK []) := upd_same
        have ppd : p0 ≠ pd := fun z => by rw [z, p38] at e0; cases e0
        generalize upd H37 pd (.dK []) = H38 at B38 n38 e0 p38
        clear B37 n37 hpd
        refine g_pairs1 ?_
        walk_at "g"
        have hlog : ((zs.map V.str).length : Int).natAbs.log2 < 9000 := by
          have : (((zs.map V.str).length : Nat) : Int).natAbs < 2 ^ 64 := by
            have := nodup_le hnd (xs := fm.cols) fun y hy => (hmem y).mp hy
            rw [List.length_map]
            omega
          exact Nat.lt_of_lt_of_le (PySem.Flt.log2_lt_of (by decide) this) (by decide)
        refine ⟨_, _, _, _, rfl, B38.D, by omega, hlog, fun r5 H39 r50 r51 D39 K39 => ?_⟩
        have B39 := B38.step D39 K39
        have n39 := K39 _ _ hLzd n38
        have e0 := K39 _ _ n0.1 e0
        have p39 := K39 _ _ npd.1 p38
        obtain ⟨j, rfl⟩ := Int.eq_ofNat_of_zero_le r50
        rw [List.length_map] at r51
        obtain ⟨c, hc⟩ : ∃ c, zs[j]? = some c := ⟨_, List.getElem?_eq_getElem (by omega)⟩
        refine g_ixL (SqL.of n39) (v := .str c) (atI_nat (by rw [List.getElem?_map, hc]; rfl)) ?_
        walk_at "g"
        have B40 := B39.put (o := .dK [(Sum.inr c, b)]) pd0 npd.1 npd.2
        refine ⟨p39, [(Sum.inr c, b)], rfl, by show 1 ≤ 15; decide, ?_⟩
        rw [merge1]
        have Z40 := Z34.draw B40.D B40.K hLd
        have hcin : c ∈ fm.ts.cols := by rw [Fm.ts_cols]; exact (hmem c).mp (List.mem_of_getElem? hc)
        walk_at "g"
        refine ⟨tp, fm.ts, _, rfl, Z40.te, .inl ⟨pd, [(Sum.inr c, b)], rfl, upd_same, fun c' hc' => mv_one_thing (hbt _ (by rw [upd_ne ppd]; exact e0)) ?_, hd12, by rw [Fm.ts_cols]; omega, ren_badc (bad_col hbn) hcin⟩, fun H41 x41 => ?_⟩
        · rw [Fm.ts_cols] at hc'
          exact Nat.le_trans (hnm c' (hci c' hc')).2.1 (by decide)
        walk_at "g"
        exact hn1 _ _ ⟨⟨_, rfl⟩, B40.ext x41⟩
      · walk_at "g"
        exact hn1 _ _ ⟨⟨_, rfl⟩, DK.refl Z34.D⟩
    rintro σ' H35 ⟨⟨s21, rfl⟩, B35⟩
    have Z35 := Z34.draw B35.D B35.K hLd
    clear Z34 B35 n34
    walk_at "g"
    refine ⟨q, fm, H35, rfl, fun _ _ h => h, Z35.fo, ⟨cs, hwf⟩, hd12, by omega, fun l as H36 hl x36 e36 hRF => ?_⟩
    have hRF := hRF.mono fun f q h => FormAt.keep x36 h
    have Z36 := Z35.keep x36
    have hal := hRF.len
    clear Z35 x36 hl
    refine ⟨l, rfl, ⟨_, SqL.of e36⟩, for_listA (xs := as.map V.ref) (fun j σ' H' => (∃ s22, σ' = [some (.ref a), some (.ref d), some (.ref L), some (.ref q), some (.ref q2), some (.ref tp), some (.ref tk), some (.ref km), some (.ref kb), some (.ref rr), some (.ref kr), s11', s12, some (.ref bf), some (.ref tf), s15, some (.ref Lz), s17, s18, s19, s20, s21, s22]) ∧ Ext H36 H') ⟨⟨none, rfl⟩, fun _ _ h => h⟩ (fun _ _ _ _ e => SqL.of (e.2 _ _ e36)) ?_ ?_⟩
    · rintro j x σ' H37 D' hj ⟨⟨s22, rfl⟩, x37⟩ hnx hct hbk hrt
      rw [List.getElem?_map] at hj
      obtain ⟨p, hp, rfl⟩ := Option.map_eq_some_iff.mp hj
      obtain ⟨f', hf', hA⟩ := hRF.get hp
      rw [List.getElem?_map] at hf'
      obtain ⟨at', hat, rfl⟩ := Option.map_eq_some_iff.mp hf'
      have hmem' := List.mem_of_getElem? hat
      have hA : AtomForm H37 p at' := AtomForm.keep hA x37
      have Z37 := Z36.keep x37
      by_cases hag : ∃ c op dd n, at' = .against c op dd n
      · obtain ⟨c, op, dd, n, rfl⟩ := hag
        have hA : H37 p = some (.tup [.str "against", .str c, .str op, .str dd, .int n]) := hA
        have hw' := ats_wf hwf _ hmem'
        have hne : dd ≠ c := hw'.2.2.1
        walk_at "g"
        refine g_ixT (SqT.of hA) (v := .str "against") (by rfl) ?_
        walk_at "g"
        refine g_dec (fun _ => ?_) (fun h => absurd rfl h)
        walk_at "g"
        intro pd hpd
        have x38 := ext_new (o := .dK []) hpd
        have A38 := x38 _ _ hA
        refine g_pairs1 ?_
        walk_at "g"
        refine g_ixT (SqT.of A38) (v := .str c) (by rfl) ?_
        walk_at "g"
        refine g_ixT (SqT.of A38) (v := .str dd) (by rfl) ?_
        refine ⟨upd_same, [(Sum.inr c, .str dd)], rfl, by show 1 ≤ 15; decide, ?_⟩
        rw [merge1, upd2]
        have x39 := ext_new (o := .dK [(Sum.inr c, .str dd)]) hpd
        have Z39 := Z37.keep x39
        have lenN : ∀ {c : Str}, nameP c → c.length ≤ 100 := fun h => Nat.le_trans h.2.1 (by decide)
        walk_at "g"
        refine ⟨tp, fm.ts, _, rfl, Z39.te, .inl ⟨pd, [(Sum.inr c, .str dd)], rfl, upd_same, fun c' hc' => mv_one_thing (strT hw'.2.1) ?_, hd12, by rw [Fm.ts_cols]; omega, ren_bad (bad_pair hne) (against_atom hmem')⟩, fun H40 x40 => ?_⟩
        · rw [Fm.ts_cols] at hc'
          exact lenN (hnm c' (hci c' hc'))
        walk_at "g"
        exact hnx _ _ ⟨⟨_, rfl⟩, fun b o h => x40 _ _ (x39 _ _ (x37 _ _ h))⟩
      · obtain ⟨rr', hA'⟩ := form_word hA
        have hnw := not_against (a := at') fun c op dd n e => hag ⟨c, op, dd, n, e⟩
        walk_at "g"
        refine g_ixT (SqT.of hA') (v := .str at'.word) (atI_nat (j := 0) rfl) ?_
        walk_at "g"
        refine g_dec (fun h => absurd h hnw) (fun _ => ?_)
        walk_at "g"
        exact hnx _ _ ⟨⟨_, rfl⟩, x37⟩
    rintro σ' H37 ⟨⟨s22, rfl⟩, x37⟩
    have Z37 := Z36.keep x37
    clear Z36 x37 hRF e36
    walk_at "g"
    refine ⟨by show 0 ≤ sizeLine; decide, fun p0 hp0 => ?_⟩
    have n0 := Z37.D.ne hp0
    have Z38 := Z37.keep (ext_new (o := .lst []) hp0)
    have e0 : (upd H37 p0 (.lst [])) p0 = some (.lst []) := upd_same
    generalize upd H37 p0 (.lst []) = H38 at Z38 e0
    walk_at "g"
    refine ⟨by show 0 ≤ sizeLine; decide, fun p1 hp1 => ?_⟩
    have n1 := Z38.D.ne hp1
    have Z39 := Z38.keep (ext_new (o := .tup []) hp1)
    have e0 := ext_new (o := .tup []) hp1 _ _ e0
    have e1 : (upd H38 p1 (.tup [])) p1 = some (.tup []) := upd_same
    generalize upd H38 p1 (.tup []) = H39 at Z39 e0 e1
    walk_at "g"
    refine ⟨by show 5 ≤ sizeLine; decide, fun p2 hp2 => ?_⟩
    have n2 := Z39.D.ne hp2
    have Z40 := Z39.keep (ext_new (o := .lst [.non, .int 5, .ref p0, .str "ab", .ref p1]) hp2)
    have e0 := ext_new (o := .lst [.non, .int 5, .ref p0, .str "ab", .ref p1]) hp2 _ _ e0
    have e1 := ext_new (o := .lst [.non, .int 5, .ref p0, .str "ab", .ref p1]) hp2 _ _ e1
    have e2 : (upd H39 p2 (.lst [.non, .int 5, .ref p0, .str "ab", .ref p1])) p2 = some (.lst [.non, .int 5, .ref p0, .str "ab", .ref p1]) := upd_same
    have eq0 : upd H39 p2 (.lst [.non, .int 5, .ref p0, .str (Str.ofString "ab"), .ref p1]) = upd H39 p2 (.lst [.non, .int 5, .ref p0, .str "ab", .ref p1]) := rfl
    rw [eq0]
    generalize upd H39 p2 (.lst [.non, .int 5, .ref p0, .str "ab", .ref p1]) = H40 at Z40 e0 e1 e2
    clear Z37 Z38 Z39 eq0
    walk_at "g"
    refine ⟨_, _, _, _, rfl, Z40.D, by decide, by decide +kernel, fun r H41 r0 r1 D41 K41 => ?_⟩
    obtain ⟨b, hb, Tn, hT, ty, hne⟩ : ∃ b, atI [V.non, .int 5, .ref p0, .str "ab", .ref p1] r = some b ∧ ∃ Tn, Tn ∈ kinds7 ∧ TyOf7 H41 b Tn ∧ Tn ≠ "dict" := by
      have hcases : r = 0 ∨ r = 1 ∨ r = 2 ∨ r = 3 ∨ r = 4 := by omega
      rcases hcases with rfl | rfl | rfl | rfl | rfl
      · exact ⟨_, rfl, _, by decide, .non, by decide⟩
      · exact ⟨_, rfl, _, by decide, .int 5, by decide⟩
      · exact ⟨_, rfl, _, by decide, .lst (K41 _ _ n0.1 e0), by decide⟩
      · exact ⟨_, rfl, _, by decide, .str _, by decide⟩
      · exact ⟨_, rfl, _, by decide, .tup (K41 _ _ n1.1 e1), by decide⟩
    refine g_ixL (SqL.of (K41 _ _ n2.1 e2)) hb ?_
    walk_at "g"
    refine ⟨tp, fm.ts, b, rfl, (Z40.draw D41 K41 hLd).te, .inr ⟨Tn, hT, ty, hne⟩, fun H42 x42 => ?_⟩
    walk_at "g"
    exact k _
end
theorem kitSelf {K : PySem.W.Frag} {C : Addr} : PySem.W.kitOne K (.ref C) (.ref C) = some true := by
  unfold PySem.W.kitOne
  rw [if_pos (beq_self_eq_true _)]
theorem kitNo {K : PySem.W.Frag} {C : Addr} {T : String} (h2 : PySem.W.isClsIn K C = true) (h3 : PySem.W.typeIn K (.ref C) = some (.type "type")) (h4 : PySem.W.subIn K (.type T) (.ref C) = some false) : PySem.W.kitOne K (.type T) (.ref C) = some false := by
  have e1 : ¬ (Value.type T == Value.ref C) = true := fun z => nomatch (beq_iff_eq.mp z)
  have e2 : ((PySem.W.clsIn K C).isSome && PySem.W.typeIn K (.ref C) == some (.type "type")) = true := by
    have h2' : (PySem.W.clsIn K C).isSome = true := h2
    rw [h2', h3] <;> rfl
  show (if (Value.type T == Value.ref C) = true then some true else (if ((PySem.W.clsIn K C).isSome && PySem.W.typeIn K (.ref C) == some (.type "type")) = true then PySem.W.subIn K (.type T) (.ref C) else none)) = some false
  rw [if_neg e1, if_pos e2]
  exact h4
theorem kitOwnT {K : PySem.W.Frag} {C R : Addr} (h2 : PySem.W.isClsIn K R = true) (h3 : PySem.W.typeIn K (.ref R) = some (.type "type")) (h4 : PySem.W.subIn K (.ref C) (.ref R) = some true) : PySem.W.kitOne K (.ref C) (.ref R) = some true := by
  have e2 : ((PySem.W.clsIn K R).isSome && PySem.W.typeIn K (.ref R) == some (.type "type")) = true := by
    have h2' : (PySem.W.clsIn K R).isSome = true := h2
    rw [h2', h3] <;> rfl
  show (if (Value.ref C == Value.ref R) = true then some true else (if ((PySem.W.clsIn K R).isSome && PySem.W.typeIn K (.ref R) == some (.type "type")) = true then PySem.W.subIn K (.ref C) (.ref R) else none)) = some true
  by_cases e1 : (Value.ref C == Value.ref R) = true
  · rw [if_pos e1]
  · rw [if_neg e1, if_pos e2]
    exact h4
theorem kitOwn {K : PySem.W.Frag} {C R : Addr} (h1 : PySem.W.subIn K (.ref C) (.ref C) = some true) (h2 : PySem.W.isClsIn K R = true) (h3 : PySem.W.typeIn K (.ref R) = some (.type "type")) (h4 : PySem.W.subIn K (.ref C) (.ref R) = some false) : PySem.W.kitOne K (.ref C) (.ref R) = some false := by
  have e2 : ((PySem.W.clsIn K R).isSome && PySem.W.typeIn K (.ref R) == some (.type "type")) = true := by
    have h2' : (PySem.W.clsIn K R).isSome = true := h2
    rw [h2', h3] <;> rfl
  show (if (Value.ref C == Value.ref R) = true then some true else (if ((PySem.W.clsIn K R).isSome && PySem.W.typeIn K (.ref R) == some (.type "type")) = true then PySem.W.subIn K (.ref C) (.ref R) else none)) = some false
  rw [if_neg (fun e => by
    have e' : C = R := Value.ref.inj (beq_iff_eq.mp e)
    rw [e'] at h1 h4
    rw [h1] at h4
    cases h4), if_pos e2]
  exact h4
theorem exmSelf {K : PySem.W.Frag} {S : Addr} (h1 : PySem.W.subIn K (.ref S) (.type "BaseException") = some true) (h2 : PySem.W.isClsIn K S = true) (h3 : PySem.W.typeIn K (.ref S) = some (.type "type")) (h4 : PySem.W.subIn K (.ref S) (.ref S) = some true) : PySem.W.exmOne K (.ref S) (.ref S) = some true := by
  have e1 : (PySem.W.subIn K (.ref S) (.type "BaseException") == some true) = true := by rw [h1] <;> rfl
  have e2 : ((PySem.W.clsIn K S).isSome && PySem.W.typeIn K (.ref S) == some (.type "type")) = true := by
    have h2' : (PySem.W.clsIn K S).isSome = true := h2
    rw [h2', h3] <;> rfl
  show (if (PySem.W.subIn K (.ref S) (.type "BaseException") == some true) = true then (if ((PySem.W.clsIn K S).isSome && PySem.W.typeIn K (.ref S) == some (.type "type")) = true then PySem.W.subIn K (.ref S) (.ref S) else none) else none) = some true
  rw [if_pos e1, if_pos e2]
  exact h4
theorem all_mk {l : PySem.W.OpenLaw} {w : World} {K : PySem.W.Frag} {h : Heap} {mg : Str → Option Value} {fa f_is_integer f_is_sequence f_is_text f_is_name f_kind_of f_Test_init f_Test_atoms f_Test_names f_Test_renamed f_Test_truth f_Test_and f_Test_or f_Test_invert f_Test_eq f_size_of f_depth_of f_combined f_need_column f_need_op f_need_values f_compare f_against f_among f_begins f_empty f_always f_never f_sure f_renamed_by f_and_truth f_or_truth f_not_truth f_combined_truth f_truth_at f_atom_truth f_values_truth f_moved f_related f__law_begin f__law_take f__law_is_truth f__law_chars f__law_number f__law_text f__law_value f__law_name f__law_columns f__law_atom f__law_wrapped f__law_form f__law_make f__law_compared f__law_atom_truth f__law_joined f__law_truth f__law_atoms f__law_atom_names f__law_names f__law_row f__law_thing f__law_op f__law_flag f__law_replaced f__law_second f__law_moved f__law_refuses f_law : Addr} {c_Test : Addr} {c_BadRow feBadRow : Addr} {c_BadTest feBadTest : Addr} (X : K.In h) (G : h.Ns mainGlobals mg) (hfa : mg "law" = some (.ref fa))
    {od_is_integer an_is_integer : Option Addr} {sl_is_integer : Array (Option Value)} {oc_is_integer kV_is_integer dc_is_integer pm_is_integer cd_is_integer ct_is_integer : Value}
    {od_is_sequence an_is_sequence : Option Addr} {sl_is_sequence : Array (Option Value)} {oc_is_sequence kV_is_sequence dc_is_sequence pm_is_sequence cd_is_sequence ct_is_sequence : Value}
    {od_is_text an_is_text : Option Addr} {sl_is_text : Array (Option Value)} {oc_is_text kV_is_text dc_is_text pm_is_text cd_is_text ct_is_text : Value}
    {od_is_name an_is_name : Option Addr} {sl_is_name : Array (Option Value)} {oc_is_name kV_is_name dc_is_name pm_is_name cd_is_name ct_is_name : Value}
    {od_kind_of an_kind_of : Option Addr} {sl_kind_of : Array (Option Value)} {oc_kind_of kV_kind_of dc_kind_of pm_kind_of cd_kind_of ct_kind_of : Value}
    {od_Test_init an_Test_init : Option Addr} {sl_Test_init : Array (Option Value)} {oc_Test_init kV_Test_init dc_Test_init pm_Test_init cd_Test_init ct_Test_init : Value}
    {od_Test_atoms an_Test_atoms : Option Addr} {sl_Test_atoms : Array (Option Value)} {oc_Test_atoms kV_Test_atoms dc_Test_atoms pm_Test_atoms cd_Test_atoms ct_Test_atoms : Value}
    {od_Test_names an_Test_names : Option Addr} {sl_Test_names : Array (Option Value)} {oc_Test_names kV_Test_names dc_Test_names pm_Test_names cd_Test_names ct_Test_names : Value}
    {od_Test_renamed an_Test_renamed : Option Addr} {sl_Test_renamed : Array (Option Value)} {oc_Test_renamed kV_Test_renamed dc_Test_renamed pm_Test_renamed cd_Test_renamed ct_Test_renamed : Value}
    {od_Test_truth an_Test_truth : Option Addr} {sl_Test_truth : Array (Option Value)} {oc_Test_truth kV_Test_truth dc_Test_truth pm_Test_truth cd_Test_truth ct_Test_truth : Value}
    {od_Test_and an_Test_and : Option Addr} {sl_Test_and : Array (Option Value)} {oc_Test_and kV_Test_and dc_Test_and pm_Test_and cd_Test_and ct_Test_and : Value}
    {od_Test_or an_Test_or : Option Addr} {sl_Test_or : Array (Option Value)} {oc_Test_or kV_Test_or dc_Test_or pm_Test_or cd_Test_or ct_Test_or : Value}
    {od_Test_invert an_Test_invert : Option Addr} {sl_Test_invert : Array (Option Value)} {oc_Test_invert kV_Test_invert dc_Test_invert pm_Test_invert cd_Test_invert ct_Test_invert : Value}
    {od_Test_eq an_Test_eq : Option Addr} {sl_Test_eq : Array (Option Value)} {oc_Test_eq kV_Test_eq dc_Test_eq pm_Test_eq cd_Test_eq ct_Test_eq : Value}
    {od_size_of an_size_of : Option Addr} {sl_size_of : Array (Option Value)} {oc_size_of kV_size_of dc_size_of pm_size_of cd_size_of ct_size_of : Value}
    {od_depth_of an_depth_of : Option Addr} {sl_depth_of : Array (Option Value)} {oc_depth_of kV_depth_of dc_depth_of pm_depth_of cd_depth_of ct_depth_of : Value}
    {od_combined an_combined : Option Addr} {sl_combined : Array (Option Value)} {oc_combined kV_combined dc_combined pm_combined cd_combined ct_combined : Value}
    {od_need_column an_need_column : Option Addr} {sl_need_column : Array (Option Value)} {oc_need_column kV_need_column dc_need_column pm_need_column cd_need_column ct_need_column : Value}
    {od_need_op an_need_op : Option Addr} {sl_need_op : Array (Option Value)} {oc_need_op kV_need_op dc_need_op pm_need_op cd_need_op ct_need_op : Value}
    {od_need_values an_need_values : Option Addr} {sl_need_values : Array (Option Value)} {oc_need_values kV_need_values dc_need_values pm_need_values cd_need_values ct_need_values : Value}
    {od_compare an_compare : Option Addr} {sl_compare : Array (Option Value)} {oc_compare kV_compare dc_compare pm_compare cd_compare ct_compare : Value}
    {od_against an_against : Option Addr} {sl_against : Array (Option Value)} {oc_against dc_against pm_against cd_against ct_against : Value}
    {od_among an_among : Option Addr} {sl_among : Array (Option Value)} {oc_among kV_among dc_among pm_among cd_among ct_among : Value}
    {od_begins an_begins : Option Addr} {sl_begins : Array (Option Value)} {oc_begins kV_begins dc_begins pm_begins cd_begins ct_begins : Value}
    {od_empty an_empty : Option Addr} {sl_empty : Array (Option Value)} {oc_empty kV_empty dc_empty pm_empty cd_empty ct_empty : Value}
    {od_always an_always : Option Addr} {sl_always : Array (Option Value)} {oc_always kV_always dc_always pm_always cd_always ct_always : Value}
    {od_never an_never : Option Addr} {sl_never : Array (Option Value)} {oc_never kV_never dc_never pm_never cd_never ct_never : Value}
    {od_sure an_sure : Option Addr} {sl_sure : Array (Option Value)} {oc_sure kV_sure dc_sure pm_sure cd_sure ct_sure : Value}
    {od_renamed_by an_renamed_by : Option Addr} {sl_renamed_by : Array (Option Value)} {oc_renamed_by kV_renamed_by dc_renamed_by pm_renamed_by cd_renamed_by ct_renamed_by : Value}
    {od_and_truth an_and_truth : Option Addr} {sl_and_truth : Array (Option Value)} {oc_and_truth kV_and_truth dc_and_truth pm_and_truth cd_and_truth ct_and_truth : Value}
    {od_or_truth an_or_truth : Option Addr} {sl_or_truth : Array (Option Value)} {oc_or_truth kV_or_truth dc_or_truth pm_or_truth cd_or_truth ct_or_truth : Value}
    {od_not_truth an_not_truth : Option Addr} {sl_not_truth : Array (Option Value)} {oc_not_truth kV_not_truth dc_not_truth pm_not_truth cd_not_truth ct_not_truth : Value}
    {od_combined_truth an_combined_truth : Option Addr} {sl_combined_truth : Array (Option Value)} {oc_combined_truth kV_combined_truth dc_combined_truth pm_combined_truth cd_combined_truth ct_combined_truth : Value}
    {od_truth_at an_truth_at : Option Addr} {sl_truth_at : Array (Option Value)} {oc_truth_at kV_truth_at dc_truth_at pm_truth_at cd_truth_at ct_truth_at : Value}
    {od_atom_truth an_atom_truth : Option Addr} {sl_atom_truth : Array (Option Value)} {oc_atom_truth kV_atom_truth dc_atom_truth pm_atom_truth cd_atom_truth ct_atom_truth : Value}
    {od_values_truth an_values_truth : Option Addr} {sl_values_truth : Array (Option Value)} {oc_values_truth kV_values_truth dc_values_truth pm_values_truth cd_values_truth ct_values_truth : Value}
    {od_moved an_moved : Option Addr} {sl_moved : Array (Option Value)} {oc_moved kV_moved dc_moved pm_moved cd_moved ct_moved : Value}
    {od_related an_related : Option Addr} {sl_related : Array (Option Value)} {oc_related kV_related dc_related pm_related cd_related ct_related : Value}
    {od__law_begin an__law_begin : Option Addr} {sl__law_begin : Array (Option Value)} {oc__law_begin kV__law_begin dc__law_begin pm__law_begin cd__law_begin ct__law_begin : Value}
    {od__law_take an__law_take : Option Addr} {sl__law_take : Array (Option Value)} {oc__law_take kV__law_take dc__law_take pm__law_take cd__law_take ct__law_take : Value}
    {od__law_is_truth an__law_is_truth : Option Addr} {sl__law_is_truth : Array (Option Value)} {oc__law_is_truth kV__law_is_truth dc__law_is_truth pm__law_is_truth cd__law_is_truth ct__law_is_truth : Value}
    {od__law_chars an__law_chars : Option Addr} {sl__law_chars : Array (Option Value)} {oc__law_chars kV__law_chars dc__law_chars pm__law_chars cd__law_chars ct__law_chars : Value}
    {od__law_number an__law_number : Option Addr} {sl__law_number : Array (Option Value)} {oc__law_number kV__law_number dc__law_number pm__law_number cd__law_number ct__law_number : Value}
    {od__law_text an__law_text : Option Addr} {sl__law_text : Array (Option Value)} {oc__law_text kV__law_text dc__law_text pm__law_text cd__law_text ct__law_text : Value}
    {od__law_value an__law_value : Option Addr} {sl__law_value : Array (Option Value)} {oc__law_value kV__law_value dc__law_value pm__law_value cd__law_value ct__law_value : Value}
    {od__law_name an__law_name : Option Addr} {sl__law_name : Array (Option Value)} {oc__law_name kV__law_name dc__law_name pm__law_name cd__law_name ct__law_name : Value}
    {od__law_columns an__law_columns : Option Addr} {sl__law_columns : Array (Option Value)} {oc__law_columns kV__law_columns dc__law_columns pm__law_columns cd__law_columns ct__law_columns : Value}
    {od__law_atom an__law_atom : Option Addr} {sl__law_atom : Array (Option Value)} {oc__law_atom kV__law_atom dc__law_atom pm__law_atom cd__law_atom ct__law_atom : Value}
    {od__law_wrapped an__law_wrapped : Option Addr} {sl__law_wrapped : Array (Option Value)} {oc__law_wrapped kV__law_wrapped dc__law_wrapped pm__law_wrapped cd__law_wrapped ct__law_wrapped : Value}
    {od__law_form an__law_form : Option Addr} {sl__law_form : Array (Option Value)} {oc__law_form kV__law_form dc__law_form pm__law_form cd__law_form ct__law_form : Value}
    {od__law_make an__law_make : Option Addr} {sl__law_make : Array (Option Value)} {oc__law_make kV__law_make dc__law_make pm__law_make cd__law_make ct__law_make : Value}
    {od__law_compared an__law_compared : Option Addr} {sl__law_compared : Array (Option Value)} {oc__law_compared kV__law_compared dc__law_compared pm__law_compared cd__law_compared ct__law_compared : Value}
    {od__law_atom_truth an__law_atom_truth : Option Addr} {sl__law_atom_truth : Array (Option Value)} {oc__law_atom_truth kV__law_atom_truth dc__law_atom_truth pm__law_atom_truth cd__law_atom_truth ct__law_atom_truth : Value}
    {od__law_joined an__law_joined : Option Addr} {sl__law_joined : Array (Option Value)} {oc__law_joined kV__law_joined dc__law_joined pm__law_joined cd__law_joined ct__law_joined : Value}
    {od__law_truth an__law_truth : Option Addr} {sl__law_truth : Array (Option Value)} {oc__law_truth kV__law_truth dc__law_truth pm__law_truth cd__law_truth ct__law_truth : Value}
    {od__law_atoms an__law_atoms : Option Addr} {sl__law_atoms : Array (Option Value)} {oc__law_atoms kV__law_atoms dc__law_atoms pm__law_atoms cd__law_atoms ct__law_atoms : Value}
    {od__law_atom_names an__law_atom_names : Option Addr} {sl__law_atom_names : Array (Option Value)} {oc__law_atom_names kV__law_atom_names dc__law_atom_names pm__law_atom_names cd__law_atom_names ct__law_atom_names : Value}
    {od__law_names an__law_names : Option Addr} {sl__law_names : Array (Option Value)} {oc__law_names kV__law_names dc__law_names pm__law_names cd__law_names ct__law_names : Value}
    {od__law_row an__law_row : Option Addr} {sl__law_row : Array (Option Value)} {oc__law_row kV__law_row dc__law_row pm__law_row cd__law_row ct__law_row : Value}
    {od__law_thing an__law_thing : Option Addr} {sl__law_thing : Array (Option Value)} {oc__law_thing kV__law_thing dc__law_thing pm__law_thing cd__law_thing ct__law_thing : Value}
    {od__law_op an__law_op : Option Addr} {sl__law_op : Array (Option Value)} {oc__law_op kV__law_op dc__law_op pm__law_op cd__law_op ct__law_op : Value}
    {od__law_flag an__law_flag : Option Addr} {sl__law_flag : Array (Option Value)} {oc__law_flag kV__law_flag dc__law_flag pm__law_flag cd__law_flag ct__law_flag : Value}
    {od__law_replaced an__law_replaced : Option Addr} {sl__law_replaced : Array (Option Value)} {oc__law_replaced kV__law_replaced dc__law_replaced pm__law_replaced cd__law_replaced ct__law_replaced : Value}
    {od__law_second an__law_second : Option Addr} {sl__law_second : Array (Option Value)} {oc__law_second kV__law_second dc__law_second pm__law_second cd__law_second ct__law_second : Value}
    {od__law_moved an__law_moved : Option Addr} {sl__law_moved : Array (Option Value)} {oc__law_moved kV__law_moved dc__law_moved pm__law_moved cd__law_moved ct__law_moved : Value}
    {od__law_refuses an__law_refuses : Option Addr} {sl__law_refuses : Array (Option Value)} {oc__law_refuses kV__law_refuses dc__law_refuses pm__law_refuses cd__law_refuses ct__law_refuses : Value}
    {od_law an_law : Option Addr} {sl_law : Array (Option Value)} {oc_law kV_law dc_law pm_law cd_law ct_law : Value}
    (a_Test : PySem.W.nsIn K mainGlobals "Test" = some (some (.ref c_Test))) (pg_Test : PySem.W.plainGet K c_Test Str.empty = true) (hd_Test : PySem.W.hasDictIn K c_Test = true) (po_Test : PySem.W.plainOver K c_Test = true) (sa_Test : PySem.W.findIn K (.ref c_Test) "__setattr__" = some (some (.builtin "object.__setattr__"))) (mk_Test : PySem.W.makesIn K c_Test = true) (kc_Test : PySem.W.keepIn K (.ref c_Test) = true)
    (sf_Test : PySem.W.selfFirst K c_Test = true)
    (nn_Test : PySem.W.findIn K (.ref c_Test) "__ne__" = some (some (.builtin "object.__ne__"))) (nz_Test : PySem.W.subIn K (.ref c_Test) (.type "object") = some true)
    (nr_Test_and : PySem.W.findIn K (.ref c_Test) (dunderR "and") = some none)
    (nr_Test_or : PySem.W.findIn K (.ref c_Test) (dunderR "or") = some none)
    (ia_Test : PySem.W.findIn K (.ref c_Test) "__class__" = some (some (.builtin "object.__class__"))) (in_Test : PySem.W.specialIn K (.builtin "object.__class__") "__get__" = some (some (.builtin "getset_descriptor.__get__"))) (it_Test : PySem.W.takesIn K (.builtin "object.__class__") = some true) (im_Test : PySem.W.mroIn K c_Test (.type "object") = some true) (io_Test : PySem.W.isClsIn K c_Test = true) (iy_Test : PySem.W.typeIn K (.ref c_Test) = some (.type "type"))
    (iz_Test_NoneType : PySem.W.subIn K (.type "NoneType") (.ref c_Test) = some false)
    (iz_Test_bool : PySem.W.subIn K (.type "bool") (.ref c_Test) = some false)
    (iz_Test_int : PySem.W.subIn K (.type "int") (.ref c_Test) = some false)
    (iz_Test_str : PySem.W.subIn K (.type "str") (.ref c_Test) = some false)
    (iz_Test_list : PySem.W.subIn K (.type "list") (.ref c_Test) = some false)
    (iz_Test_tuple : PySem.W.subIn K (.type "tuple") (.ref c_Test) = some false)
    (iz_Test_dict : PySem.W.subIn K (.type "dict") (.ref c_Test) = some false)
    (n_Test_word : PySem.W.findIn K (.ref c_Test) "word" = some none)
    (n_Test_inner : PySem.W.findIn K (.ref c_Test) "inner" = some none)
    (n_Test_fields : PySem.W.findIn K (.ref c_Test) "fields" = some none)
    (n_Test_terms : PySem.W.findIn K (.ref c_Test) "terms" = some none)
    (n_Test_size : PySem.W.findIn K (.ref c_Test) "size" = some none)
    (n_Test_depth : PySem.W.findIn K (.ref c_Test) "depth" = some none)
    {nm_eBadRow q_eBadRow : Str} {N_eBadRow : Addr} {bs_eBadRow bm_eBadRow : List Value} {sn_eBadRow : List Str} {su_eBadRow : List Value} {ab_eBadRow : Bool} {co_eBadRow : Option Bool} {dd_eBadRow : Option Addr} {m0_eBadRow m1_eBadRow m2_eBadRow m3_eBadRow m5_eBadRow : Option Value} {oc_eBadRow doc_eBadRow pm_eBadRow cd_eBadRow ct_eBadRow : Value} {od_eBadRow an_eBadRow : Option Addr} {sl_eBadRow : Array (Option Value)} {p1_eBadRow p2_eBadRow q1_eBadRow q2_eBadRow q3_eBadRow q4_eBadRow : Pos} {sc_eBadRow : Scope}
    (a_eBadRow : PySem.W.nsIn K mainGlobals "BadRow" = some (some (.ref c_BadRow))) (x_eBadRow : K.lookup c_BadRow = some (excClassObj nm_eBadRow q_eBadRow c_BadRow N_eBadRow bs_eBadRow bm_eBadRow true sn_eBadRow su_eBadRow ab_eBadRow co_eBadRow dd_eBadRow m0_eBadRow m1_eBadRow m2_eBadRow m3_eBadRow m5_eBadRow "Exception.__new__")) (o_eBadRow : PySem.TwX.OwnEx bm_eBadRow) (sa_eBadRow : PySem.W.findIn K (.ref c_BadRow) "__setattr__" = some (some (.builtin "object.__setattr__"))) (ga_eBadRow : PySem.W.findIn K (.ref c_BadRow) "__getattribute__" = some (some (.builtin "BaseException.__getattribute__"))) (gg_eBadRow : PySem.W.findIn K (.ref c_BadRow) "__getattr__" = some none) (nb_eBadRow : PySem.W.findIn K (.ref c_BadRow) "column" = some none) (i_eBadRow : PySem.W.findIn K (.ref c_BadRow) "__init__" = some (some (.ref feBadRow))) (t_eBadRow : PySem.W.typeIn K (.ref feBadRow) = some (.type "function"))
    (l_eBadRow : K.lookup feBadRow = some ⟨oc_eBadRow, od_eBadRow, .func (PySem.W.fnOf "__init__" "BadRow.__init__" (PySem.ErBadRow.inA p1_eBadRow p2_eBadRow) (PySem.ErBadRow.inB q1_eBadRow q2_eBadRow q3_eBadRow q4_eBadRow) sc_eBadRow .none .none doc_eBadRow pm_eBadRow an_eBadRow cd_eBadRow ct_eBadRow), sl_eBadRow⟩) (cc_eBadRow : PySem.W.codeIn K cd_eBadRow "BadRow.__init__" = true) (s1_eBadRow : sc_eBadRow.kind = .function) (s2_eBadRow : sc_eBadRow.names = [(PySem.Str.ofString "self", .local), (PySem.Str.ofString "column", .local)]) (s3_eBadRow : sc_eBadRow.isGenerator = false) (s4_eBadRow : sc_eBadRow.isCoroutine = false)
    (k_eBadRow : PySem.W.keepIn K (.ref c_BadRow) = true) (eC_eBadRow : PySem.W.subIn K (.ref c_BadRow) (.type "BaseException") = some true) (tC_eBadRow : PySem.W.typeIn K (.ref c_BadRow) = some (.type "type")) (hC_eBadRow : PySem.W.hasDictIn K c_BadRow = true) (te_eBadRow : PySem.W.isClsIn K c_BadRow = true) (tf_eBadRow : PySem.W.subIn K (.ref c_BadRow) (.ref c_BadRow) = some true)
    {nm_eBadTest q_eBadTest : Str} {N_eBadTest : Addr} {bs_eBadTest bm_eBadTest : List Value} {sn_eBadTest : List Str} {su_eBadTest : List Value} {ab_eBadTest : Bool} {co_eBadTest : Option Bool} {dd_eBadTest : Option Addr} {m0_eBadTest m1_eBadTest m2_eBadTest m3_eBadTest m5_eBadTest : Option Value} {oc_eBadTest doc_eBadTest pm_eBadTest cd_eBadTest ct_eBadTest : Value} {od_eBadTest an_eBadTest : Option Addr} {sl_eBadTest : Array (Option Value)} {p1_eBadTest p2_eBadTest q1_eBadTest q2_eBadTest q3_eBadTest q4_eBadTest : Pos} {sc_eBadTest : Scope}
    (a_eBadTest : PySem.W.nsIn K mainGlobals "BadTest" = some (some (.ref c_BadTest))) (x_eBadTest : K.lookup c_BadTest = some (excClassObj nm_eBadTest q_eBadTest c_BadTest N_eBadTest bs_eBadTest bm_eBadTest true sn_eBadTest su_eBadTest ab_eBadTest co_eBadTest dd_eBadTest m0_eBadTest m1_eBadTest m2_eBadTest m3_eBadTest m5_eBadTest "Exception.__new__")) (o_eBadTest : PySem.TwX.OwnEx bm_eBadTest) (sa_eBadTest : PySem.W.findIn K (.ref c_BadTest) "__setattr__" = some (some (.builtin "object.__setattr__"))) (ga_eBadTest : PySem.W.findIn K (.ref c_BadTest) "__getattribute__" = some (some (.builtin "BaseException.__getattribute__"))) (gg_eBadTest : PySem.W.findIn K (.ref c_BadTest) "__getattr__" = some none) (nb_eBadTest : PySem.W.findIn K (.ref c_BadTest) "why" = some none) (i_eBadTest : PySem.W.findIn K (.ref c_BadTest) "__init__" = some (some (.ref feBadTest))) (t_eBadTest : PySem.W.typeIn K (.ref feBadTest) = some (.type "function"))
    (l_eBadTest : K.lookup feBadTest = some ⟨oc_eBadTest, od_eBadTest, .func (PySem.W.fnOf "__init__" "BadTest.__init__" (PySem.ErBadTest.inA p1_eBadTest p2_eBadTest) (PySem.ErBadTest.inB q1_eBadTest q2_eBadTest q3_eBadTest q4_eBadTest) sc_eBadTest .none .none doc_eBadTest pm_eBadTest an_eBadTest cd_eBadTest ct_eBadTest), sl_eBadTest⟩) (cc_eBadTest : PySem.W.codeIn K cd_eBadTest "BadTest.__init__" = true) (s1_eBadTest : sc_eBadTest.kind = .function) (s2_eBadTest : sc_eBadTest.names = [(PySem.Str.ofString "self", .local), (PySem.Str.ofString "why", .local)]) (s3_eBadTest : sc_eBadTest.isGenerator = false) (s4_eBadTest : sc_eBadTest.isCoroutine = false)
    (k_eBadTest : PySem.W.keepIn K (.ref c_BadTest) = true) (eC_eBadTest : PySem.W.subIn K (.ref c_BadTest) (.type "BaseException") = some true) (tC_eBadTest : PySem.W.typeIn K (.ref c_BadTest) = some (.type "type")) (hC_eBadTest : PySem.W.hasDictIn K c_BadTest = true) (te_eBadTest : PySem.W.isClsIn K c_BadTest = true) (tf_eBadTest : PySem.W.subIn K (.ref c_BadTest) (.ref c_BadTest) = some true)
    (a_is_integer : PySem.W.nsIn K mainGlobals "is_integer" = some (some (.ref f_is_integer))) (l_is_integer : K.lookup f_is_integer = some ⟨oc_is_integer, od_is_integer, .func (PySem.W.fnOf "is_integer" "is_integer" (defArgs S_is_integer) (defBody S_is_integer) (defScope S_is_integer) .none kV_is_integer dc_is_integer pm_is_integer an_is_integer cd_is_integer ct_is_integer), sl_is_integer⟩) (c_is_integer : PySem.W.codeIn K cd_is_integer "is_integer" = true) (k_is_integer : PySem.W.keepIn K (.ref f_is_integer) = true)
    (a_is_sequence : PySem.W.nsIn K mainGlobals "is_sequence" = some (some (.ref f_is_sequence))) (l_is_sequence : K.lookup f_is_sequence = some ⟨oc_is_sequence, od_is_sequence, .func (PySem.W.fnOf "is_sequence" "is_sequence" (defArgs S_is_sequence) (defBody S_is_sequence) (defScope S_is_sequence) .none kV_is_sequence dc_is_sequence pm_is_sequence an_is_sequence cd_is_sequence ct_is_sequence), sl_is_sequence⟩) (c_is_sequence : PySem.W.codeIn K cd_is_sequence "is_sequence" = true) (k_is_sequence : PySem.W.keepIn K (.ref f_is_sequence) = true)
    (a_is_text : PySem.W.nsIn K mainGlobals "is_text" = some (some (.ref f_is_text))) (l_is_text : K.lookup f_is_text = some ⟨oc_is_text, od_is_text, .func (PySem.W.fnOf "is_text" "is_text" (defArgs S_is_text) (defBody S_is_text) (defScope S_is_text) .none kV_is_text dc_is_text pm_is_text an_is_text cd_is_text ct_is_text), sl_is_text⟩) (c_is_text : PySem.W.codeIn K cd_is_text "is_text" = true) (k_is_text : PySem.W.keepIn K (.ref f_is_text) = true)
    (a_is_name : PySem.W.nsIn K mainGlobals "is_name" = some (some (.ref f_is_name))) (l_is_name : K.lookup f_is_name = some ⟨oc_is_name, od_is_name, .func (PySem.W.fnOf "is_name" "is_name" (defArgs S_is_name) (defBody S_is_name) (defScope S_is_name) .none kV_is_name dc_is_name pm_is_name an_is_name cd_is_name ct_is_name), sl_is_name⟩) (c_is_name : PySem.W.codeIn K cd_is_name "is_name" = true) (k_is_name : PySem.W.keepIn K (.ref f_is_name) = true)
    (a_kind_of : PySem.W.nsIn K mainGlobals "kind_of" = some (some (.ref f_kind_of))) (l_kind_of : K.lookup f_kind_of = some ⟨oc_kind_of, od_kind_of, .func (PySem.W.fnOf "kind_of" "kind_of" (defArgs S_kind_of) (defBody S_kind_of) (defScope S_kind_of) .none kV_kind_of dc_kind_of pm_kind_of an_kind_of cd_kind_of ct_kind_of), sl_kind_of⟩) (c_kind_of : PySem.W.codeIn K cd_kind_of "kind_of" = true) (k_kind_of : PySem.W.keepIn K (.ref f_kind_of) = true)
    (a_Test_init : PySem.W.findIn K (.ref c_Test) "__init__" = some (some (.ref f_Test_init))) (i_Test_init : PySem.W.isFn K (.ref f_Test_init) = true) (l_Test_init : K.lookup f_Test_init = some ⟨oc_Test_init, od_Test_init, .func (PySem.W.fnOf "__init__" "Test.__init__" (defArgs S_Test_init) (defBody S_Test_init) (defScope S_Test_init) .none kV_Test_init dc_Test_init pm_Test_init an_Test_init cd_Test_init ct_Test_init), sl_Test_init⟩) (c_Test_init : PySem.W.codeIn K cd_Test_init "Test.__init__" = true) (k_Test_init : PySem.W.keepIn K (.ref f_Test_init) = true)
    (a_Test_atoms : PySem.W.findIn K (.ref c_Test) "atoms" = some (some (.ref f_Test_atoms))) (i_Test_atoms : PySem.W.isFn K (.ref f_Test_atoms) = true) (l_Test_atoms : K.lookup f_Test_atoms = some ⟨oc_Test_atoms, od_Test_atoms, .func (PySem.W.fnOf "atoms" "Test.atoms" (defArgs S_Test_atoms) (defBody S_Test_atoms) (defScope S_Test_atoms) .none kV_Test_atoms dc_Test_atoms pm_Test_atoms an_Test_atoms cd_Test_atoms ct_Test_atoms), sl_Test_atoms⟩) (c_Test_atoms : PySem.W.codeIn K cd_Test_atoms "Test.atoms" = true) (k_Test_atoms : PySem.W.keepIn K (.ref f_Test_atoms) = true)
    (a_Test_names : PySem.W.findIn K (.ref c_Test) "names" = some (some (.ref f_Test_names))) (i_Test_names : PySem.W.isFn K (.ref f_Test_names) = true) (l_Test_names : K.lookup f_Test_names = some ⟨oc_Test_names, od_Test_names, .func (PySem.W.fnOf "names" "Test.names" (defArgs S_Test_names) (defBody S_Test_names) (defScope S_Test_names) .none kV_Test_names dc_Test_names pm_Test_names an_Test_names cd_Test_names ct_Test_names), sl_Test_names⟩) (c_Test_names : PySem.W.codeIn K cd_Test_names "Test.names" = true) (k_Test_names : PySem.W.keepIn K (.ref f_Test_names) = true)
    (a_Test_renamed : PySem.W.findIn K (.ref c_Test) "renamed" = some (some (.ref f_Test_renamed))) (i_Test_renamed : PySem.W.isFn K (.ref f_Test_renamed) = true) (l_Test_renamed : K.lookup f_Test_renamed = some ⟨oc_Test_renamed, od_Test_renamed, .func (PySem.W.fnOf "renamed" "Test.renamed" (defArgs S_Test_renamed) (defBody S_Test_renamed) (defScope S_Test_renamed) .none kV_Test_renamed dc_Test_renamed pm_Test_renamed an_Test_renamed cd_Test_renamed ct_Test_renamed), sl_Test_renamed⟩) (c_Test_renamed : PySem.W.codeIn K cd_Test_renamed "Test.renamed" = true) (k_Test_renamed : PySem.W.keepIn K (.ref f_Test_renamed) = true)
    (a_Test_truth : PySem.W.findIn K (.ref c_Test) "truth" = some (some (.ref f_Test_truth))) (i_Test_truth : PySem.W.isFn K (.ref f_Test_truth) = true) (l_Test_truth : K.lookup f_Test_truth = some ⟨oc_Test_truth, od_Test_truth, .func (PySem.W.fnOf "truth" "Test.truth" (defArgs S_Test_truth) (defBody S_Test_truth) (defScope S_Test_truth) .none kV_Test_truth dc_Test_truth pm_Test_truth an_Test_truth cd_Test_truth ct_Test_truth), sl_Test_truth⟩) (c_Test_truth : PySem.W.codeIn K cd_Test_truth "Test.truth" = true) (k_Test_truth : PySem.W.keepIn K (.ref f_Test_truth) = true)
    (a_Test_and : PySem.W.findIn K (.ref c_Test) "__and__" = some (some (.ref f_Test_and))) (i_Test_and : PySem.W.isFn K (.ref f_Test_and) = true) (l_Test_and : K.lookup f_Test_and = some ⟨oc_Test_and, od_Test_and, .func (PySem.W.fnOf "__and__" "Test.__and__" (defArgs S_Test_and) (defBody S_Test_and) (defScope S_Test_and) .none kV_Test_and dc_Test_and pm_Test_and an_Test_and cd_Test_and ct_Test_and), sl_Test_and⟩) (c_Test_and : PySem.W.codeIn K cd_Test_and "Test.__and__" = true) (k_Test_and : PySem.W.keepIn K (.ref f_Test_and) = true)
    (a_Test_or : PySem.W.findIn K (.ref c_Test) "__or__" = some (some (.ref f_Test_or))) (i_Test_or : PySem.W.isFn K (.ref f_Test_or) = true) (l_Test_or : K.lookup f_Test_or = some ⟨oc_Test_or, od_Test_or, .func (PySem.W.fnOf "__or__" "Test.__or__" (defArgs S_Test_or) (defBody S_Test_or) (defScope S_Test_or) .none kV_Test_or dc_Test_or pm_Test_or an_Test_or cd_Test_or ct_Test_or), sl_Test_or⟩) (c_Test_or : PySem.W.codeIn K cd_Test_or "Test.__or__" = true) (k_Test_or : PySem.W.keepIn K (.ref f_Test_or) = true)
    (a_Test_invert : PySem.W.findIn K (.ref c_Test) "__invert__" = some (some (.ref f_Test_invert))) (i_Test_invert : PySem.W.isFn K (.ref f_Test_invert) = true) (l_Test_invert : K.lookup f_Test_invert = some ⟨oc_Test_invert, od_Test_invert, .func (PySem.W.fnOf "__invert__" "Test.__invert__" (defArgs S_Test_invert) (defBody S_Test_invert) (defScope S_Test_invert) .none kV_Test_invert dc_Test_invert pm_Test_invert an_Test_invert cd_Test_invert ct_Test_invert), sl_Test_invert⟩) (c_Test_invert : PySem.W.codeIn K cd_Test_invert "Test.__invert__" = true) (k_Test_invert : PySem.W.keepIn K (.ref f_Test_invert) = true)
    (a_Test_eq : PySem.W.findIn K (.ref c_Test) "__eq__" = some (some (.ref f_Test_eq))) (i_Test_eq : PySem.W.isFn K (.ref f_Test_eq) = true) (l_Test_eq : K.lookup f_Test_eq = some ⟨oc_Test_eq, od_Test_eq, .func (PySem.W.fnOf "__eq__" "Test.__eq__" (defArgs S_Test_eq) (defBody S_Test_eq) (defScope S_Test_eq) .none kV_Test_eq dc_Test_eq pm_Test_eq an_Test_eq cd_Test_eq ct_Test_eq), sl_Test_eq⟩) (c_Test_eq : PySem.W.codeIn K cd_Test_eq "Test.__eq__" = true) (k_Test_eq : PySem.W.keepIn K (.ref f_Test_eq) = true)
    (a_size_of : PySem.W.nsIn K mainGlobals "size_of" = some (some (.ref f_size_of))) (l_size_of : K.lookup f_size_of = some ⟨oc_size_of, od_size_of, .func (PySem.W.fnOf "size_of" "size_of" (defArgs S_size_of) (defBody S_size_of) (defScope S_size_of) .none kV_size_of dc_size_of pm_size_of an_size_of cd_size_of ct_size_of), sl_size_of⟩) (c_size_of : PySem.W.codeIn K cd_size_of "size_of" = true) (k_size_of : PySem.W.keepIn K (.ref f_size_of) = true)
    (a_depth_of : PySem.W.nsIn K mainGlobals "depth_of" = some (some (.ref f_depth_of))) (l_depth_of : K.lookup f_depth_of = some ⟨oc_depth_of, od_depth_of, .func (PySem.W.fnOf "depth_of" "depth_of" (defArgs S_depth_of) (defBody S_depth_of) (defScope S_depth_of) .none kV_depth_of dc_depth_of pm_depth_of an_depth_of cd_depth_of ct_depth_of), sl_depth_of⟩) (c_depth_of : PySem.W.codeIn K cd_depth_of "depth_of" = true) (k_depth_of : PySem.W.keepIn K (.ref f_depth_of) = true)
    (a_combined : PySem.W.nsIn K mainGlobals "combined" = some (some (.ref f_combined))) (l_combined : K.lookup f_combined = some ⟨oc_combined, od_combined, .func (PySem.W.fnOf "combined" "combined" (defArgs S_combined) (defBody S_combined) (defScope S_combined) .none kV_combined dc_combined pm_combined an_combined cd_combined ct_combined), sl_combined⟩) (c_combined : PySem.W.codeIn K cd_combined "combined" = true) (k_combined : PySem.W.keepIn K (.ref f_combined) = true)
    (a_need_column : PySem.W.nsIn K mainGlobals "need_column" = some (some (.ref f_need_column))) (l_need_column : K.lookup f_need_column = some ⟨oc_need_column, od_need_column, .func (PySem.W.fnOf "need_column" "need_column" (defArgs S_need_column) (defBody S_need_column) (defScope S_need_column) .none kV_need_column dc_need_column pm_need_column an_need_column cd_need_column ct_need_column), sl_need_column⟩) (c_need_column : PySem.W.codeIn K cd_need_column "need_column" = true) (k_need_column : PySem.W.keepIn K (.ref f_need_column) = true)
    (a_need_op : PySem.W.nsIn K mainGlobals "need_op" = some (some (.ref f_need_op))) (l_need_op : K.lookup f_need_op = some ⟨oc_need_op, od_need_op, .func (PySem.W.fnOf "need_op" "need_op" (defArgs S_need_op) (defBody S_need_op) (defScope S_need_op) .none kV_need_op dc_need_op pm_need_op an_need_op cd_need_op ct_need_op), sl_need_op⟩) (c_need_op : PySem.W.codeIn K cd_need_op "need_op" = true) (k_need_op : PySem.W.keepIn K (.ref f_need_op) = true)
    (a_need_values : PySem.W.nsIn K mainGlobals "need_values" = some (some (.ref f_need_values))) (l_need_values : K.lookup f_need_values = some ⟨oc_need_values, od_need_values, .func (PySem.W.fnOf "need_values" "need_values" (defArgs S_need_values) (defBody S_need_values) (defScope S_need_values) .none kV_need_values dc_need_values pm_need_values an_need_values cd_need_values ct_need_values), sl_need_values⟩) (c_need_values : PySem.W.codeIn K cd_need_values "need_values" = true) (k_need_values : PySem.W.keepIn K (.ref f_need_values) = true)
    (a_compare : PySem.W.nsIn K mainGlobals "compare" = some (some (.ref f_compare))) (l_compare : K.lookup f_compare = some ⟨oc_compare, od_compare, .func (PySem.W.fnOf "compare" "compare" (defArgs S_compare) (defBody S_compare) (defScope S_compare) .none kV_compare dc_compare pm_compare an_compare cd_compare ct_compare), sl_compare⟩) (c_compare : PySem.W.codeIn K cd_compare "compare" = true) (k_compare : PySem.W.keepIn K (.ref f_compare) = true)
    {kD_against : Addr} {kt_against : Tok}
    (a_against : PySem.W.nsIn K mainGlobals "against" = some (some (.ref f_against))) (l_against : K.lookup f_against = some ⟨oc_against, od_against, .func (PySem.W.fnOf "against" "against" (defArgs S_against) (defBody S_against) (defScope S_against) .none (.ref kD_against) dc_against pm_against an_against cd_against ct_against), sl_against⟩) (c_against : PySem.W.codeIn K cd_against "against" = true) (k_against : PySem.W.keepIn K (.ref f_against) = true)
    (kn_against : PySem.W.nsIn K kD_against "more" = some (some (.int 0 kt_against)))
    (a_among : PySem.W.nsIn K mainGlobals "among" = some (some (.ref f_among))) (l_among : K.lookup f_among = some ⟨oc_among, od_among, .func (PySem.W.fnOf "among" "among" (defArgs S_among) (defBody S_among) (defScope S_among) .none kV_among dc_among pm_among an_among cd_among ct_among), sl_among⟩) (c_among : PySem.W.codeIn K cd_among "among" = true) (k_among : PySem.W.keepIn K (.ref f_among) = true)
    (a_begins : PySem.W.nsIn K mainGlobals "begins" = some (some (.ref f_begins))) (l_begins : K.lookup f_begins = some ⟨oc_begins, od_begins, .func (PySem.W.fnOf "begins" "begins" (defArgs S_begins) (defBody S_begins) (defScope S_begins) .none kV_begins dc_begins pm_begins an_begins cd_begins ct_begins), sl_begins⟩) (c_begins : PySem.W.codeIn K cd_begins "begins" = true) (k_begins : PySem.W.keepIn K (.ref f_begins) = true)
    (a_empty : PySem.W.nsIn K mainGlobals "empty" = some (some (.ref f_empty))) (l_empty : K.lookup f_empty = some ⟨oc_empty, od_empty, .func (PySem.W.fnOf "empty" "empty" (defArgs S_empty) (defBody S_empty) (defScope S_empty) .none kV_empty dc_empty pm_empty an_empty cd_empty ct_empty), sl_empty⟩) (c_empty : PySem.W.codeIn K cd_empty "empty" = true) (k_empty : PySem.W.keepIn K (.ref f_empty) = true)
    (a_always : PySem.W.nsIn K mainGlobals "always" = some (some (.ref f_always))) (l_always : K.lookup f_always = some ⟨oc_always, od_always, .func (PySem.W.fnOf "always" "always" (defArgs S_always) (defBody S_always) (defScope S_always) .none kV_always dc_always pm_always an_always cd_always ct_always), sl_always⟩) (c_always : PySem.W.codeIn K cd_always "always" = true) (k_always : PySem.W.keepIn K (.ref f_always) = true)
    (a_never : PySem.W.nsIn K mainGlobals "never" = some (some (.ref f_never))) (l_never : K.lookup f_never = some ⟨oc_never, od_never, .func (PySem.W.fnOf "never" "never" (defArgs S_never) (defBody S_never) (defScope S_never) .none kV_never dc_never pm_never an_never cd_never ct_never), sl_never⟩) (c_never : PySem.W.codeIn K cd_never "never" = true) (k_never : PySem.W.keepIn K (.ref f_never) = true)
    (a_sure : PySem.W.nsIn K mainGlobals "sure" = some (some (.ref f_sure))) (l_sure : K.lookup f_sure = some ⟨oc_sure, od_sure, .func (PySem.W.fnOf "sure" "sure" (defArgs S_sure) (defBody S_sure) (defScope S_sure) .none kV_sure dc_sure pm_sure an_sure cd_sure ct_sure), sl_sure⟩) (c_sure : PySem.W.codeIn K cd_sure "sure" = true) (k_sure : PySem.W.keepIn K (.ref f_sure) = true)
    (a_renamed_by : PySem.W.nsIn K mainGlobals "renamed_by" = some (some (.ref f_renamed_by))) (l_renamed_by : K.lookup f_renamed_by = some ⟨oc_renamed_by, od_renamed_by, .func (PySem.W.fnOf "renamed_by" "renamed_by" (defArgs S_renamed_by) (defBody S_renamed_by) (defScope S_renamed_by) .none kV_renamed_by dc_renamed_by pm_renamed_by an_renamed_by cd_renamed_by ct_renamed_by), sl_renamed_by⟩) (c_renamed_by : PySem.W.codeIn K cd_renamed_by "renamed_by" = true) (k_renamed_by : PySem.W.keepIn K (.ref f_renamed_by) = true)
    (a_and_truth : PySem.W.nsIn K mainGlobals "and_truth" = some (some (.ref f_and_truth))) (l_and_truth : K.lookup f_and_truth = some ⟨oc_and_truth, od_and_truth, .func (PySem.W.fnOf "and_truth" "and_truth" (defArgs S_and_truth) (defBody S_and_truth) (defScope S_and_truth) .none kV_and_truth dc_and_truth pm_and_truth an_and_truth cd_and_truth ct_and_truth), sl_and_truth⟩) (c_and_truth : PySem.W.codeIn K cd_and_truth "and_truth" = true) (k_and_truth : PySem.W.keepIn K (.ref f_and_truth) = true)
    (a_or_truth : PySem.W.nsIn K mainGlobals "or_truth" = some (some (.ref f_or_truth))) (l_or_truth : K.lookup f_or_truth = some ⟨oc_or_truth, od_or_truth, .func (PySem.W.fnOf "or_truth" "or_truth" (defArgs S_or_truth) (defBody S_or_truth) (defScope S_or_truth) .none kV_or_truth dc_or_truth pm_or_truth an_or_truth cd_or_truth ct_or_truth), sl_or_truth⟩) (c_or_truth : PySem.W.codeIn K cd_or_truth "or_truth" = true) (k_or_truth : PySem.W.keepIn K (.ref f_or_truth) = true)
    (a_not_truth : PySem.W.nsIn K mainGlobals "not_truth" = some (some (.ref f_not_truth))) (l_not_truth : K.lookup f_not_truth = some ⟨oc_not_truth, od_not_truth, .func (PySem.W.fnOf "not_truth" "not_truth" (defArgs S_not_truth) (defBody S_not_truth) (defScope S_not_truth) .none kV_not_truth dc_not_truth pm_not_truth an_not_truth cd_not_truth ct_not_truth), sl_not_truth⟩) (c_not_truth : PySem.W.codeIn K cd_not_truth "not_truth" = true) (k_not_truth : PySem.W.keepIn K (.ref f_not_truth) = true)
    (a_combined_truth : PySem.W.nsIn K mainGlobals "combined_truth" = some (some (.ref f_combined_truth))) (l_combined_truth : K.lookup f_combined_truth = some ⟨oc_combined_truth, od_combined_truth, .func (PySem.W.fnOf "combined_truth" "combined_truth" (defArgs S_combined_truth) (defBody S_combined_truth) (defScope S_combined_truth) .none kV_combined_truth dc_combined_truth pm_combined_truth an_combined_truth cd_combined_truth ct_combined_truth), sl_combined_truth⟩) (c_combined_truth : PySem.W.codeIn K cd_combined_truth "combined_truth" = true) (k_combined_truth : PySem.W.keepIn K (.ref f_combined_truth) = true)
    (a_truth_at : PySem.W.nsIn K mainGlobals "truth_at" = some (some (.ref f_truth_at))) (l_truth_at : K.lookup f_truth_at = some ⟨oc_truth_at, od_truth_at, .func (PySem.W.fnOf "truth_at" "truth_at" (defArgs S_truth_at) (defBody S_truth_at) (defScope S_truth_at) .none kV_truth_at dc_truth_at pm_truth_at an_truth_at cd_truth_at ct_truth_at), sl_truth_at⟩) (c_truth_at : PySem.W.codeIn K cd_truth_at "truth_at" = true) (k_truth_at : PySem.W.keepIn K (.ref f_truth_at) = true)
    (a_atom_truth : PySem.W.nsIn K mainGlobals "atom_truth" = some (some (.ref f_atom_truth))) (l_atom_truth : K.lookup f_atom_truth = some ⟨oc_atom_truth, od_atom_truth, .func (PySem.W.fnOf "atom_truth" "atom_truth" (defArgs S_atom_truth) (defBody S_atom_truth) (defScope S_atom_truth) .none kV_atom_truth dc_atom_truth pm_atom_truth an_atom_truth cd_atom_truth ct_atom_truth), sl_atom_truth⟩) (c_atom_truth : PySem.W.codeIn K cd_atom_truth "atom_truth" = true) (k_atom_truth : PySem.W.keepIn K (.ref f_atom_truth) = true)
    (a_values_truth : PySem.W.nsIn K mainGlobals "values_truth" = some (some (.ref f_values_truth))) (l_values_truth : K.lookup f_values_truth = some ⟨oc_values_truth, od_values_truth, .func (PySem.W.fnOf "values_truth" "values_truth" (defArgs S_values_truth) (defBody S_values_truth) (defScope S_values_truth) .none kV_values_truth dc_values_truth pm_values_truth an_values_truth cd_values_truth ct_values_truth), sl_values_truth⟩) (c_values_truth : PySem.W.codeIn K cd_values_truth "values_truth" = true) (k_values_truth : PySem.W.keepIn K (.ref f_values_truth) = true)
    (a_moved : PySem.W.nsIn K mainGlobals "moved" = some (some (.ref f_moved))) (l_moved : K.lookup f_moved = some ⟨oc_moved, od_moved, .func (PySem.W.fnOf "moved" "moved" (defArgs S_moved) (defBody S_moved) (defScope S_moved) .none kV_moved dc_moved pm_moved an_moved cd_moved ct_moved), sl_moved⟩) (c_moved : PySem.W.codeIn K cd_moved "moved" = true) (k_moved : PySem.W.keepIn K (.ref f_moved) = true)
    (a_related : PySem.W.nsIn K mainGlobals "related" = some (some (.ref f_related))) (l_related : K.lookup f_related = some ⟨oc_related, od_related, .func (PySem.W.fnOf "related" "related" (defArgs S_related) (defBody S_related) (defScope S_related) .none kV_related dc_related pm_related an_related cd_related ct_related), sl_related⟩) (c_related : PySem.W.codeIn K cd_related "related" = true) (k_related : PySem.W.keepIn K (.ref f_related) = true)
    (a__law_begin : PySem.W.nsIn K mainGlobals "_law_begin" = some (some (.ref f__law_begin))) (l__law_begin : K.lookup f__law_begin = some ⟨oc__law_begin, od__law_begin, .func (PySem.W.fnOf "_law_begin" "_law_begin" (defArgs S__law_begin) (defBody S__law_begin) (defScope S__law_begin) .none kV__law_begin dc__law_begin pm__law_begin an__law_begin cd__law_begin ct__law_begin), sl__law_begin⟩) (c__law_begin : PySem.W.codeIn K cd__law_begin "_law_begin" = true) (k__law_begin : PySem.W.keepIn K (.ref f__law_begin) = true)
    (a__law_take : PySem.W.nsIn K mainGlobals "_law_take" = some (some (.ref f__law_take))) (l__law_take : K.lookup f__law_take = some ⟨oc__law_take, od__law_take, .func (PySem.W.fnOf "_law_take" "_law_take" (defArgs S__law_take) (defBody S__law_take) (defScope S__law_take) .none kV__law_take dc__law_take pm__law_take an__law_take cd__law_take ct__law_take), sl__law_take⟩) (c__law_take : PySem.W.codeIn K cd__law_take "_law_take" = true) (k__law_take : PySem.W.keepIn K (.ref f__law_take) = true)
    (a__law_is_truth : PySem.W.nsIn K mainGlobals "_law_is_truth" = some (some (.ref f__law_is_truth))) (l__law_is_truth : K.lookup f__law_is_truth = some ⟨oc__law_is_truth, od__law_is_truth, .func (PySem.W.fnOf "_law_is_truth" "_law_is_truth" (defArgs S__law_is_truth) (defBody S__law_is_truth) (defScope S__law_is_truth) .none kV__law_is_truth dc__law_is_truth pm__law_is_truth an__law_is_truth cd__law_is_truth ct__law_is_truth), sl__law_is_truth⟩) (c__law_is_truth : PySem.W.codeIn K cd__law_is_truth "_law_is_truth" = true) (k__law_is_truth : PySem.W.keepIn K (.ref f__law_is_truth) = true)
    (a__law_chars : PySem.W.nsIn K mainGlobals "_law_chars" = some (some (.ref f__law_chars))) (l__law_chars : K.lookup f__law_chars = some ⟨oc__law_chars, od__law_chars, .func (PySem.W.fnOf "_law_chars" "_law_chars" (defArgs S__law_chars) (defBody S__law_chars) (defScope S__law_chars) .none kV__law_chars dc__law_chars pm__law_chars an__law_chars cd__law_chars ct__law_chars), sl__law_chars⟩) (c__law_chars : PySem.W.codeIn K cd__law_chars "_law_chars" = true) (k__law_chars : PySem.W.keepIn K (.ref f__law_chars) = true)
    (a__law_number : PySem.W.nsIn K mainGlobals "_law_number" = some (some (.ref f__law_number))) (l__law_number : K.lookup f__law_number = some ⟨oc__law_number, od__law_number, .func (PySem.W.fnOf "_law_number" "_law_number" (defArgs S__law_number) (defBody S__law_number) (defScope S__law_number) .none kV__law_number dc__law_number pm__law_number an__law_number cd__law_number ct__law_number), sl__law_number⟩) (c__law_number : PySem.W.codeIn K cd__law_number "_law_number" = true) (k__law_number : PySem.W.keepIn K (.ref f__law_number) = true)
    (a__law_text : PySem.W.nsIn K mainGlobals "_law_text" = some (some (.ref f__law_text))) (l__law_text : K.lookup f__law_text = some ⟨oc__law_text, od__law_text, .func (PySem.W.fnOf "_law_text" "_law_text" (defArgs S__law_text) (defBody S__law_text) (defScope S__law_text) .none kV__law_text dc__law_text pm__law_text an__law_text cd__law_text ct__law_text), sl__law_text⟩) (c__law_text : PySem.W.codeIn K cd__law_text "_law_text" = true) (k__law_text : PySem.W.keepIn K (.ref f__law_text) = true)
    (a__law_value : PySem.W.nsIn K mainGlobals "_law_value" = some (some (.ref f__law_value))) (l__law_value : K.lookup f__law_value = some ⟨oc__law_value, od__law_value, .func (PySem.W.fnOf "_law_value" "_law_value" (defArgs S__law_value) (defBody S__law_value) (defScope S__law_value) .none kV__law_value dc__law_value pm__law_value an__law_value cd__law_value ct__law_value), sl__law_value⟩) (c__law_value : PySem.W.codeIn K cd__law_value "_law_value" = true) (k__law_value : PySem.W.keepIn K (.ref f__law_value) = true)
    (a__law_name : PySem.W.nsIn K mainGlobals "_law_name" = some (some (.ref f__law_name))) (l__law_name : K.lookup f__law_name = some ⟨oc__law_name, od__law_name, .func (PySem.W.fnOf "_law_name" "_law_name" (defArgs S__law_name) (defBody S__law_name) (defScope S__law_name) .none kV__law_name dc__law_name pm__law_name an__law_name cd__law_name ct__law_name), sl__law_name⟩) (c__law_name : PySem.W.codeIn K cd__law_name "_law_name" = true) (k__law_name : PySem.W.keepIn K (.ref f__law_name) = true)
    (a__law_columns : PySem.W.nsIn K mainGlobals "_law_columns" = some (some (.ref f__law_columns))) (l__law_columns : K.lookup f__law_columns = some ⟨oc__law_columns, od__law_columns, .func (PySem.W.fnOf "_law_columns" "_law_columns" (defArgs S__law_columns) (defBody S__law_columns) (defScope S__law_columns) .none kV__law_columns dc__law_columns pm__law_columns an__law_columns cd__law_columns ct__law_columns), sl__law_columns⟩) (c__law_columns : PySem.W.codeIn K cd__law_columns "_law_columns" = true) (k__law_columns : PySem.W.keepIn K (.ref f__law_columns) = true)
    (a__law_atom : PySem.W.nsIn K mainGlobals "_law_atom" = some (some (.ref f__law_atom))) (l__law_atom : K.lookup f__law_atom = some ⟨oc__law_atom, od__law_atom, .func (PySem.W.fnOf "_law_atom" "_law_atom" (defArgs S__law_atom) (defBody S__law_atom) (defScope S__law_atom) .none kV__law_atom dc__law_atom pm__law_atom an__law_atom cd__law_atom ct__law_atom), sl__law_atom⟩) (c__law_atom : PySem.W.codeIn K cd__law_atom "_law_atom" = true) (k__law_atom : PySem.W.keepIn K (.ref f__law_atom) = true)
    (a__law_wrapped : PySem.W.nsIn K mainGlobals "_law_wrapped" = some (some (.ref f__law_wrapped))) (l__law_wrapped : K.lookup f__law_wrapped = some ⟨oc__law_wrapped, od__law_wrapped, .func (PySem.W.fnOf "_law_wrapped" "_law_wrapped" (defArgs S__law_wrapped) (defBody S__law_wrapped) (defScope S__law_wrapped) .none kV__law_wrapped dc__law_wrapped pm__law_wrapped an__law_wrapped cd__law_wrapped ct__law_wrapped), sl__law_wrapped⟩) (c__law_wrapped : PySem.W.codeIn K cd__law_wrapped "_law_wrapped" = true) (k__law_wrapped : PySem.W.keepIn K (.ref f__law_wrapped) = true)
    (a__law_form : PySem.W.nsIn K mainGlobals "_law_form" = some (some (.ref f__law_form))) (l__law_form : K.lookup f__law_form = some ⟨oc__law_form, od__law_form, .func (PySem.W.fnOf "_law_form" "_law_form" (defArgs S__law_form) (defBody S__law_form) (defScope S__law_form) .none kV__law_form dc__law_form pm__law_form an__law_form cd__law_form ct__law_form), sl__law_form⟩) (c__law_form : PySem.W.codeIn K cd__law_form "_law_form" = true) (k__law_form : PySem.W.keepIn K (.ref f__law_form) = true)
    (a__law_make : PySem.W.nsIn K mainGlobals "_law_make" = some (some (.ref f__law_make))) (l__law_make : K.lookup f__law_make = some ⟨oc__law_make, od__law_make, .func (PySem.W.fnOf "_law_make" "_law_make" (defArgs S__law_make) (defBody S__law_make) (defScope S__law_make) .none kV__law_make dc__law_make pm__law_make an__law_make cd__law_make ct__law_make), sl__law_make⟩) (c__law_make : PySem.W.codeIn K cd__law_make "_law_make" = true) (k__law_make : PySem.W.keepIn K (.ref f__law_make) = true)
    (a__law_compared : PySem.W.nsIn K mainGlobals "_law_compared" = some (some (.ref f__law_compared))) (l__law_compared : K.lookup f__law_compared = some ⟨oc__law_compared, od__law_compared, .func (PySem.W.fnOf "_law_compared" "_law_compared" (defArgs S__law_compared) (defBody S__law_compared) (defScope S__law_compared) .none kV__law_compared dc__law_compared pm__law_compared an__law_compared cd__law_compared ct__law_compared), sl__law_compared⟩) (c__law_compared : PySem.W.codeIn K cd__law_compared "_law_compared" = true) (k__law_compared : PySem.W.keepIn K (.ref f__law_compared) = true)
    (a__law_atom_truth : PySem.W.nsIn K mainGlobals "_law_atom_truth" = some (some (.ref f__law_atom_truth))) (l__law_atom_truth : K.lookup f__law_atom_truth = some ⟨oc__law_atom_truth, od__law_atom_truth, .func (PySem.W.fnOf "_law_atom_truth" "_law_atom_truth" (defArgs S__law_atom_truth) (defBody S__law_atom_truth) (defScope S__law_atom_truth) .none kV__law_atom_truth dc__law_atom_truth pm__law_atom_truth an__law_atom_truth cd__law_atom_truth ct__law_atom_truth), sl__law_atom_truth⟩) (c__law_atom_truth : PySem.W.codeIn K cd__law_atom_truth "_law_atom_truth" = true) (k__law_atom_truth : PySem.W.keepIn K (.ref f__law_atom_truth) = true)
    (a__law_joined : PySem.W.nsIn K mainGlobals "_law_joined" = some (some (.ref f__law_joined))) (l__law_joined : K.lookup f__law_joined = some ⟨oc__law_joined, od__law_joined, .func (PySem.W.fnOf "_law_joined" "_law_joined" (defArgs S__law_joined) (defBody S__law_joined) (defScope S__law_joined) .none kV__law_joined dc__law_joined pm__law_joined an__law_joined cd__law_joined ct__law_joined), sl__law_joined⟩) (c__law_joined : PySem.W.codeIn K cd__law_joined "_law_joined" = true) (k__law_joined : PySem.W.keepIn K (.ref f__law_joined) = true)
    (a__law_truth : PySem.W.nsIn K mainGlobals "_law_truth" = some (some (.ref f__law_truth))) (l__law_truth : K.lookup f__law_truth = some ⟨oc__law_truth, od__law_truth, .func (PySem.W.fnOf "_law_truth" "_law_truth" (defArgs S__law_truth) (defBody S__law_truth) (defScope S__law_truth) .none kV__law_truth dc__law_truth pm__law_truth an__law_truth cd__law_truth ct__law_truth), sl__law_truth⟩) (c__law_truth : PySem.W.codeIn K cd__law_truth "_law_truth" = true) (k__law_truth : PySem.W.keepIn K (.ref f__law_truth) = true)
    (a__law_atoms : PySem.W.nsIn K mainGlobals "_law_atoms" = some (some (.ref f__law_atoms))) (l__law_atoms : K.lookup f__law_atoms = some ⟨oc__law_atoms, od__law_atoms, .func (PySem.W.fnOf "_law_atoms" "_law_atoms" (defArgs S__law_atoms) (defBody S__law_atoms) (defScope S__law_atoms) .none kV__law_atoms dc__law_atoms pm__law_atoms an__law_atoms cd__law_atoms ct__law_atoms), sl__law_atoms⟩) (c__law_atoms : PySem.W.codeIn K cd__law_atoms "_law_atoms" = true) (k__law_atoms : PySem.W.keepIn K (.ref f__law_atoms) = true)
    (a__law_atom_names : PySem.W.nsIn K mainGlobals "_law_atom_names" = some (some (.ref f__law_atom_names))) (l__law_atom_names : K.lookup f__law_atom_names = some ⟨oc__law_atom_names, od__law_atom_names, .func (PySem.W.fnOf "_law_atom_names" "_law_atom_names" (defArgs S__law_atom_names) (defBody S__law_atom_names) (defScope S__law_atom_names) .none kV__law_atom_names dc__law_atom_names pm__law_atom_names an__law_atom_names cd__law_atom_names ct__law_atom_names), sl__law_atom_names⟩) (c__law_atom_names : PySem.W.codeIn K cd__law_atom_names "_law_atom_names" = true) (k__law_atom_names : PySem.W.keepIn K (.ref f__law_atom_names) = true)
    (a__law_names : PySem.W.nsIn K mainGlobals "_law_names" = some (some (.ref f__law_names))) (l__law_names : K.lookup f__law_names = some ⟨oc__law_names, od__law_names, .func (PySem.W.fnOf "_law_names" "_law_names" (defArgs S__law_names) (defBody S__law_names) (defScope S__law_names) .none kV__law_names dc__law_names pm__law_names an__law_names cd__law_names ct__law_names), sl__law_names⟩) (c__law_names : PySem.W.codeIn K cd__law_names "_law_names" = true) (k__law_names : PySem.W.keepIn K (.ref f__law_names) = true)
    (a__law_row : PySem.W.nsIn K mainGlobals "_law_row" = some (some (.ref f__law_row))) (l__law_row : K.lookup f__law_row = some ⟨oc__law_row, od__law_row, .func (PySem.W.fnOf "_law_row" "_law_row" (defArgs S__law_row) (defBody S__law_row) (defScope S__law_row) .none kV__law_row dc__law_row pm__law_row an__law_row cd__law_row ct__law_row), sl__law_row⟩) (c__law_row : PySem.W.codeIn K cd__law_row "_law_row" = true) (k__law_row : PySem.W.keepIn K (.ref f__law_row) = true)
    (a__law_thing : PySem.W.nsIn K mainGlobals "_law_thing" = some (some (.ref f__law_thing))) (l__law_thing : K.lookup f__law_thing = some ⟨oc__law_thing, od__law_thing, .func (PySem.W.fnOf "_law_thing" "_law_thing" (defArgs S__law_thing) (defBody S__law_thing) (defScope S__law_thing) .none kV__law_thing dc__law_thing pm__law_thing an__law_thing cd__law_thing ct__law_thing), sl__law_thing⟩) (c__law_thing : PySem.W.codeIn K cd__law_thing "_law_thing" = true) (k__law_thing : PySem.W.keepIn K (.ref f__law_thing) = true)
    (a__law_op : PySem.W.nsIn K mainGlobals "_law_op" = some (some (.ref f__law_op))) (l__law_op : K.lookup f__law_op = some ⟨oc__law_op, od__law_op, .func (PySem.W.fnOf "_law_op" "_law_op" (defArgs S__law_op) (defBody S__law_op) (defScope S__law_op) .none kV__law_op dc__law_op pm__law_op an__law_op cd__law_op ct__law_op), sl__law_op⟩) (c__law_op : PySem.W.codeIn K cd__law_op "_law_op" = true) (k__law_op : PySem.W.keepIn K (.ref f__law_op) = true)
    (a__law_flag : PySem.W.nsIn K mainGlobals "_law_flag" = some (some (.ref f__law_flag))) (l__law_flag : K.lookup f__law_flag = some ⟨oc__law_flag, od__law_flag, .func (PySem.W.fnOf "_law_flag" "_law_flag" (defArgs S__law_flag) (defBody S__law_flag) (defScope S__law_flag) .none kV__law_flag dc__law_flag pm__law_flag an__law_flag cd__law_flag ct__law_flag), sl__law_flag⟩) (c__law_flag : PySem.W.codeIn K cd__law_flag "_law_flag" = true) (k__law_flag : PySem.W.keepIn K (.ref f__law_flag) = true)
    (a__law_replaced : PySem.W.nsIn K mainGlobals "_law_replaced" = some (some (.ref f__law_replaced))) (l__law_replaced : K.lookup f__law_replaced = some ⟨oc__law_replaced, od__law_replaced, .func (PySem.W.fnOf "_law_replaced" "_law_replaced" (defArgs S__law_replaced) (defBody S__law_replaced) (defScope S__law_replaced) .none kV__law_replaced dc__law_replaced pm__law_replaced an__law_replaced cd__law_replaced ct__law_replaced), sl__law_replaced⟩) (c__law_replaced : PySem.W.codeIn K cd__law_replaced "_law_replaced" = true) (k__law_replaced : PySem.W.keepIn K (.ref f__law_replaced) = true)
    (a__law_second : PySem.W.nsIn K mainGlobals "_law_second" = some (some (.ref f__law_second))) (l__law_second : K.lookup f__law_second = some ⟨oc__law_second, od__law_second, .func (PySem.W.fnOf "_law_second" "_law_second" (defArgs S__law_second) (defBody S__law_second) (defScope S__law_second) .none kV__law_second dc__law_second pm__law_second an__law_second cd__law_second ct__law_second), sl__law_second⟩) (c__law_second : PySem.W.codeIn K cd__law_second "_law_second" = true) (k__law_second : PySem.W.keepIn K (.ref f__law_second) = true)
    (a__law_moved : PySem.W.nsIn K mainGlobals "_law_moved" = some (some (.ref f__law_moved))) (l__law_moved : K.lookup f__law_moved = some ⟨oc__law_moved, od__law_moved, .func (PySem.W.fnOf "_law_moved" "_law_moved" (defArgs S__law_moved) (defBody S__law_moved) (defScope S__law_moved) .none kV__law_moved dc__law_moved pm__law_moved an__law_moved cd__law_moved ct__law_moved), sl__law_moved⟩) (c__law_moved : PySem.W.codeIn K cd__law_moved "_law_moved" = true) (k__law_moved : PySem.W.keepIn K (.ref f__law_moved) = true)
    (a__law_refuses : PySem.W.nsIn K mainGlobals "_law_refuses" = some (some (.ref f__law_refuses))) (l__law_refuses : K.lookup f__law_refuses = some ⟨oc__law_refuses, od__law_refuses, .func (PySem.W.fnOf "_law_refuses" "_law_refuses" (defArgs S__law_refuses) (defBody S__law_refuses) (defScope S__law_refuses) .none kV__law_refuses dc__law_refuses pm__law_refuses an__law_refuses cd__law_refuses ct__law_refuses), sl__law_refuses⟩) (c__law_refuses : PySem.W.codeIn K cd__law_refuses "_law_refuses" = true) (k__law_refuses : PySem.W.keepIn K (.ref f__law_refuses) = true)
    (a_law : PySem.W.nsIn K mainGlobals "law" = some (some (.ref f_law))) (l_law : K.lookup f_law = some ⟨oc_law, od_law, .func (PySem.W.fnOf "law" "law" (defArgs S_law) (defBody S_law) (defScope S_law) .none kV_law dc_law pm_law an_law cd_law ct_law), sl_law⟩) (c_law : PySem.W.codeIn K cd_law "law" = true) (k_law : PySem.W.keepIn K (.ref f_law) = true)
    (z_isinstance : PySem.W.nsIn K mainGlobals "isinstance" = some none)
    (z_int : PySem.W.nsIn K mainGlobals "int" = some none)
    (z_bool : PySem.W.nsIn K mainGlobals "bool" = some none)
    (z_list : PySem.W.nsIn K mainGlobals "list" = some none)
    (z_tuple : PySem.W.nsIn K mainGlobals "tuple" = some none)
    (z_all : PySem.W.nsIn K mainGlobals "all" = some none)
    (z_str : PySem.W.nsIn K mainGlobals "str" = some none)
    (z_len : PySem.W.nsIn K mainGlobals "len" = some none)
    (z_sorted : PySem.W.nsIn K mainGlobals "sorted" = some none)
    (z_set : PySem.W.nsIn K mainGlobals "set" = some none)
    (z_dict : PySem.W.nsIn K mainGlobals "dict" = some none)
    (z_sum : PySem.W.nsIn K mainGlobals "sum" = some none)
    (z_range : PySem.W.nsIn K mainGlobals "range" = some none)
    {t_SIGNS : Tok} (g_SIGNS : PySem.W.nsIn K mainGlobals "SIGNS" = some (some (.str C_SIGNS t_SIGNS)))
    {t_LONGEST_NAME : Tok} (g_LONGEST_NAME : PySem.W.nsIn K mainGlobals "LONGEST_NAME" = some (some (.int 8 t_LONGEST_NAME)))
    {t_LETTERS : Tok} (g_LETTERS : PySem.W.nsIn K mainGlobals "LETTERS" = some (some (.str C_LETTERS t_LETTERS)))
    {ca_WORDS : Addr} {co_WORDS : Obj} {ci_WORDS : Array Value} {cn_WORDS : Nat} (g_WORDS : PySem.W.nsIn K mainGlobals "WORDS" = some (some (.ref ca_WORDS))) (gl_WORDS : K.lookup ca_WORDS = some co_WORDS) (gc_WORDS : co_WORDS.cls = .type "tuple") (gd_WORDS : co_WORDS.data = .seq ci_WORDS cn_WORDS) (gs_WORDS : ci_WORDS.size ≤ sizeLine) (gv_WORDS : Vals C_WORDS ci_WORDS.toList)
    {t_NAME_SIGNS : Tok} (g_NAME_SIGNS : PySem.W.nsIn K mainGlobals "NAME_SIGNS" = some (some (.str C_NAME_SIGNS t_NAME_SIGNS)))
    {t_MOST_ATOMS : Tok} (g_MOST_ATOMS : PySem.W.nsIn K mainGlobals "MOST_ATOMS" = some (some (.int 24 t_MOST_ATOMS)))
    {t_MOST_LEVELS : Tok} (g_MOST_LEVELS : PySem.W.nsIn K mainGlobals "MOST_LEVELS" = some (some (.int 12 t_MOST_LEVELS)))
    {ca_OPS : Addr} {co_OPS : Obj} {ci_OPS : Array Value} {cn_OPS : Nat} (g_OPS : PySem.W.nsIn K mainGlobals "OPS" = some (some (.ref ca_OPS))) (gl_OPS : K.lookup ca_OPS = some co_OPS) (gc_OPS : co_OPS.cls = .type "tuple") (gd_OPS : co_OPS.data = .seq ci_OPS cn_OPS) (gs_OPS : ci_OPS.size ≤ sizeLine) (gv_OPS : Vals C_OPS ci_OPS.toList)
    {t_MOST_VALUES : Tok} (g_MOST_VALUES : PySem.W.nsIn K mainGlobals "MOST_VALUES" = some (some (.int 8 t_MOST_VALUES)))
    : ∃ fd : FuncData, (∀ (s : Shared) (v : Value), BindsTo s fd ⟨[v], []⟩ [("_law_script", v)]) ∧ ∀ base : Heap, K.In base → base.Ns mainGlobals mg → FnOk l.prog w K mg base CX0 40 fa fd ["_law_script"] (spLaw K) := by
  have e := hfa.symm.trans (PySem.W.mg_of X G a_law)
  cases e
  have hc_Test : cadr mg "Test" = c_Test := cadr_of (PySem.W.mg_of X G a_Test)
  have T : Txt K mg := {
    ne_Test := by rw [hc_Test]; exact ⟨nn_Test, nz_Test⟩
    h_isinstance := PySem.W.mg_none_of X G z_isinstance
    h_int := PySem.W.mg_none_of X G z_int
    h_bool := PySem.W.mg_none_of X G z_bool
    h_list := PySem.W.mg_none_of X G z_list
    h_tuple := PySem.W.mg_none_of X G z_tuple
    h_all := PySem.W.mg_none_of X G z_all
    h_str := PySem.W.mg_none_of X G z_str
    h_len := PySem.W.mg_none_of X G z_len
    h_sorted := PySem.W.mg_none_of X G z_sorted
    h_set := PySem.W.mg_none_of X G z_set
    h_dict := PySem.W.mg_none_of X G z_dict
    h_sum := PySem.W.mg_none_of X G z_sum
    h_range := PySem.W.mg_none_of X G z_range
    d_is_integer := ⟨f_is_integer, _, fun_mk (st := S_is_integer) l_is_integer c_is_integer k_is_integer, PySem.W.mg_of X G a_is_integer, (fun_mk (st := S_is_integer) l_is_integer c_is_integer k_is_integer).binds (ps := ["thing"]) fun _ _ _ _ _ _ us hl => match us, hl with | [_], _ => rfl⟩
    d_is_sequence := ⟨f_is_sequence, _, fun_mk (st := S_is_sequence) l_is_sequence c_is_sequence k_is_sequence, PySem.W.mg_of X G a_is_sequence, (fun_mk (st := S_is_sequence) l_is_sequence c_is_sequence k_is_sequence).binds (ps := ["thing"]) fun _ _ _ _ _ _ us hl => match us, hl with | [_], _ => rfl⟩
    d_is_text := ⟨f_is_text, _, fun_mk (st := S_is_text) l_is_text c_is_text k_is_text, PySem.W.mg_of X G a_is_text, (fun_mk (st := S_is_text) l_is_text c_is_text k_is_text).binds (ps := ["thing"]) fun _ _ _ _ _ _ us hl => match us, hl with | [_], _ => rfl⟩
    d_is_name := ⟨f_is_name, _, fun_mk (st := S_is_name) l_is_name c_is_name k_is_name, PySem.W.mg_of X G a_is_name, (fun_mk (st := S_is_name) l_is_name c_is_name k_is_name).binds (ps := ["thing"]) fun _ _ _ _ _ _ us hl => match us, hl with | [_], _ => rfl⟩
    d_kind_of := ⟨f_kind_of, _, fun_mk (st := S_kind_of) l_kind_of c_kind_of k_kind_of, PySem.W.mg_of X G a_kind_of, (fun_mk (st := S_kind_of) l_kind_of c_kind_of k_kind_of).binds (ps := ["value"]) fun _ _ _ _ _ _ us hl => match us, hl with | [_], _ => rfl⟩
    d_Test_init := by rw [hc_Test]; exact ⟨f_Test_init, _, fun_mk (st := S_Test_init) l_Test_init c_Test_init k_Test_init, ⟨mk_Test, a_Test_init, i_Test_init, kc_Test⟩, (fun_mk (st := S_Test_init) l_Test_init c_Test_init k_Test_init).binds (ps := ["self", "word", "inner", "fields", "terms"]) fun _ _ _ _ _ _ us hl => match us, hl with | [_, _, _, _, _], _ => rfl⟩
    d_Test_atoms := by rw [hc_Test]; exact ⟨f_Test_atoms, _, fun_mk (st := S_Test_atoms) l_Test_atoms c_Test_atoms k_Test_atoms, ⟨a_Test_atoms, i_Test_atoms, k_Test_atoms⟩, (fun_mk (st := S_Test_atoms) l_Test_atoms c_Test_atoms k_Test_atoms).binds (ps := ["self"]) fun _ _ _ _ _ _ us hl => match us, hl with | [_], _ => rfl⟩
    d_Test_names := by rw [hc_Test]; exact ⟨f_Test_names, _, fun_mk (st := S_Test_names) l_Test_names c_Test_names k_Test_names, ⟨a_Test_names, i_Test_names, k_Test_names⟩, (fun_mk (st := S_Test_names) l_Test_names c_Test_names k_Test_names).binds (ps := ["self"]) fun _ _ _ _ _ _ us hl => match us, hl with | [_], _ => rfl⟩
    d_Test_renamed := by rw [hc_Test]; exact ⟨f_Test_renamed, _, fun_mk (st := S_Test_renamed) l_Test_renamed c_Test_renamed k_Test_renamed, ⟨a_Test_renamed, i_Test_renamed, k_Test_renamed⟩, (fun_mk (st := S_Test_renamed) l_Test_renamed c_Test_renamed k_Test_renamed).binds (ps := ["self", "mapping"]) fun _ _ _ _ _ _ us hl => match us, hl with | [_, _], _ => rfl⟩
    d_Test_truth := by rw [hc_Test]; exact ⟨f_Test_truth, _, fun_mk (st := S_Test_truth) l_Test_truth c_Test_truth k_Test_truth, ⟨a_Test_truth, i_Test_truth, k_Test_truth⟩, (fun_mk (st := S_Test_truth) l_Test_truth c_Test_truth k_Test_truth).binds (ps := ["self", "row"]) fun _ _ _ _ _ _ us hl => match us, hl with | [_, _], _ => rfl⟩
    d_Test_and := by rw [hc_Test]; exact ⟨f_Test_and, _, fun_mk (st := S_Test_and) l_Test_and c_Test_and k_Test_and, ⟨a_Test_and, i_Test_and, k_Test_and⟩, (fun_mk (st := S_Test_and) l_Test_and c_Test_and k_Test_and).binds (ps := ["self", "other"]) fun _ _ _ _ _ _ us hl => match us, hl with | [_, _], _ => rfl⟩
    d_Test_or := by rw [hc_Test]; exact ⟨f_Test_or, _, fun_mk (st := S_Test_or) l_Test_or c_Test_or k_Test_or, ⟨a_Test_or, i_Test_or, k_Test_or⟩, (fun_mk (st := S_Test_or) l_Test_or c_Test_or k_Test_or).binds (ps := ["self", "other"]) fun _ _ _ _ _ _ us hl => match us, hl with | [_, _], _ => rfl⟩
    d_Test_invert := by rw [hc_Test]; exact ⟨f_Test_invert, _, fun_mk (st := S_Test_invert) l_Test_invert c_Test_invert k_Test_invert, ⟨a_Test_invert, i_Test_invert, k_Test_invert⟩, (fun_mk (st := S_Test_invert) l_Test_invert c_Test_invert k_Test_invert).binds (ps := ["self"]) fun _ _ _ _ _ _ us hl => match us, hl with | [_], _ => rfl⟩
    d_Test_eq := by rw [hc_Test]; exact ⟨f_Test_eq, _, fun_mk (st := S_Test_eq) l_Test_eq c_Test_eq k_Test_eq, ⟨a_Test_eq, i_Test_eq, k_Test_eq⟩, (fun_mk (st := S_Test_eq) l_Test_eq c_Test_eq k_Test_eq).binds (ps := ["self", "other"]) fun _ _ _ _ _ _ us hl => match us, hl with | [_, _], _ => rfl⟩
    d_size_of := ⟨f_size_of, _, fun_mk (st := S_size_of) l_size_of c_size_of k_size_of, PySem.W.mg_of X G a_size_of, (fun_mk (st := S_size_of) l_size_of c_size_of k_size_of).binds (ps := ["inner"]) fun _ _ _ _ _ _ us hl => match us, hl with | [_], _ => rfl⟩
    d_depth_of := ⟨f_depth_of, _, fun_mk (st := S_depth_of) l_depth_of c_depth_of k_depth_of, PySem.W.mg_of X G a_depth_of, (fun_mk (st := S_depth_of) l_depth_of c_depth_of k_depth_of).binds (ps := ["inner"]) fun _ _ _ _ _ _ us hl => match us, hl with | [_], _ => rfl⟩
    d_combined := ⟨f_combined, _, fun_mk (st := S_combined) l_combined c_combined k_combined, PySem.W.mg_of X G a_combined, (fun_mk (st := S_combined) l_combined c_combined k_combined).binds (ps := ["word", "inner"]) fun _ _ _ _ _ _ us hl => match us, hl with | [_, _], _ => rfl⟩
    d_need_column := ⟨f_need_column, _, fun_mk (st := S_need_column) l_need_column c_need_column k_need_column, PySem.W.mg_of X G a_need_column, (fun_mk (st := S_need_column) l_need_column c_need_column k_need_column).binds (ps := ["thing"]) fun _ _ _ _ _ _ us hl => match us, hl with | [_], _ => rfl⟩
    d_need_op := ⟨f_need_op, _, fun_mk (st := S_need_op) l_need_op c_need_op k_need_op, PySem.W.mg_of X G a_need_op, (fun_mk (st := S_need_op) l_need_op c_need_op k_need_op).binds (ps := ["thing"]) fun _ _ _ _ _ _ us hl => match us, hl with | [_], _ => rfl⟩
    d_need_values := ⟨f_need_values, _, fun_mk (st := S_need_values) l_need_values c_need_values k_need_values, PySem.W.mg_of X G a_need_values, (fun_mk (st := S_need_values) l_need_values c_need_values k_need_values).binds (ps := ["thing"]) fun _ _ _ _ _ _ us hl => match us, hl with | [_], _ => rfl⟩
    d_compare := ⟨f_compare, _, fun_mk (st := S_compare) l_compare c_compare k_compare, PySem.W.mg_of X G a_compare, (fun_mk (st := S_compare) l_compare c_compare k_compare).binds (ps := ["column", "op", "value"]) fun _ _ _ _ _ _ us hl => match us, hl with | [_, _, _], _ => rfl⟩
    d_against := ⟨f_against, _, fun_mk (st := S_against) l_against c_against k_against, PySem.W.mg_of X G a_against, kw_bd rfl kn_against (fun us hl u => match us, hl with | [_, _, _], _ => ⟨_, _, _, _, _, _, rfl, rfl, rfl⟩), kw_kb (fun us hl u => match us, hl with | [_, _, _], _ => rfl)⟩
    d_among := ⟨f_among, _, fun_mk (st := S_among) l_among c_among k_among, PySem.W.mg_of X G a_among, (fun_mk (st := S_among) l_among c_among k_among).binds (ps := ["column", "values"]) fun _ _ _ _ _ _ us hl => match us, hl with | [_, _], _ => rfl⟩
    d_begins := ⟨f_begins, _, fun_mk (st := S_begins) l_begins c_begins k_begins, PySem.W.mg_of X G a_begins, (fun_mk (st := S_begins) l_begins c_begins k_begins).binds (ps := ["column", "prefix"]) fun _ _ _ _ _ _ us hl => match us, hl with | [_, _], _ => rfl⟩
    d_empty := ⟨f_empty, _, fun_mk (st := S_empty) l_empty c_empty k_empty, PySem.W.mg_of X G a_empty, (fun_mk (st := S_empty) l_empty c_empty k_empty).binds (ps := ["column"]) fun _ _ _ _ _ _ us hl => match us, hl with | [_], _ => rfl⟩
    d_always := ⟨f_always, _, fun_mk (st := S_always) l_always c_always k_always, PySem.W.mg_of X G a_always, (fun_mk (st := S_always) l_always c_always k_always).binds (ps := []) fun _ _ _ _ _ _ us hl => match us, hl with | [], _ => rfl⟩
    d_never := ⟨f_never, _, fun_mk (st := S_never) l_never c_never k_never, PySem.W.mg_of X G a_never, (fun_mk (st := S_never) l_never c_never k_never).binds (ps := []) fun _ _ _ _ _ _ us hl => match us, hl with | [], _ => rfl⟩
    d_sure := ⟨f_sure, _, fun_mk (st := S_sure) l_sure c_sure k_sure, PySem.W.mg_of X G a_sure, (fun_mk (st := S_sure) l_sure c_sure k_sure).binds (ps := ["test"]) fun _ _ _ _ _ _ us hl => match us, hl with | [_], _ => rfl⟩
    d_renamed_by := ⟨f_renamed_by, _, fun_mk (st := S_renamed_by) l_renamed_by c_renamed_by k_renamed_by, PySem.W.mg_of X G a_renamed_by, (fun_mk (st := S_renamed_by) l_renamed_by c_renamed_by k_renamed_by).binds (ps := ["test", "mapping"]) fun _ _ _ _ _ _ us hl => match us, hl with | [_, _], _ => rfl⟩
    d_and_truth := ⟨f_and_truth, _, fun_mk (st := S_and_truth) l_and_truth c_and_truth k_and_truth, PySem.W.mg_of X G a_and_truth, (fun_mk (st := S_and_truth) l_and_truth c_and_truth k_and_truth).binds (ps := ["one", "other"]) fun _ _ _ _ _ _ us hl => match us, hl with | [_, _], _ => rfl⟩
    d_or_truth := ⟨f_or_truth, _, fun_mk (st := S_or_truth) l_or_truth c_or_truth k_or_truth, PySem.W.mg_of X G a_or_truth, (fun_mk (st := S_or_truth) l_or_truth c_or_truth k_or_truth).binds (ps := ["one", "other"]) fun _ _ _ _ _ _ us hl => match us, hl with | [_, _], _ => rfl⟩
    d_not_truth := ⟨f_not_truth, _, fun_mk (st := S_not_truth) l_not_truth c_not_truth k_not_truth, PySem.W.mg_of X G a_not_truth, (fun_mk (st := S_not_truth) l_not_truth c_not_truth k_not_truth).binds (ps := ["one"]) fun _ _ _ _ _ _ us hl => match us, hl with | [_], _ => rfl⟩
    d_combined_truth := ⟨f_combined_truth, _, fun_mk (st := S_combined_truth) l_combined_truth c_combined_truth k_combined_truth, PySem.W.mg_of X G a_combined_truth, (fun_mk (st := S_combined_truth) l_combined_truth c_combined_truth k_combined_truth).binds (ps := ["word", "truths"]) fun _ _ _ _ _ _ us hl => match us, hl with | [_, _], _ => rfl⟩
    d_truth_at := ⟨f_truth_at, _, fun_mk (st := S_truth_at) l_truth_at c_truth_at k_truth_at, PySem.W.mg_of X G a_truth_at, (fun_mk (st := S_truth_at) l_truth_at c_truth_at k_truth_at).binds (ps := ["test", "row"]) fun _ _ _ _ _ _ us hl => match us, hl with | [_, _], _ => rfl⟩
    d_atom_truth := ⟨f_atom_truth, _, fun_mk (st := S_atom_truth) l_atom_truth c_atom_truth k_atom_truth, PySem.W.mg_of X G a_atom_truth, (fun_mk (st := S_atom_truth) l_atom_truth c_atom_truth k_atom_truth).binds (ps := ["atom", "row"]) fun _ _ _ _ _ _ us hl => match us, hl with | [_, _], _ => rfl⟩
    d_values_truth := ⟨f_values_truth, _, fun_mk (st := S_values_truth) l_values_truth c_values_truth k_values_truth, PySem.W.mg_of X G a_values_truth, (fun_mk (st := S_values_truth) l_values_truth c_values_truth k_values_truth).binds (ps := ["atom", "held"]) fun _ _ _ _ _ _ us hl => match us, hl with | [_, _], _ => rfl⟩
    d_moved := ⟨f_moved, _, fun_mk (st := S_moved) l_moved c_moved k_moved, PySem.W.mg_of X G a_moved, (fun_mk (st := S_moved) l_moved c_moved k_moved).binds (ps := ["value", "more"]) fun _ _ _ _ _ _ us hl => match us, hl with | [_, _], _ => rfl⟩
    d_related := ⟨f_related, _, fun_mk (st := S_related) l_related c_related k_related, PySem.W.mg_of X G a_related, (fun_mk (st := S_related) l_related c_related k_related).binds (ps := ["one", "op", "other"]) fun _ _ _ _ _ _ us hl => match us, hl with | [_, _, _], _ => rfl⟩
    d__law_begin := ⟨f__law_begin, _, fun_mk (st := S__law_begin) l__law_begin c__law_begin k__law_begin, PySem.W.mg_of X G a__law_begin, (fun_mk (st := S__law_begin) l__law_begin c__law_begin k__law_begin).binds (ps := ["_law_script"]) fun _ _ _ _ _ _ us hl => match us, hl with | [_], _ => rfl⟩
    d__law_take := ⟨f__law_take, _, fun_mk (st := S__law_take) l__law_take c__law_take k__law_take, PySem.W.mg_of X G a__law_take, (fun_mk (st := S__law_take) l__law_take c__law_take k__law_take).binds (ps := ["_law_draw", "_law_many"]) fun _ _ _ _ _ _ us hl => match us, hl with | [_, _], _ => rfl⟩
    d__law_is_truth := ⟨f__law_is_truth, _, fun_mk (st := S__law_is_truth) l__law_is_truth c__law_is_truth k__law_is_truth, PySem.W.mg_of X G a__law_is_truth, (fun_mk (st := S__law_is_truth) l__law_is_truth c__law_is_truth k__law_is_truth).binds (ps := ["_law_thing_here"]) fun _ _ _ _ _ _ us hl => match us, hl with | [_], _ => rfl⟩
    d__law_chars := ⟨f__law_chars, _, fun_mk (st := S__law_chars) l__law_chars c__law_chars k__law_chars, PySem.W.mg_of X G a__law_chars, (fun_mk (st := S__law_chars) l__law_chars c__law_chars k__law_chars).binds (ps := []) fun _ _ _ _ _ _ us hl => match us, hl with | [], _ => rfl⟩
    d__law_number := ⟨f__law_number, _, fun_mk (st := S__law_number) l__law_number c__law_number k__law_number, PySem.W.mg_of X G a__law_number, (fun_mk (st := S__law_number) l__law_number c__law_number k__law_number).binds (ps := ["_law_draw"]) fun _ _ _ _ _ _ us hl => match us, hl with | [_], _ => rfl⟩
    d__law_text := ⟨f__law_text, _, fun_mk (st := S__law_text) l__law_text c__law_text k__law_text, PySem.W.mg_of X G a__law_text, (fun_mk (st := S__law_text) l__law_text c__law_text k__law_text).binds (ps := ["_law_draw"]) fun _ _ _ _ _ _ us hl => match us, hl with | [_], _ => rfl⟩
    d__law_value := ⟨f__law_value, _, fun_mk (st := S__law_value) l__law_value c__law_value k__law_value, PySem.W.mg_of X G a__law_value, (fun_mk (st := S__law_value) l__law_value c__law_value k__law_value).binds (ps := ["_law_draw", "_law_kind"]) fun _ _ _ _ _ _ us hl => match us, hl with | [_, _], _ => rfl⟩
    d__law_name := ⟨f__law_name, _, fun_mk (st := S__law_name) l__law_name c__law_name k__law_name, PySem.W.mg_of X G a__law_name, (fun_mk (st := S__law_name) l__law_name c__law_name k__law_name).binds (ps := ["_law_draw", "_law_taken"]) fun _ _ _ _ _ _ us hl => match us, hl with | [_, _], _ => rfl⟩
    d__law_columns := ⟨f__law_columns, _, fun_mk (st := S__law_columns) l__law_columns c__law_columns k__law_columns, PySem.W.mg_of X G a__law_columns, (fun_mk (st := S__law_columns) l__law_columns c__law_columns k__law_columns).binds (ps := ["_law_draw", "_law_most"]) fun _ _ _ _ _ _ us hl => match us, hl with | [_, _], _ => rfl⟩
    d__law_atom := ⟨f__law_atom, _, fun_mk (st := S__law_atom) l__law_atom c__law_atom k__law_atom, PySem.W.mg_of X G a__law_atom, (fun_mk (st := S__law_atom) l__law_atom c__law_atom k__law_atom).binds (ps := ["_law_draw", "_law_columns_here"]) fun _ _ _ _ _ _ us hl => match us, hl with | [_, _], _ => rfl⟩
    d__law_wrapped := ⟨f__law_wrapped, _, fun_mk (st := S__law_wrapped) l__law_wrapped c__law_wrapped k__law_wrapped, PySem.W.mg_of X G a__law_wrapped, (fun_mk (st := S__law_wrapped) l__law_wrapped c__law_wrapped k__law_wrapped).binds (ps := ["_law_form_here", "_law_choice"]) fun _ _ _ _ _ _ us hl => match us, hl with | [_, _], _ => rfl⟩
    d__law_form := ⟨f__law_form, _, fun_mk (st := S__law_form) l__law_form c__law_form k__law_form, PySem.W.mg_of X G a__law_form, (fun_mk (st := S__law_form) l__law_form c__law_form k__law_form).binds (ps := ["_law_draw", "_law_columns_here", "_law_most"]) fun _ _ _ _ _ _ us hl => match us, hl with | [_, _, _], _ => rfl⟩
    d__law_make := ⟨f__law_make, _, fun_mk (st := S__law_make) l__law_make c__law_make k__law_make, PySem.W.mg_of X G a__law_make, (fun_mk (st := S__law_make) l__law_make c__law_make k__law_make).binds (ps := ["_law_form_here"]) fun _ _ _ _ _ _ us hl => match us, hl with | [_], _ => rfl⟩
    d__law_compared := ⟨f__law_compared, _, fun_mk (st := S__law_compared) l__law_compared c__law_compared k__law_compared, PySem.W.mg_of X G a__law_compared, (fun_mk (st := S__law_compared) l__law_compared c__law_compared k__law_compared).binds (ps := ["_law_one", "_law_op_here", "_law_other"]) fun _ _ _ _ _ _ us hl => match us, hl with | [_, _, _], _ => rfl⟩
    d__law_atom_truth := ⟨f__law_atom_truth, _, fun_mk (st := S__law_atom_truth) l__law_atom_truth c__law_atom_truth k__law_atom_truth, PySem.W.mg_of X G a__law_atom_truth, (fun_mk (st := S__law_atom_truth) l__law_atom_truth c__law_atom_truth k__law_atom_truth).binds (ps := ["_law_form_here", "_law_row_here"]) fun _ _ _ _ _ _ us hl => match us, hl with | [_, _], _ => rfl⟩
    d__law_joined := ⟨f__law_joined, _, fun_mk (st := S__law_joined) l__law_joined c__law_joined k__law_joined, PySem.W.mg_of X G a__law_joined, (fun_mk (st := S__law_joined) l__law_joined c__law_joined k__law_joined).binds (ps := ["_law_word", "_law_one", "_law_other"]) fun _ _ _ _ _ _ us hl => match us, hl with | [_, _, _], _ => rfl⟩
    d__law_truth := ⟨f__law_truth, _, fun_mk (st := S__law_truth) l__law_truth c__law_truth k__law_truth, PySem.W.mg_of X G a__law_truth, (fun_mk (st := S__law_truth) l__law_truth c__law_truth k__law_truth).binds (ps := ["_law_form_here", "_law_row_here"]) fun _ _ _ _ _ _ us hl => match us, hl with | [_, _], _ => rfl⟩
    d__law_atoms := ⟨f__law_atoms, _, fun_mk (st := S__law_atoms) l__law_atoms c__law_atoms k__law_atoms, PySem.W.mg_of X G a__law_atoms, (fun_mk (st := S__law_atoms) l__law_atoms c__law_atoms k__law_atoms).binds (ps := ["_law_form_here"]) fun _ _ _ _ _ _ us hl => match us, hl with | [_], _ => rfl⟩
    d__law_atom_names := ⟨f__law_atom_names, _, fun_mk (st := S__law_atom_names) l__law_atom_names c__law_atom_names k__law_atom_names, PySem.W.mg_of X G a__law_atom_names, (fun_mk (st := S__law_atom_names) l__law_atom_names c__law_atom_names k__law_atom_names).binds (ps := ["_law_atom_here"]) fun _ _ _ _ _ _ us hl => match us, hl with | [_], _ => rfl⟩
    d__law_names := ⟨f__law_names, _, fun_mk (st := S__law_names) l__law_names c__law_names k__law_names, PySem.W.mg_of X G a__law_names, (fun_mk (st := S__law_names) l__law_names c__law_names k__law_names).binds (ps := ["_law_form_here"]) fun _ _ _ _ _ _ us hl => match us, hl with | [_], _ => rfl⟩
    d__law_row := ⟨f__law_row, _, fun_mk (st := S__law_row) l__law_row c__law_row k__law_row, PySem.W.mg_of X G a__law_row, (fun_mk (st := S__law_row) l__law_row c__law_row k__law_row).binds (ps := ["_law_draw", "_law_columns_here"]) fun _ _ _ _ _ _ us hl => match us, hl with | [_, _], _ => rfl⟩
    d__law_thing := ⟨f__law_thing, _, fun_mk (st := S__law_thing) l__law_thing c__law_thing k__law_thing, PySem.W.mg_of X G a__law_thing, (fun_mk (st := S__law_thing) l__law_thing c__law_thing k__law_thing).binds (ps := ["_law_draw"]) fun _ _ _ _ _ _ us hl => match us, hl with | [_], _ => rfl⟩
    d__law_op := ⟨f__law_op, _, fun_mk (st := S__law_op) l__law_op c__law_op k__law_op, PySem.W.mg_of X G a__law_op, (fun_mk (st := S__law_op) l__law_op c__law_op k__law_op).binds (ps := ["_law_draw"]) fun _ _ _ _ _ _ us hl => match us, hl with | [_], _ => rfl⟩
    d__law_flag := ⟨f__law_flag, _, fun_mk (st := S__law_flag) l__law_flag c__law_flag k__law_flag, PySem.W.mg_of X G a__law_flag, (fun_mk (st := S__law_flag) l__law_flag c__law_flag k__law_flag).binds (ps := ["_law_thing_here", "_law_due"]) fun _ _ _ _ _ _ us hl => match us, hl with | [_, _], _ => rfl⟩
    d__law_replaced := ⟨f__law_replaced, _, fun_mk (st := S__law_replaced) l__law_replaced c__law_replaced k__law_replaced, PySem.W.mg_of X G a__law_replaced, (fun_mk (st := S__law_replaced) l__law_replaced c__law_replaced k__law_replaced).binds (ps := ["_law_draw", "_law_form_here", "_law_columns_here"]) fun _ _ _ _ _ _ us hl => match us, hl with | [_, _, _], _ => rfl⟩
    d__law_second := ⟨f__law_second, _, fun_mk (st := S__law_second) l__law_second c__law_second k__law_second, PySem.W.mg_of X G a__law_second, (fun_mk (st := S__law_second) l__law_second c__law_second k__law_second).binds (ps := ["_law_draw", "_law_form_here", "_law_columns_here"]) fun _ _ _ _ _ _ us hl => match us, hl with | [_, _, _], _ => rfl⟩
    d__law_moved := ⟨f__law_moved, _, fun_mk (st := S__law_moved) l__law_moved c__law_moved k__law_moved, PySem.W.mg_of X G a__law_moved, (fun_mk (st := S__law_moved) l__law_moved c__law_moved k__law_moved).binds (ps := ["_law_form_here", "_law_mapping"]) fun _ _ _ _ _ _ us hl => match us, hl with | [_, _], _ => rfl⟩
    d__law_refuses := ⟨f__law_refuses, _, fun_mk (st := S__law_refuses) l__law_refuses c__law_refuses k__law_refuses, PySem.W.mg_of X G a__law_refuses, (fun_mk (st := S__law_refuses) l__law_refuses c__law_refuses k__law_refuses).binds (ps := ["_law_test", "_law_mapping"]) fun _ _ _ _ _ _ us hl => match us, hl with | [_, _], _ => rfl⟩
    x_BadRow := by rw [show cadr mg "BadRow" = c_BadRow from cadr_of (PySem.W.mg_of X G a_eBadRow)]; exact ⟨feBadRow, { gC := PySem.W.mg_of X G a_eBadRow, cls := ⟨_, _, _, _, _, _, _, _, _, _, _, _, _, _, _, x_eBadRow, o_eBadRow⟩, sa := sa_eBadRow, ga := ga_eBadRow, gg := gg_eBadRow, noF := nb_eBadRow, ini := i_eBadRow, tyI := t_eBadRow, kC := k_eBadRow, exC := eC_eBadRow, tyC := tC_eBadRow, hdC := hC_eBadRow, te := exmSelf eC_eBadRow te_eBadRow tC_eBadRow tf_eBadRow, fn := ⟨_, _, _, _, _, _, _, _, _, _, _, _, _, _, _, l_eBadRow, cc_eBadRow, s1_eBadRow, s2_eBadRow, s3_eBadRow, s4_eBadRow⟩ }⟩
    x_BadTest := by rw [show cadr mg "BadTest" = c_BadTest from cadr_of (PySem.W.mg_of X G a_eBadTest)]; exact ⟨feBadTest, { gC := PySem.W.mg_of X G a_eBadTest, cls := ⟨_, _, _, _, _, _, _, _, _, _, _, _, _, _, _, x_eBadTest, o_eBadTest⟩, sa := sa_eBadTest, ga := ga_eBadTest, gg := gg_eBadTest, noF := nb_eBadTest, ini := i_eBadTest, tyI := t_eBadTest, kC := k_eBadTest, exC := eC_eBadTest, tyC := tC_eBadTest, hdC := hC_eBadTest, te := exmSelf eC_eBadTest te_eBadTest tC_eBadTest tf_eBadTest, fn := ⟨_, _, _, _, _, _, _, _, _, _, _, _, _, _, _, l_eBadTest, cc_eBadTest, s1_eBadTest, s2_eBadTest, s3_eBadTest, s4_eBadTest⟩ }⟩
    e_Test := by rw [hc_Test]; exact PySem.W.mg_of X G a_Test
    sf_Test := by rw [hc_Test]; exact sf_Test
    nr_Test_and := by rw [hc_Test]; exact nr_Test_and
    nr_Test_or := by rw [hc_Test]; exact nr_Test_or
    is_Test := by rw [hc_Test]; exact ⟨ia_Test, in_Test, it_Test, im_Test, kitSelf, fun T h => kitNo io_Test iy_Test (by unfold kinds7 at h; simp only [List.mem_cons, List.not_mem_nil, or_false] at h; rcases h with rfl | rfl | rfl | rfl | rfl | rfl | rfl <;> assumption)⟩
    cl_Test := by rw [hc_Test]; exact ⟨pg_Test, hd_Test, po_Test, sa_Test⟩
    n_Test_word := by rw [hc_Test]; exact n_Test_word
    n_Test_inner := by rw [hc_Test]; exact n_Test_inner
    n_Test_fields := by rw [hc_Test]; exact n_Test_fields
    n_Test_terms := by rw [hc_Test]; exact n_Test_terms
    n_Test_size := by rw [hc_Test]; exact n_Test_size
    n_Test_depth := by rw [hc_Test]; exact n_Test_depth
    k_SIGNS := ⟨t_SIGNS, PySem.W.mg_of X G g_SIGNS⟩
    k_LONGEST_NAME := ⟨t_LONGEST_NAME, PySem.W.mg_of X G g_LONGEST_NAME⟩
    k_LETTERS := ⟨t_LETTERS, PySem.W.mg_of X G g_LETTERS⟩
    k_WORDS := ⟨ca_WORDS, PySem.W.mg_of X G g_WORDS, fun _ => Or.inr ⟨co_WORDS, ci_WORDS, cn_WORDS, gl_WORDS, gc_WORDS, gd_WORDS, gs_WORDS, gv_WORDS⟩⟩
    k_NAME_SIGNS := ⟨t_NAME_SIGNS, PySem.W.mg_of X G g_NAME_SIGNS⟩
    k_MOST_ATOMS := ⟨t_MOST_ATOMS, PySem.W.mg_of X G g_MOST_ATOMS⟩
    k_MOST_LEVELS := ⟨t_MOST_LEVELS, PySem.W.mg_of X G g_MOST_LEVELS⟩
    k_OPS := ⟨ca_OPS, PySem.W.mg_of X G g_OPS, fun _ => Or.inr ⟨co_OPS, ci_OPS, cn_OPS, gl_OPS, gc_OPS, gd_OPS, gs_OPS, gv_OPS⟩⟩
    k_MOST_VALUES := ⟨t_MOST_VALUES, PySem.W.mg_of X G g_MOST_VALUES⟩ }
  exact ⟨PySem.W.fnOf "law" "law" (defArgs S_law) (defBody S_law) (defScope S_law) .none kV_law dc_law pm_law an_law cd_law ct_law, fun s v => .of_eq rfl, fun base _ _ => ok_law T (fun_mk (st := S_law) l_law c_law k_law)⟩
theorem walk {l : PySem.W.OpenLaw} {q : Program} {loose : List Str} {XP : (Str → Option Value) → Heap → Prop} {YP : World → Heap → Prop} {d : DefRec} {K : Params → PySem.W.Frag} (hn : l.most = some 63) (hdf : d.params.defaults = [])
    (hY : ∀ (w : World) (h : Heap), YP w h → (K w.params).In h)
    (F : ∀ (w : World) (mg : Str → Option Value) (fa : Addr) (h : Heap), (K w.params).In h → h.Ns mainGlobals mg → mg d.name = some (.ref fa) →
      ∃ fd : FuncData, (∀ (s : Shared) (u : Value), BindsTo s fd ⟨[u], []⟩ [("_law_script", u)]) ∧ ∀ base : Heap, (K w.params).In base → base.Ns mainGlobals mg → FnOk l.prog w (K w.params) mg base CX0 40 fa fd ["_law_script"] (spLaw (K w.params))) :
    PySem.W.WalkO q loose XP YP l.row.toRowW d [] (fun f vs => PySem.call f vs) :=
  L2.walk_of (n := 63) (k := 40) (x := "_law_script") (CX := fun _ => CX0) (sp := fun w => spLaw (K w.params)) hn (by decide) hdf ⟨rfl, by decide, by decide⟩ hY F (fun _ _ a ns hl _ hS => ⟨a, ns, rfl, hS, hl, fun _ => rfl⟩) fun _ _ _ _ _ z => z
end L
open PySem PySem.W PyProof.Rows
set_option maxRecDepth 100000 in
set_option maxHeartbeats 0 in
theorem PySem.Challenge.cw_tworows_k08_equal_and_renamed_holds : PySem.Challenge.rw_tworows_k08_equal_and_renamed.Holds := by
  w_on; o_law; k_head; (case hw => w_witness2)
  k_fill
  refine L.walk (l := PySem.Challenge.rw_tworows_k08_equal_and_renamed) rfl rfl (fun w h Y => PySem.W.kIn_of Y) ?F
  case F =>
    intro w mg fa h KX G hmg
    refine' L.all_mk KX G hmg ?a_Test ?pg_Test ?hd_Test ?po_Test ?sa_Test ?mk_Test ?kc_Test ?sf_Test ?nn_Test ?nz_Test ?nr_Test_and ?nr_Test_or ?ia_Test ?in_Test ?it_Test ?im_Test ?io_Test ?iy_Test ?iz_Test_NoneType ?iz_Test_bool ?iz_Test_int ?iz_Test_str ?iz_Test_list ?iz_Test_tuple ?iz_Test_dict ?n_Test_word ?n_Test_inner ?n_Test_fields ?n_Test_terms ?n_Test_size ?n_Test_depth ?a_eBadRow ?x_eBadRow ?o_eBadRow ?sa_eBadRow ?ga_eBadRow ?gg_eBadRow ?nb_eBadRow ?i_eBadRow ?t_eBadRow ?l_eBadRow ?cc_eBadRow ?s1_eBadRow ?s2_eBadRow ?s3_eBadRow ?s4_eBadRow ?k_eBadRow ?eC_eBadRow ?tC_eBadRow ?hC_eBadRow ?te_eBadRow ?tf_eBadRow ?a_eBadTest ?x_eBadTest ?o_eBadTest ?sa_eBadTest ?ga_eBadTest ?gg_eBadTest ?nb_eBadTest ?i_eBadTest ?t_eBadTest ?l_eBadTest ?cc_eBadTest ?s1_eBadTest ?s2_eBadTest ?s3_eBadTest ?s4_eBadTest ?k_eBadTest ?eC_eBadTest ?tC_eBadTest ?hC_eBadTest ?te_eBadTest ?tf_eBadTest ?a_is_integer ?l_is_integer ?c_is_integer ?k_is_integer ?a_is_sequence ?l_is_sequence ?c_is_sequence ?k_is_sequence ?a_is_text ?l_is_text ?c_is_text ?k_is_text ?a_is_name ?l_is_name ?c_is_name ?k_is_name ?a_kind_of ?l_kind_of ?c_kind_of ?k_kind_of ?a_Test_init ?i_Test_init ?l_Test_init ?c_Test_init ?k_Test_init ?a_Test_atoms ?i_Test_atoms ?l_Test_atoms ?c_Test_atoms ?k_Test_atoms ?a_Test_names ?i_Test_names ?l_Test_names ?c_Test_names ?k_Test_names ?a_Test_renamed ?i_Test_renamed ?l_Test_renamed ?c_Test_renamed ?k_Test_renamed ?a_Test_truth ?i_Test_truth ?l_Test_truth ?c_Test_truth ?k_Test_truth ?a_Test_and ?i_Test_and ?l_Test_and ?c_Test_and ?k_Test_and ?a_Test_or ?i_Test_or ?l_Test_or ?c_Test_or ?k_Test_or ?a_Test_invert ?i_Test_invert ?l_Test_invert ?c_Test_invert ?k_Test_invert ?a_Test_eq ?i_Test_eq ?l_Test_eq ?c_Test_eq ?k_Test_eq ?a_size_of ?l_size_of ?c_size_of ?k_size_of ?a_depth_of ?l_depth_of ?c_depth_of ?k_depth_of ?a_combined ?l_combined ?c_combined ?k_combined ?a_need_column ?l_need_column ?c_need_column ?k_need_column ?a_need_op ?l_need_op ?c_need_op ?k_need_op ?a_need_values ?l_need_values ?c_need_values ?k_need_values ?a_compare ?l_compare ?c_compare ?k_compare ?a_against ?l_against ?c_against ?k_against ?kn_against ?a_among ?l_among ?c_among ?k_among ?a_begins ?l_begins ?c_begins ?k_begins ?a_empty ?l_empty ?c_empty ?k_empty ?a_always ?l_always ?c_always ?k_always ?a_never ?l_never ?c_never ?k_never ?a_sure ?l_sure ?c_sure ?k_sure ?a_renamed_by ?l_renamed_by ?c_renamed_by ?k_renamed_by ?a_and_truth ?l_and_truth ?c_and_truth ?k_and_truth ?a_or_truth ?l_or_truth ?c_or_truth ?k_or_truth ?a_not_truth ?l_not_truth ?c_not_truth ?k_not_truth ?a_combined_truth ?l_combined_truth ?c_combined_truth ?k_combined_truth ?a_truth_at ?l_truth_at ?c_truth_at ?k_truth_at ?a_atom_truth ?l_atom_truth ?c_atom_truth ?k_atom_truth ?a_values_truth ?l_values_truth ?c_values_truth ?k_values_truth ?a_moved ?l_moved ?c_moved ?k_moved ?a_related ?l_related ?c_related ?k_related ?a__law_begin ?l__law_begin ?c__law_begin ?k__law_begin ?a__law_take ?l__law_take ?c__law_take ?k__law_take ?a__law_is_truth ?l__law_is_truth ?c__law_is_truth ?k__law_is_truth ?a__law_chars ?l__law_chars ?c__law_chars ?k__law_chars ?a__law_number ?l__law_number ?c__law_number ?k__law_number ?a__law_text ?l__law_text ?c__law_text ?k__law_text ?a__law_value ?l__law_value ?c__law_value ?k__law_value ?a__law_name ?l__law_name ?c__law_name ?k__law_name ?a__law_columns ?l__law_columns ?c__law_columns ?k__law_columns ?a__law_atom ?l__law_atom ?c__law_atom ?k__law_atom ?a__law_wrapped ?l__law_wrapped ?c__law_wrapped ?k__law_wrapped ?a__law_form ?l__law_form ?c__law_form ?k__law_form ?a__law_make ?l__law_make ?c__law_make ?k__law_make ?a__law_compared ?l__law_compared ?c__law_compared ?k__law_compared ?a__law_atom_truth ?l__law_atom_truth ?c__law_atom_truth ?k__law_atom_truth ?a__law_joined ?l__law_joined ?c__law_joined ?k__law_joined ?a__law_truth ?l__law_truth ?c__law_truth ?k__law_truth ?a__law_atoms ?l__law_atoms ?c__law_atoms ?k__law_atoms ?a__law_atom_names ?l__law_atom_names ?c__law_atom_names ?k__law_atom_names ?a__law_names ?l__law_names ?c__law_names ?k__law_names ?a__law_row ?l__law_row ?c__law_row ?k__law_row ?a__law_thing ?l__law_thing ?c__law_thing ?k__law_thing ?a__law_op ?l__law_op ?c__law_op ?k__law_op ?a__law_flag ?l__law_flag ?c__law_flag ?k__law_flag ?a__law_replaced ?l__law_replaced ?c__law_replaced ?k__law_replaced ?a__law_second ?l__law_second ?c__law_second ?k__law_second ?a__law_moved ?l__law_moved ?c__law_moved ?k__law_moved ?a__law_refuses ?l__law_refuses ?c__law_refuses ?k__law_refuses ?a_law ?l_law ?c_law ?k_law ?z_isinstance ?z_int ?z_bool ?z_list ?z_tuple ?z_all ?z_str ?z_len ?z_sorted ?z_set ?z_dict ?z_sum ?z_range ?g_SIGNS ?g_LONGEST_NAME ?g_LETTERS ?g_WORDS ?gl_WORDS ?gc_WORDS ?gd_WORDS ?gs_WORDS ?gv_WORDS ?g_NAME_SIGNS ?g_MOST_ATOMS ?g_MOST_LEVELS ?g_OPS ?gl_OPS ?gc_OPS ?gd_OPS ?gs_OPS ?gv_OPS ?g_MOST_VALUES
    (case a_Test => k_is)
    (case pg_Test => k_is)
    (case hd_Test => k_is)
    (case po_Test => k_is)
    (case sa_Test => k_is)
    (case mk_Test => k_is)
    (case kc_Test => k_is)
    (case sf_Test => k_is)
    (case nn_Test => k_is)
    (case nz_Test => k_is)
    (case nr_Test_and => k_is)
    (case nr_Test_or => k_is)
    (case ia_Test => k_is)
    (case in_Test => k_is)
    (case it_Test => k_is)
    (case im_Test => k_is)
    (case io_Test => k_is)
    (case iy_Test => k_is)
    (case iz_Test_NoneType => k_is)
    (case iz_Test_bool => k_is)
    (case iz_Test_int => k_is)
    (case iz_Test_str => k_is)
    (case iz_Test_list => k_is)
    (case iz_Test_tuple => k_is)
    (case iz_Test_dict => k_is)
    (case n_Test_word => k_is)
    (case n_Test_inner => k_is)
    (case n_Test_fields => k_is)
    (case n_Test_terms => k_is)
    (case n_Test_size => k_is)
    (case n_Test_depth => k_is)
    (case a_eBadRow => k_is)
    (case x_eBadRow => k_is)
    (case o_eBadRow => (repeat (first | exact PySem.TwX.OwnEx.tail | refine PySem.TwX.OwnEx.own _ ?_)))
    (case sa_eBadRow => k_is)
    (case ga_eBadRow => k_is)
    (case gg_eBadRow => k_is)
    (case nb_eBadRow => k_is)
    (case i_eBadRow => k_is)
    (case t_eBadRow => k_is)
    (case l_eBadRow => k_is)
    (case cc_eBadRow => k_is)
    (case s1_eBadRow => rfl)
    (case s2_eBadRow => rfl)
    (case s3_eBadRow => rfl)
    (case s4_eBadRow => rfl)
    (case k_eBadRow => k_is)
    (case eC_eBadRow => k_is)
    (case tC_eBadRow => k_is)
    (case hC_eBadRow => k_is)
    (case te_eBadRow => k_is)
    (case tf_eBadRow => k_is)
    (case a_eBadTest => k_is)
    (case x_eBadTest => k_is)
    (case o_eBadTest => (repeat (first | exact PySem.TwX.OwnEx.tail | refine PySem.TwX.OwnEx.own _ ?_)))
    (case sa_eBadTest => k_is)
    (case ga_eBadTest => k_is)
    (case gg_eBadTest => k_is)
    (case nb_eBadTest => k_is)
    (case i_eBadTest => k_is)
    (case t_eBadTest => k_is)
    (case l_eBadTest => k_is)
    (case cc_eBadTest => k_is)
    (case s1_eBadTest => rfl)
    (case s2_eBadTest => rfl)
    (case s3_eBadTest => rfl)
    (case s4_eBadTest => rfl)
    (case k_eBadTest => k_is)
    (case eC_eBadTest => k_is)
    (case tC_eBadTest => k_is)
    (case hC_eBadTest => k_is)
    (case te_eBadTest => k_is)
    (case tf_eBadTest => k_is)
    (case a_is_integer => k_is)
    (case l_is_integer => k_is)
    (case c_is_integer => k_is)
    (case k_is_integer => k_is)
    (case a_is_sequence => k_is)
    (case l_is_sequence => k_is)
    (case c_is_sequence => k_is)
    (case k_is_sequence => k_is)
    (case a_is_text => k_is)
    (case l_is_text => k_is)
    (case c_is_text => k_is)
    (case k_is_text => k_is)
    (case a_is_name => k_is)
    (case l_is_name => k_is)
    (case c_is_name => k_is)
    (case k_is_name => k_is)
    (case a_kind_of => k_is)
    (case l_kind_of => k_is)
    (case c_kind_of => k_is)
    (case k_kind_of => k_is)
    (case a_Test_init => k_is)
    (case i_Test_init => k_is)
    (case l_Test_init => k_is)
    (case c_Test_init => k_is)
    (case k_Test_init => k_is)
    (case a_Test_atoms => k_is)
    (case i_Test_atoms => k_is)
    (case l_Test_atoms => k_is)
    (case c_Test_atoms => k_is)
    (case k_Test_atoms => k_is)
    (case a_Test_names => k_is)
    (case i_Test_names => k_is)
    (case l_Test_names => k_is)
    (case c_Test_names => k_is)
    (case k_Test_names => k_is)
    (case a_Test_renamed => k_is)
    (case i_Test_renamed => k_is)
    (case l_Test_renamed => k_is)
    (case c_Test_renamed => k_is)
    (case k_Test_renamed => k_is)
    (case a_Test_truth => k_is)
    (case i_Test_truth => k_is)
    (case l_Test_truth => k_is)
    (case c_Test_truth => k_is)
    (case k_Test_truth => k_is)
    (case a_Test_and => k_is)
    (case i_Test_and => k_is)
    (case l_Test_and => k_is)
    (case c_Test_and => k_is)
    (case k_Test_and => k_is)
    (case a_Test_or => k_is)
    (case i_Test_or => k_is)
    (case l_Test_or => k_is)
    (case c_Test_or => k_is)
    (case k_Test_or => k_is)
    (case a_Test_invert => k_is)
    (case i_Test_invert => k_is)
    (case l_Test_invert => k_is)
    (case c_Test_invert => k_is)
    (case k_Test_invert => k_is)
    (case a_Test_eq => k_is)
    (case i_Test_eq => k_is)
    (case l_Test_eq => k_is)
    (case c_Test_eq => k_is)
    (case k_Test_eq => k_is)
    (case a_size_of => k_is)
    (case l_size_of => k_is)
    (case c_size_of => k_is)
    (case k_size_of => k_is)
    (case a_depth_of => k_is)
    (case l_depth_of => k_is)
    (case c_depth_of => k_is)
    (case k_depth_of => k_is)
    (case a_combined => k_is)
    (case l_combined => k_is)
    (case c_combined => k_is)
    (case k_combined => k_is)
    (case a_need_column => k_is)
    (case l_need_column => k_is)
    (case c_need_column => k_is)
    (case k_need_column => k_is)
    (case a_need_op => k_is)
    (case l_need_op => k_is)
    (case c_need_op => k_is)
    (case k_need_op => k_is)
    (case a_need_values => k_is)
    (case l_need_values => k_is)
    (case c_need_values => k_is)
    (case k_need_values => k_is)
    (case a_compare => k_is)
    (case l_compare => k_is)
    (case c_compare => k_is)
    (case k_compare => k_is)
    (case a_against => k_is)
    (case l_against => k_is)
    (case c_against => k_is)
    (case k_against => k_is)
    (case kn_against => k_is)
    (case a_among => k_is)
    (case l_among => k_is)
    (case c_among => k_is)
    (case k_among => k_is)
    (case a_begins => k_is)
    (case l_begins => k_is)
    (case c_begins => k_is)
    (case k_begins => k_is)
    (case a_empty => k_is)
    (case l_empty => k_is)
    (case c_empty => k_is)
    (case k_empty => k_is)
    (case a_always => k_is)
    (case l_always => k_is)
    (case c_always => k_is)
    (case k_always => k_is)
    (case a_never => k_is)
    (case l_never => k_is)
    (case c_never => k_is)
    (case k_never => k_is)
    (case a_sure => k_is)
    (case l_sure => k_is)
    (case c_sure => k_is)
    (case k_sure => k_is)
    (case a_renamed_by => k_is)
    (case l_renamed_by => k_is)
    (case c_renamed_by => k_is)
    (case k_renamed_by => k_is)
    (case a_and_truth => k_is)
    (case l_and_truth => k_is)
    (case c_and_truth => k_is)
    (case k_and_truth => k_is)
    (case a_or_truth => k_is)
    (case l_or_truth => k_is)
    (case c_or_truth => k_is)
    (case k_or_truth => k_is)
    (case a_not_truth => k_is)
    (case l_not_truth => k_is)
    (case c_not_truth => k_is)
    (case k_not_truth => k_is)
    (case a_combined_truth => k_is)
    (case l_combined_truth => k_is)
    (case c_combined_truth => k_is)
    (case k_combined_truth => k_is)
    (case a_truth_at => k_is)
    (case l_truth_at => k_is)
    (case c_truth_at => k_is)
    (case k_truth_at => k_is)
    (case a_atom_truth => k_is)
    (case l_atom_truth => k_is)
    (case c_atom_truth => k_is)
    (case k_atom_truth => k_is)
    (case a_values_truth => k_is)
    (case l_values_truth => k_is)
    (case c_values_truth => k_is)
    (case k_values_truth => k_is)
    (case a_moved => k_is)
    (case l_moved => k_is)
    (case c_moved => k_is)
    (case k_moved => k_is)
    (case a_related => k_is)
    (case l_related => k_is)
    (case c_related => k_is)
    (case k_related => k_is)
    (case a__law_begin => k_is)
    (case l__law_begin => k_is)
    (case c__law_begin => k_is)
    (case k__law_begin => k_is)
    (case a__law_take => k_is)
    (case l__law_take => k_is)
    (case c__law_take => k_is)
    (case k__law_take => k_is)
    (case a__law_is_truth => k_is)
    (case l__law_is_truth => k_is)
    (case c__law_is_truth => k_is)
    (case k__law_is_truth => k_is)
    (case a__law_chars => k_is)
    (case l__law_chars => k_is)
    (case c__law_chars => k_is)
    (case k__law_chars => k_is)
    (case a__law_number => k_is)
    (case l__law_number => k_is)
    (case c__law_number => k_is)
    (case k__law_number => k_is)
    (case a__law_text => k_is)
    (case l__law_text => k_is)
    (case c__law_text => k_is)
    (case k__law_text => k_is)
    (case a__law_value => k_is)
    (case l__law_value => k_is)
    (case c__law_value => k_is)
    (case k__law_value => k_is)
    (case a__law_name => k_is)
    (case l__law_name => k_is)
    (case c__law_name => k_is)
    (case k__law_name => k_is)
    (case a__law_columns => k_is)
    (case l__law_columns => k_is)
    (case c__law_columns => k_is)
    (case k__law_columns => k_is)
    (case a__law_atom => k_is)
    (case l__law_atom => k_is)
    (case c__law_atom => k_is)
    (case k__law_atom => k_is)
    (case a__law_wrapped => k_is)
    (case l__law_wrapped => k_is)
    (case c__law_wrapped => k_is)
    (case k__law_wrapped => k_is)
    (case a__law_form => k_is)
    (case l__law_form => k_is)
    (case c__law_form => k_is)
    (case k__law_form => k_is)
    (case a__law_make => k_is)
    (case l__law_make => k_is)
    (case c__law_make => k_is)
    (case k__law_make => k_is)
    (case a__law_compared => k_is)
    (case l__law_compared => k_is)
    (case c__law_compared => k_is)
    (case k__law_compared => k_is)
    (case a__law_atom_truth => k_is)
    (case l__law_atom_truth => k_is)
    (case c__law_atom_truth => k_is)
    (case k__law_atom_truth => k_is)
    (case a__law_joined => k_is)
    (case l__law_joined => k_is)
    (case c__law_joined => k_is)
    (case k__law_joined => k_is)
    (case a__law_truth => k_is)
    (case l__law_truth => k_is)
    (case c__law_truth => k_is)
    (case k__law_truth => k_is)
    (case a__law_atoms => k_is)
    (case l__law_atoms => k_is)
    (case c__law_atoms => k_is)
    (case k__law_atoms => k_is)
    (case a__law_atom_names => k_is)
    (case l__law_atom_names => k_is)
    (case c__law_atom_names => k_is)
    (case k__law_atom_names => k_is)
    (case a__law_names => k_is)
    (case l__law_names => k_is)
    (case c__law_names => k_is)
    (case k__law_names => k_is)
    (case a__law_row => k_is)
    (case l__law_row => k_is)
    (case c__law_row => k_is)
    (case k__law_row => k_is)
    (case a__law_thing => k_is)
    (case l__law_thing => k_is)
    (case c__law_thing => k_is)
    (case k__law_thing => k_is)
    (case a__law_op => k_is)
    (case l__law_op => k_is)
    (case c__law_op => k_is)
    (case k__law_op => k_is)
    (case a__law_flag => k_is)
    (case l__law_flag => k_is)
    (case c__law_flag => k_is)
    (case k__law_flag => k_is)
    (case a__law_replaced => k_is)
    (case l__law_replaced => k_is)
    (case c__law_replaced => k_is)
    (case k__law_replaced => k_is)
    (case a__law_second => k_is)
    (case l__law_second => k_is)
    (case c__law_second => k_is)
    (case k__law_second => k_is)
    (case a__law_moved => k_is)
    (case l__law_moved => k_is)
    (case c__law_moved => k_is)
    (case k__law_moved => k_is)
    (case a__law_refuses => k_is)
    (case l__law_refuses => k_is)
    (case c__law_refuses => k_is)
    (case k__law_refuses => k_is)
    (case a_law => k_is)
    (case l_law => k_is)
    (case c_law => k_is)
    (case k_law => k_is)
    (case z_isinstance => k_is)
    (case z_int => k_is)
    (case z_bool => k_is)
    (case z_list => k_is)
    (case z_tuple => k_is)
    (case z_all => k_is)
    (case z_str => k_is)
    (case z_len => k_is)
    (case z_sorted => k_is)
    (case z_set => k_is)
    (case z_dict => k_is)
    (case z_sum => k_is)
    (case z_range => k_is)
    (case g_SIGNS => k_is)
    (case g_LONGEST_NAME => k_is)
    (case g_LETTERS => k_is)
    (case g_WORDS => k_is)
    (case gl_WORDS => k_is)
    (case gc_WORDS => rfl)
    (case gd_WORDS => rfl)
    (case gs_WORDS => decide)
    (case gv_WORDS => (repeat (first | exact .nil | refine .cons ⟨_, rfl⟩ ?_)))
    (case g_NAME_SIGNS => k_is)
    (case g_MOST_ATOMS => k_is)
    (case g_MOST_LEVELS => k_is)
    (case g_OPS => k_is)
    (case gl_OPS => k_is)
    (case gc_OPS => rfl)
    (case gd_OPS => rfl)
    (case gs_OPS => decide)
    (case gv_OPS => (repeat (first | exact .nil | refine .cons ⟨_, rfl⟩ ?_)))
    (case g_MOST_VALUES => k_is)
#print axioms PySem.Challenge.cw_tworows_k08_equal_and_renamed_holds
