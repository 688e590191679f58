import PyProof.Rows.All
import Wide.All
import OpenK.AllK
import Wide.FinOn
import HandS.ForMost
import HandS.Wide
import HandS.IsInst
import HandS.Flow
import HandS.TupLe
import HandS.StrMore
import HandS.Evl
import HandS.Walk
import KE.KxText
import HandS.Set
import HandS.Strs
import HandS.SetFor
import PyProof.Rows.SortShellAny
import HandS.Replace
import KE.KOpsOwn
import HandS.ForExc
import HandS.TryMany
import HandS.TryOnly
import HandS.ExcSuper
import HandS.ExcOwn
import HandS.Defaults
import HandS.DictComp
import HandS.RaiseMore
import HandS.ListEq
import HandS.DeepEq
import HandS.Iter
import KE.GoesMore
import HandS.MakeKw
import HandS.More
import HandS.HeadHook3
import PySem.Challenge.RW_tworows_k58_standing_orders
set_option Elab.async false
set_option linter.all false
set_option maxRecDepth 100000
set_option maxHeartbeats 4000000
namespace Tw
open PySem L2

/-! ### a def of the text with its promise -/
structure Def (P : Program) (w : World) (K : PySem.W.Frag) (mg : Str → Option Value) (base : Heap) (k : Nat) (x : Str) (ps : List Str) (sp : Sp) : Prop where
  ex : ∃ (f : Addr) (fd : FuncData), FnOk P w K mg base CX0 k f fd ps sp ∧ mg x = some (.ref f) ∧ PySem.W.keepIn K (.ref f) = true ∧ Binds K fd ps []
/-- where a def of the text stands -/
structure Here (K : PySem.W.Frag) (mg : Str → Option Value) (x : Str) (st : Stmt) (ps : List Str) (f : Addr) (fd : FuncData) : Prop where
  fn : Fun K x x st f fd
  mg : mg x = some (.ref f)
  bd : Binds K fd ps []
section
variable {X : Cx} {k j : Nat} {x : Str} {p pos : Pos} {e : Expr} {es : List Expr} {ps : List Str} {sp : Sp} {t : TA}
theorem Here.def {P : Program} {w : World} {K : PySem.W.Frag} {mg : Str → Option Value} {base : Heap} {st : Stmt} {f : Addr} {fd : FuncData} (h : Here K mg x st ps f fd) (F : FnOk P w K mg base CX0 k f fd ps sp) : Def P w K mg base k x ps sp :=
  ⟨f, fd, F, h.mg, h.fn.kp, h.bd⟩
def tDef (sp : Sp) (t : TA) : TE := fun σ H Q => t σ H fun vs H1 => sp vs H1 Q E0
theorem tDef_eq {sp : Sp} {t : TA} : tCall sp [] E0 t = tDef sp t := by
  funext σ H Q
  unfold tCall tDef
  simp only [List.append_nil]
theorem pe_def (D : Def X.prog X.w X.K X.mg X.base k x ps sp) (hr : Room j X.A) (hg : Gl X x) (ha : PA X (e :: es) t) (hk : k ≤ j := by decide) (hdb : (x == ("__debug__" : Str)) = false := by decide)
    (he : starEach (e :: es) X.env = (false, eval e X.env) :: starEach es X.env := by rfl) (hpl : (backTo pos (starEach es X.env)).any (·.1) = false := by rfl) : PE X (.Call (.Name x p) (e :: es) [] pos) (tDef sp t) := by
  obtain ⟨f, fd, F, hm, hkp, hb⟩ := D.ex
  rw [← tDef_eq]
  exact pe_call F (hr.mono hk) hg hm hkp hb .nil pass0 ha hdb he hpl
theorem pe_def0 (D : Def X.prog X.w X.K X.mg X.base k x ps sp) (hr : Room j X.A) (hg : Gl X x) (hk : k ≤ j := by decide) (hdb : (x == ("__debug__" : Str)) = false := by decide) : PE X (.Call (.Name x p) [] [] pos) (tDef sp tNil) := by
  obtain ⟨f, fd, F, hm, hkp, hb⟩ := D.ex
  rw [← tDef_eq]
  exact pe_call0 F (hr.mono hk) hg hm hkp hb .nil pass0 hdb
end

/-! ### operators for values of any kind -/
def rStr2 (C : Str → Str → Prop) (g : Str → Str → V) : R2 := fun x y H Q => ∃ i j, x = .str i ∧ y = .str j ∧ C i j ∧ Q (g i j) H
def rAddG : R2 := fun x y H Q => (∃ i j, x = .int i ∧ y = .int j ∧ Q (.int (i + j)) H) ∨ (∃ i j, x = .str i ∧ y = .str j ∧ i.length + j.length ≤ sizeLine ∧ Q (.str (i ++ j)) H) ∨ rCat x y H Q
def rLtG : R2 := fun x y H Q => (∃ i j, x = .int i ∧ y = .int j ∧ Q (.bl (decide (i < j))) H) ∨ ∃ i j, x = .str i ∧ y = .str j ∧ Q (.bl (decide (i.cps.toList < j.cps.toList))) H
def CPowG (i j : Int) : Prop := 0 ≤ j ∧ (Builtin.Int.intBits i : Int) * j ≤ 2 ^ 27
section
variable {X : Cx} {H : Hp} {Q : VK}
theorem op_addG : OpR X (binaryOp .Add) rAddG := op_add.or (op_add_str.or op_cat)
theorem op_ltG : OpR X (compareOp .Lt) rLtG := op_lt.or op_lt_str
theorem op_powG : OpR X (binaryOp .Pow) (rI CPowG fun i j => .int (i ^ j.toNat)) := opI fun _ _ _ _ _ _ _ hc q => PyProof.Rows.pow_int hc.1 hc.2 q
def rFdG : R2 := rI CDivW fun i j => .int (i / j)
theorem op_fdG : OpR X (binaryOp .FloorDiv) rFdG := op_fdivW
def rModG : R2 := rI (fun _ j => 0 < j) fun i j => .int (i % j)
theorem op_modG : OpR X (binaryOp .Mod) rModG := op_mod
def rSubG : R2 := rI0 fun i j => .int (i - j)
theorem op_subG : OpR X (binaryOp .Sub) rSubG := op_sub
def rMulG : R2 := rI CMul fun i j => .int (i * j)
theorem op_mulG : OpR X (binaryOp .Mult) rMulG := op_mul
def rPowG : R2 := rI CPowG fun i j => .int (i ^ j.toNat)
theorem op_powG' : OpR X (binaryOp .Pow) rPowG := op_powG
def rLeG : R2 := rI0 fun i j => .bl (decide (i ≤ j))
theorem op_leG : OpR X (compareOp .LtE) rLeG := op_le
def rGtG : R2 := rI0 fun i j => .bl (decide (j < i))
theorem op_gtG : OpR X (compareOp .Gt) rGtG := op_gt
def rGeG : R2 := fun x y H Q => (rI0 fun i j => .bl (decide (j ≤ i))) x y H Q ∨ ∃ i j, x = .str i ∧ y = .str j ∧ Q (.bl (!decide (i.cps.toList < j.cps.toList))) H
theorem op_geG : OpR X (compareOp .GtE) rGeG := op_ge.or op_ge_str
def rIsNG : R2 := fun x y H Q => y = .non ∧ Q (.bl (decide (x = .non))) H
theorem op_isNG : OpR X (compareOp .Is) rIsNG := op_isN
def rNotNG : R2 := fun x y H Q => y = .non ∧ Q (.bl (!decide (x = .non))) H
theorem op_notNG : OpR X (compareOp .IsNot) rNotNG := op_notN
def rNegG : V → Hp → VK → Prop := rU fun i => .int (-i)
theorem un_negG : UnR X (unaryOp .USub) rNegG := un_neg
/-! rules that hang on the written part, the part told by a letter (so that they stand in a comprehension's block, too) -/
def rLenG (K : PySem.W.Frag) : List V → Hp → VK → Prop := fun xs H Q => ∃ x n, xs = [x] ∧ LenV K x H n ∧ Q (.int n) H
theorem call_lenG {K : PySem.W.Frag} (h : X.K = K) : CallR X (.builtin "len") (rLenG K) := by subst h; exact call_len
theorem ix_seqG {K : PySem.W.Frag} (h : X.K = K) : IxR X (rIx K) := by subst h; exact ix_seq
theorem call_isiG {K : PySem.W.Frag} (h : X.K = K) : CallR X (.builtin "isinstance") (rIsi K) := by subst h; exact call_isi
theorem sl_listG {K : PySem.W.Frag} (h : X.K = K) : SlR X (rSlL K) := by subst h; exact sl_list
def rSlG (K : PySem.W.Frag) : V → Option Int → Option Int → Hp → VK → Prop := fun x lo hi H Q => rSlL K x lo hi H Q ∨ (L2.rSlS x lo hi H Q ∨ rSlT K x lo hi H Q)
theorem sl_G {K : PySem.W.Frag} (h : X.K = K) : SlR X (rSlG K) := by subst h; exact sl_list.or (sl_str.or sl_tup)
def rInSign : R2 := fun x y H Q => ∃ (c : Nat) (z : Str), x = .str ⟨#[c]⟩ ∧ y = .str z ∧ Q (.bl (decide (c ∈ z.cps.toList))) H
def rNotInSign : R2 := fun x y H Q => ∃ (c : Nat) (z : Str), x = .str ⟨#[c]⟩ ∧ y = .str z ∧ Q (.bl (!decide (c ∈ z.cps.toList))) H
def rInG (K : PySem.W.Frag) : R2 := fun x y H Q => rInSign x y H Q ∨ rIn K false x y H Q
def rNotInG (K : PySem.W.Frag) : R2 := fun x y H Q => rNotInSign x y H Q ∨ rIn K true x y H Q
theorem op_inG {K : PySem.W.Frag} (h : X.K = K) : OpR X (compareOp .In) (rInG K) := by subst h; exact (show OpR X (compareOp .In) rInSign from op_in_sign).or op_in_seq
theorem op_notInG {K : PySem.W.Frag} (h : X.K = K) : OpR X (compareOp .NotIn) (rNotInG K) := by subst h; exact (show OpR X (compareOp .NotIn) rNotInSign from op_notIn_sign).or op_notIn_seq
def rMax2 : List V → Hp → VK → Prop := fun xs H Q => ∃ i j, xs = [.int i, .int j] ∧ Q (.int (if j > i then j else i)) H
theorem call_max2G (h : X.calm = true) : CallR X (.builtin "max") rMax2 := call_max2 h
def rGeS : R2 := fun x y H Q => ∃ i j, x = .str i ∧ y = .str j ∧ Q (.bl (!decide (i.cps.toList < j.cps.toList))) H
def rIsBl : R2 := fun x y H Q => ∃ a b, x = .bl a ∧ y = .bl b ∧ Q (.bl (decide (a = b))) H
def rNotBl : R2 := fun x y H Q => ∃ a b, x = .bl a ∧ y = .bl b ∧ Q (.bl (!decide (a = b))) H
theorem op_isBl : OpR X (compareOp .Is) rIsBl := op_is_bl
theorem op_notBl : OpR X (compareOp .IsNot) rNotBl := op_isnot_bl
def rListG (K : PySem.W.Frag) : List V → Hp → VK → Prop := fun xs H Q => ∃ p ys, xs = [.ref p] ∧ (SqL K H p ys ∨ SqT K H p ys) ∧ ∀ l, H l = none → Q (.ref l) (upd H l (.lst ys))
theorem call_listG {K : PySem.W.Frag} (h : X.K = K) : CallR X (.type "list") (rListG K) := by subst h; exact call_list_of
def rIntG : List V → Hp → VK → Prop := fun xs H Q => (∃ i, xs = [.int i] ∧ Q (.int i) H) ∨ ∃ k, xs = [.bl k] ∧ Q (.int (if k then 1 else 0)) H
theorem call_intG : CallR X (.type "int") rIntG := call_int1
def rBoolG : List V → Hp → VK → Prop := fun xs H Q => (∃ i, xs = [.int i] ∧ Q (.bl (i != 0)) H) ∨ ∃ k, xs = [.bl k] ∧ Q (.bl k) H
theorem call_boolG : CallR X (.type "bool") rBoolG := call_bool1
def rJoinG (K : PySem.W.Frag) : V → List V → Hp → VK → Prop := fun x xs H Q => ∃ a p, ∃ ys : List Str, x = .str a ∧ xs = [.ref p] ∧ (SqL K H p (ys.map V.str) ∨ SqT K H p (ys.map V.str)) ∧
    (ys.map (·.length)).sum + ys.length * a.length ≤ 16777216 ∧ Q (.str (PySem.Txt.join a ys)) H
theorem mt_joinG {K : PySem.W.Frag} (h : X.K = K) : MtR X "str.join" (rJoinG K) := by subst h; exact mt_join
/-- is True, is False: of bools -/
def rIsB : R2 := fun x y H Q => ∃ i j, x = .bl i ∧ y = .bl j ∧ Q (.bl (decide (i = j))) H
end

/-- what is wanted behind a statement, in a word that is no constructor -/
def mkE (nx : L2.St → Hp → Prop) (rt : VK) (bk ct : L2.St → Hp → Prop) : Ends := ⟨nx, rt, bk, ct⟩
theorem Fun.okM {P : Program} {w : World} {K : PySem.W.Frag} {mg : Str → Option Value} {base : Heap} {x qual : Str} {st : Stmt} {f : Addr} {fd : FuncData} {N ps : List Str} {k : Nat} {sp : Sp} (F : Fun K x qual st f fd) (S : FnScope N ps (defScope st)) (len : ∀ vs H Q E, sp vs H Q E → vs.length = ps.length)
    (hbody : ∀ (cdv : Value) (A : Around) (outer : List Env) (s : Shared) (H : Hp) (vs : List V) (Q : VK) (E : XK), Room k (A.deeper (PyProof.Rows.envOfC qual (defScope st) s.heap.objs.size f cdv)) → sp vs H Q E →
      ∃ t, PSs (cxOf CX0 P w K mg base N qual (defScope st) f cdv A outer s H E).nox (defBody st) t ∧ t (mkE (fun _ H' => Q .non H') Q (fun _ _ => False) (fun _ _ => False)) (L2.start N vs) H) : FnOk P w K mg base CX0 (k + 1) f fd ps sp := F.ok S len hbody
/-! ### readings, step by step -/
section
variable {K : PySem.W.Frag} {σ : L2.St} {H : Hp} {Q : VK} {QT : Bool → Hp → Prop} {QA : List V → Hp → Prop} {D : Ends} {ta tb te : TE} {tr t : TA} {u c : TT} {ts tz : TS} {x y v : V} {a b : Bool} {i j : Int}
theorem g_var {n : Nat} (h : σ[n]? = some (some v)) (q : Q v H) : tVar n σ H Q := ⟨v, h, q⟩
theorem g_var0 {n : Nat} (q : ∃ v, σ[n]? = some (some v) ∧ Q v H) : tVar n σ H Q := q
theorem g_c (q : Q v H) : tC v σ H Q := q
theorem g_op {r : R2} (q : ta σ H fun x H1 => tb σ H1 fun y H2 => r x y H2 Q) : tOp r ta tb σ H Q := q
theorem g_un {r : V → Hp → VK → Prop} (q : ta σ H fun x H1 => r x H1 Q) : tUn r ta σ H Q := q
theorem g_nil (q : QA [] H) : tNil σ H QA := q
theorem g_cons (q : ta σ H fun x H1 => tr σ H1 fun xs H2 => QA (x :: xs) H2) : tCons ta tr σ H QA := q
theorem g_def {sp : Sp} (q : t σ H fun vs H1 => sp vs H1 Q E0) : tDef sp t σ H Q := q
theorem g_cb {r : List V → Hp → VK → Prop} (q : t σ H fun vs H1 => r vs H1 Q) : tCB r t σ H Q := q
theorem g_tup (q : t σ H fun xs H1 => xs.length ≤ sizeLine ∧ ∀ p, H1 p = none → Q (.ref p) (upd H1 p (.tup xs))) : tTup t σ H Q := q
theorem g_lst (q : t σ H fun xs H1 => xs.length ≤ sizeLine ∧ ∀ p, H1 p = none → Q (.ref p) (upd H1 p (.lst xs))) : tLst t σ H Q := q
theorem g_addI (q : Q (.int (i + j)) H) : rAddG (.int i) (.int j) H Q := .inl ⟨i, j, rfl, rfl, q⟩
theorem g_addS {z w : Str} (h : z.length + w.length ≤ sizeLine) (q : Q (.str (z ++ w)) H) : rAddG (.str z) (.str w) H Q := .inr (.inl ⟨z, w, rfl, rfl, h, q⟩)
theorem g_subI (q : Q (.int (i - j)) H) : rSubG (.int i) (.int j) H Q := ⟨i, j, rfl, rfl, q⟩
theorem g_mulI (h : CMul i j) (q : Q (.int (i * j)) H) : rMulG (.int i) (.int j) H Q := ⟨i, j, rfl, rfl, h, q⟩
theorem g_powI (h : CPowG i j) (q : Q (.int (i ^ j.toNat)) H) : rPowG (.int i) (.int j) H Q := ⟨i, j, rfl, rfl, h, q⟩
theorem g_modI (h : 0 < j) (q : Q (.int (i % j)) H) : rModG (.int i) (.int j) H Q := ⟨i, j, rfl, rfl, h, q⟩
theorem g_fdI (h : CDivW i j) (q : Q (.int (i / j)) H) : rFdG (.int i) (.int j) H Q := ⟨i, j, rfl, rfl, h, q⟩
theorem g_negI (q : Q (.int (-i)) H) : rNegG (.int i) H Q := ⟨i, rfl, q⟩
theorem g_ltI (q : Q (.bl (decide (i < j))) H) : rLtG (.int i) (.int j) H Q := .inl ⟨i, j, rfl, rfl, q⟩
theorem g_ltS {z w : Str} (q : Q (.bl (decide (z.cps.toList < w.cps.toList))) H) : rLtG (.str z) (.str w) H Q := .inr ⟨z, w, rfl, rfl, q⟩
theorem g_leI (q : Q (.bl (decide (i ≤ j))) H) : rLeG (.int i) (.int j) H Q := ⟨i, j, rfl, rfl, q⟩
theorem g_gtI (q : Q (.bl (decide (j < i))) H) : rGtG (.int i) (.int j) H Q := ⟨i, j, rfl, rfl, q⟩
theorem g_geI (q : Q (.bl (decide (j ≤ i))) H) : rGeG (.int i) (.int j) H Q := .inl ⟨i, j, rfl, rfl, q⟩
theorem g_geS {z w : Str} (q : Q (.bl (!decide (z.cps.toList < w.cps.toList))) H) : rGeG (.str z) (.str w) H Q := .inr ⟨z, w, rfl, rfl, q⟩
theorem g_slL {p : Addr} {xs : List V} {lo hi : Option Int} (h : SqL K H p xs) (q : ∀ l, H l = none → Q (.ref l) (upd H l (.lst (cutV xs lo hi)))) : rSlG K (.ref p) lo hi H Q := .inl ⟨p, xs, rfl, h, q⟩
theorem g_slS {z : Str} {lo hi : Option Int} (h : z.length ≤ sizeLine) (q : Q (.str (cutS z lo hi)) H) : rSlG K (.str z) lo hi H Q := .inr (.inl ⟨z, rfl, h, q⟩)
theorem g_inS {n : Nat} {z : Str} (q : Q (.bl (decide (n ∈ z.cps.toList))) H) : rInG K (.str ⟨#[n]⟩) (.str z) H Q := .inl ⟨n, z, rfl, rfl, q⟩
theorem g_notInS {n : Nat} {z : Str} (q : Q (.bl (!decide (n ∈ z.cps.toList))) H) : rNotInG K (.str ⟨#[n]⟩) (.str z) H Q := .inl ⟨n, z, rfl, rfl, q⟩
theorem g_max2 (q : Q (.int (if j > i then j else i)) H) : rMax2 [.int i, .int j] H Q := ⟨i, j, rfl, q⟩
theorem g_isBl_tt (q : Q (.bl true) H) : rIsBl (.bl true) (.bl true) H Q := ⟨true, true, rfl, rfl, q⟩
theorem g_notBl_tt (q : Q (.bl false) H) : rNotBl (.bl true) (.bl true) H Q := ⟨true, true, rfl, rfl, q⟩
theorem g_isBl_tf (q : Q (.bl false) H) : rIsBl (.bl true) (.bl false) H Q := ⟨true, false, rfl, rfl, q⟩
theorem g_notBl_tf (q : Q (.bl true) H) : rNotBl (.bl true) (.bl false) H Q := ⟨true, false, rfl, rfl, q⟩
theorem g_isBl_ft (q : Q (.bl false) H) : rIsBl (.bl false) (.bl true) H Q := ⟨false, true, rfl, rfl, q⟩
theorem g_notBl_ft (q : Q (.bl true) H) : rNotBl (.bl false) (.bl true) H Q := ⟨false, true, rfl, rfl, q⟩
theorem g_isBl_ff (q : Q (.bl true) H) : rIsBl (.bl false) (.bl false) H Q := ⟨false, false, rfl, rfl, q⟩
theorem g_notBl_ff (q : Q (.bl false) H) : rNotBl (.bl false) (.bl false) H Q := ⟨false, false, rfl, rfl, q⟩
theorem g_isBl (q : Q (.bl (decide (a = b))) H) : rIsBl (.bl a) (.bl b) H Q := ⟨a, b, rfl, rfl, q⟩
theorem g_notBl (q : Q (.bl (!decide (a = b))) H) : rNotBl (.bl a) (.bl b) H Q := ⟨a, b, rfl, rfl, q⟩
theorem g_istr {R : It → Hp → Prop} (q : ta σ H fun v H1 => ∃ x, v = .str x ∧ R (Its x) H1) : iStr ta σ H R := q
theorem g_str1 {p : Str → Prop} {z : Str} (q : p z) : ∃ x, V.str z = .str x ∧ p x := ⟨z, rfl, q⟩
theorem g_strE {z : Str} {R : Prop} (q : R) : (∃ a, V.str z = .str a) ∧ R := ⟨⟨z, rfl⟩, q⟩
theorem g_isN (q : Q (.bl (decide (x = .non))) H) : rIsNG x .non H Q := ⟨rfl, q⟩
theorem g_notN (q : Q (.bl (!decide (x = .non))) H) : rNotNG x .non H Q := ⟨rfl, q⟩
theorem g_isN_non (q : Q (.bl true) H) : rIsNG .non .non H Q := ⟨rfl, by rw [decide_eq_true rfl]; exact q⟩
theorem g_isN_int (q : Q (.bl false) H) : rIsNG (.int i) .non H Q := ⟨rfl, by rw [decide_eq_false (fun z => nomatch z)]; exact q⟩
theorem g_isN_str {z : Str} (q : Q (.bl false) H) : rIsNG (.str z) .non H Q := ⟨rfl, by rw [decide_eq_false (fun z => nomatch z)]; exact q⟩
theorem g_isN_bl (q : Q (.bl false) H) : rIsNG (.bl a) .non H Q := ⟨rfl, by rw [decide_eq_false (fun z => nomatch z)]; exact q⟩
theorem g_isN_ref {p : Addr} (q : Q (.bl false) H) : rIsNG (.ref p) .non H Q := ⟨rfl, by rw [decide_eq_false (fun z => nomatch z)]; exact q⟩
theorem g_notN_non (q : Q (.bl false) H) : rNotNG .non .non H Q := ⟨rfl, by rw [decide_eq_true rfl]; exact q⟩
theorem g_notN_int (q : Q (.bl true) H) : rNotNG (.int i) .non H Q := ⟨rfl, by rw [decide_eq_false (fun z => nomatch z)]; exact q⟩
theorem g_notN_str {z : Str} (q : Q (.bl true) H) : rNotNG (.str z) .non H Q := ⟨rfl, by rw [decide_eq_false (fun z => nomatch z)]; exact q⟩
theorem g_notN_bl (q : Q (.bl true) H) : rNotNG (.bl a) .non H Q := ⟨rfl, by rw [decide_eq_false (fun z => nomatch z)]; exact q⟩
theorem g_notN_ref {p : Addr} (q : Q (.bl true) H) : rNotNG (.ref p) .non H Q := ⟨rfl, by rw [decide_eq_false (fun z => nomatch z)]; exact q⟩
theorem g_Tn {A B : Prop} (h : B) : if (!true) = true then A else B := by rw [if_neg (by decide)]; exact h
theorem g_Fn {A B : Prop} (h : A) : if (!false) = true then A else B := by rw [if_pos (by decide)]; exact h
theorem dI (i j : Int) : decide (V.int i = V.int j) = decide (i = j) := by
  by_cases h : i = j
  · subst h; simp
  · rw [decide_eq_false h]; exact decide_eq_false fun z => h (V.int.inj z)
theorem dS (i j : Str) : decide (V.str i = V.str j) = decide (i = j) := by
  by_cases h : i = j
  · subst h; simp
  · rw [decide_eq_false h]; exact decide_eq_false fun z => h (V.str.inj z)
theorem dB (i j : Bool) : decide (V.bl i = V.bl j) = decide (i = j) := by
  by_cases h : i = j
  · subst h; simp
  · rw [decide_eq_false h]; exact decide_eq_false fun z => h (V.bl.inj z)
theorem g_eqI (q : Q (.bl (decide (i = j))) H) : rEq (.int i) (.int j) H Q := ⟨rfl, by rw [dI]; exact q⟩
theorem g_eqS {z w : Str} (q : Q (.bl (decide (z = w))) H) : rEq (.str z) (.str w) H Q := ⟨rfl, by rw [dS]; exact q⟩
theorem g_eqB (q : Q (.bl (decide (a = b))) H) : rEq (.bl a) (.bl b) H Q := ⟨rfl, by rw [dB]; exact q⟩
theorem g_neI (q : Q (.bl (!decide (i = j))) H) : rNe (.int i) (.int j) H Q := ⟨rfl, by rw [dI]; exact q⟩
theorem g_neS {z w : Str} (q : Q (.bl (!decide (z = w))) H) : rNe (.str z) (.str w) H Q := ⟨rfl, by rw [dS]; exact q⟩
theorem g_int1 (q : Q (.int i) H) : rIntG [V.int i] H Q := .inl ⟨i, rfl, q⟩
theorem g_int1B (q : Q (.int (if a then 1 else 0)) H) : rIntG [V.bl a] H Q := .inr ⟨a, rfl, q⟩
theorem g_bool1B (q : Q (.bl a) H) : rBoolG [V.bl a] H Q := .inr ⟨a, rfl, q⟩
theorem g_bool1I (q : Q (.bl (i != 0)) H) : rBoolG [V.int i] H Q := .inl ⟨i, rfl, q⟩
theorem g_ixL {p : Addr} {xs : List V} (h : SqL K H p xs) (e : atI xs i = some v) (q : Q v H) : rIx K (.ref p) (.int i) H Q := .inl ⟨p, xs, i, v, rfl, rfl, h, e, q⟩
theorem g_ixL0 {p : Addr} (q : ∃ xs v, H p = some (.lst xs) ∧ atI xs i = some v ∧ Q v H) : rIx K (.ref p) (.int i) H Q := by
  obtain ⟨xs, v, h, e, q⟩ := q
  exact g_ixL (SqL.of h) e q
theorem g_lenL0 {p : Addr} (q : ∃ xs, H p = some (.lst xs) ∧ Q (.int (xs.length : Int)) H) : rLenG K [.ref p] H Q := by
  obtain ⟨xs, h, q⟩ := q
  exact ⟨_, _, rfl, .inl ⟨xs, SqL.of h, rfl⟩, q⟩
theorem g_setL0 {p : Addr} {QH : Hp → Prop} (q : ∃ xs n, H p = some (.lst xs) ∧ ixN xs.length i = some n ∧ QH (upd H p (.lst (xs.set n v)))) : rSetL (.ref p) (.int i) v H QH := by
  obtain ⟨xs, n, h, e, q⟩ := q
  exact ⟨p, xs, i, n, rfl, rfl, h, e, q⟩
theorem g_ixT {p : Addr} {xs : List V} (h : SqT K H p xs) (e : atI xs i = some v) (q : Q v H) : rIx K (.ref p) (.int i) H Q := .inr (.inl ⟨p, xs, i, v, rfl, rfl, h, e, q⟩)
theorem g_ixS {z : Str} {n : Nat} (h : z.length ≤ sizeLine) (e : atI z.cps.toList i = some n) (q : Q (.str ⟨#[n]⟩) H) : rIx K (.str z) (.int i) H Q := .inr (.inr ⟨z, i, n, rfl, rfl, h, e, q⟩)
theorem g_lenL {p : Addr} {xs : List V} (h : SqL K H p xs) (q : Q (.int (xs.length : Int)) H) : rLenG K [.ref p] H Q := ⟨_, _, rfl, .inl ⟨xs, h, rfl⟩, q⟩
theorem g_lenT {p : Addr} {xs : List V} (h : SqT K H p xs) (q : Q (.int (xs.length : Int)) H) : rLenG K [.ref p] H Q := ⟨_, _, rfl, .inr ⟨xs, h, rfl⟩, q⟩
theorem g_lenS {z : Str} (h : z.length ≤ sizeLine) (q : Q (.int (z.length : Int)) H) : rLenG K [.str z] H Q := ⟨_, _, rfl, ⟨h, rfl⟩, q⟩
theorem g_list {p : Addr} {xs : List V} (h : SqL K H p xs) (q : ∀ l, H l = none → Q (.ref l) (upd H l (.lst xs))) : rListG K [.ref p] H Q := ⟨p, xs, rfl, .inl h, q⟩
theorem g_join {z : Str} {p : Addr} {ys : List Str} (h : SqL K H p (ys.map V.str)) (hz : (ys.map (·.length)).sum + ys.length * z.length ≤ 16777216) (q : Q (.str (PySem.Txt.join z ys)) H) : rJoinG K (.str z) [.ref p] H Q :=
  ⟨z, p, ys, rfl, rfl, .inl h, hz, q⟩
/-- the kind of a value, by its form -/
def kindS : V → String
  | .non => "NoneType" | .bl _ => "bool" | .int _ => "int" | .str _ => "str" | .flt _ => "float" | _ => ""
theorem g_isi {c : String} (ty : TyX K H x (.type n)) (h : kitB n c = some b) (q : Q (.bl b) H) : rIsi K [x, .ty c] H Q := ⟨x, .ty c, .type n, .type c, b, rfl, .ty c, ty, kit_ty h, q⟩
theorem g_isiI {c : String} (h : kitB "int" c = some b) (q : Q (.bl b) H) : rIsi K [.int i, .ty c] H Q := g_isi (.base (.int i)) h q
theorem g_isiS {c : String} {z : Str} (h : kitB "str" c = some b) (q : Q (.bl b) H) : rIsi K [.str z, .ty c] H Q := g_isi (.base (.str z)) h q
theorem g_isiB {c : String} (h : kitB "bool" c = some b) (q : Q (.bl b) H) : rIsi K [.bl a, .ty c] H Q := g_isi (.base (.bl a)) h q
theorem g_isiN {c : String} (h : kitB "NoneType" c = some b) (q : Q (.bl b) H) : rIsi K [.non, .ty c] H Q := g_isi (.base .non) h q
theorem kb_ii : kitB "int" "int" = some true := by decide +kernel
theorem kb_is : kitB "int" "str" = some false := by decide +kernel
theorem kb_ib : kitB "int" "bool" = some false := by decide +kernel
theorem kb_si : kitB "str" "int" = some false := by decide +kernel
theorem kb_ss : kitB "str" "str" = some true := by decide +kernel
theorem kb_sb : kitB "str" "bool" = some false := by decide +kernel
theorem kb_bi : kitB "bool" "int" = some true := by decide +kernel
theorem kb_bs : kitB "bool" "str" = some false := by decide +kernel
theorem kb_bb : kitB "bool" "bool" = some true := by decide +kernel
theorem kb_ni : kitB "NoneType" "int" = some false := by decide +kernel
theorem kb_ns : kitB "NoneType" "str" = some false := by decide +kernel
theorem kb_nb : kitB "NoneType" "bool" = some false := by decide +kernel
theorem g_sl {r : V → Option Int → Option Int → Hp → VK → Prop} {tl th : TO} (q : te σ H fun x H1 => tl σ H1 fun l H2 => th σ H2 fun u H3 => r x l u H3 Q) : tSl r te tl th σ H Q := q
theorem g_noPart {QO : Option Int → Hp → Prop} (q : QO none H) : tNoPart σ H QO := q
theorem g_part {QO : Option Int → Hp → Prop} (q : te σ H fun x H1 => ∃ i, x = .int i ∧ QO (some i) H1) : tPart te σ H QO := q
theorem g_int {p : Int → Prop} (q : p i) : ∃ k, V.int i = .int k ∧ p k := ⟨i, rfl, q⟩
theorem g_m1 {r : V → List V → Hp → VK → Prop} (q : ta σ H fun x H1 => (∃ a, x = .str a) ∧ tb σ H1 fun y H2 => r x [y] H2 Q) : tM1 r ta tb σ H Q := q
theorem g_m0 {r : V → List V → Hp → VK → Prop} (q : ta σ H fun x H1 => (∃ a, x = .str a) ∧ r x [] H1 Q) : tM0 r ta σ H Q := q
theorem g_lc {wi : TI} {g : TG} {tt : TT} {vs : List Nat} (q : wi σ H fun J H1 => ∀ D, H1 D = none → ∃ W : Nat → Nat → Hp → Prop, (∃ m, W 0 m (upd H1 D (.lst []))) ∧ ∀ i m H, W i m H →
  (J.stop i H ∧ Q (.ref D) H) ∨ (J.go i H ∧ ∃ Nx : Hp → Prop, (∀ H', Nx H' → ∃ m', m' < m ∧ W (i + 1) m' H') ∧ ∀ x H', J.yld i H x H' → g x (wipe σ vs) H' fun σ2 H2 => wipe σ2 vs = wipe σ vs ∧ tt σ2 H2 fun b H3 =>
    if b = true then te σ2 H3 fun y H4 => ∃ acc, H4 D = some (.lst acc) ∧ acc.length < sizeLine ∧ Nx (upd H4 D (.lst (acc ++ [y]))) else Nx H3)) : tLc wi g tt te vs σ H Q := q
theorem g_rng1 {R : It → Hp → Prop} (q : t σ H fun vs H1 => ∃ j : Int, vs = [.int j] ∧ -(2 ^ 62) ≤ j ∧ j < 2 ^ 62 ∧ R (Itr 0 j.toNat) H1) : iRng1 t σ H R := q
theorem g_ilist {R : It → Hp → Prop} (q : ta σ H fun x H1 => ∃ a, x = .ref a ∧ (∃ xs, SqL K H1 a xs) ∧ R (Itl K a) H1) : iList K ta σ H R := q
theorem g_for {wi : TI} {g : TG} (q : wi σ H fun J H1 => ∃ W : Nat → Nat → L2.St → Hp → Prop, (∃ m, W 0 m σ H1) ∧ ∀ i m σ H, W i m σ H →
  (J.stop i H ∧ D.nx σ H) ∨ (J.go i H ∧ ∃ N : L2.St → Hp → Prop, (∀ σ' H', N σ' H' → ∃ m', m' < m ∧ W (i + 1) m' σ' H') ∧ ∀ x H', J.yld i H x H' → g x σ H' fun σ2 H2 => ts { D with nx := N, ct := N, bk := D.nx } σ2 H2)) : tFor wi g ts D σ H := q
theorem g_cut {M : L2.St → Hp → Prop} (h : ts (mkE M D.rt D.bk D.ct) σ H) (k : ∀ σ' H', M σ' H' → tz D σ' H') : Evl.tCut ts tz D σ H := ⟨M, h, k⟩
theorem g_yes (q : QT true H) : tYes σ H QT := q
/-- a comprehension over a text whose turns leave the heap -/
theorem lc_text {z : Str} {g : TG} {tt : TT} {vs : List Nat} {H1 : Hp} {Dl : Addr} {Qd : Hp → Prop} (f : Nat → Bool) (v : Nat → V) (hz : z.length ≤ 1000000)
    (hs : ∀ (n : Nat) (Hh : Hp) (R : V → Hp → Prop) (S : Hp → Prop), n ∈ z.cps.toList → (∀ p o, p ≠ Dl → H1 p = some o → Hh p = some o) → (f n = true → R (v n) Hh) → (f n = false → S Hh) →
      g (.str ⟨#[n]⟩) (wipe σ vs) Hh fun σ2 H2 => wipe σ2 vs = wipe σ vs ∧ tt σ2 H2 fun b H3 => if b = true then te σ2 H3 R else S H3)
    (hd : ∀ H, (∀ p o, p ≠ Dl → H1 p = some o → H p = some o) → H Dl = some (.lst ((z.cps.toList.filter f).map v)) → Qd H) :
    ∃ W : Nat → Nat → Hp → Prop, (∃ m, W 0 m (upd H1 Dl (.lst []))) ∧ ∀ i m H, W i m H →
      ((Its z).stop i H ∧ Qd H) ∨ ((Its z).go i H ∧ ∃ Nx : Hp → Prop, (∀ H', Nx H' → ∃ m', m' < m ∧ W (i + 1) m' H') ∧ ∀ x H', (Its z).yld i H x H' → g x (wipe σ vs) H' fun σ2 H2 => wipe σ2 vs = wipe σ vs ∧ tt σ2 H2 fun b H3 =>
        if b = true then te σ2 H3 fun y H4 => ∃ acc, H4 Dl = some (.lst acc) ∧ acc.length < sizeLine ∧ Nx (upd H4 Dl (.lst (acc ++ [y]))) else Nx H3) := by
  have hsz : z.cps.size = z.cps.toList.length := Array.length_toList.symm
  refine ⟨fun i m H => m = z.cps.size - i ∧ i ≤ z.cps.size ∧ H Dl = some (.lst (((z.cps.toList.take i).filter f).map v)) ∧ ∀ p o, p ≠ Dl → H1 p = some o → H p = some o, ⟨z.cps.size, by simp, Nat.zero_le _, upd_same, fun p o n h => by rw [upd_ne n]; exact h⟩, ?_⟩
  rintro i m H ⟨rfl, hi, hD, hK⟩
  by_cases hlt : i < z.cps.size
  · refine .inr ⟨hlt, fun H' => H' Dl = some (.lst (((z.cps.toList.take (i + 1)).filter f).map v)) ∧ ∀ p o, p ≠ Dl → H1 p = some o → H' p = some o, fun H' w => ⟨z.cps.size - (i + 1), by omega, rfl, hlt, w⟩, ?_⟩
    rintro x H' ⟨rfl, n, hn, rfl⟩
    have hn' : z.cps.toList[i]? = some n := by rw [Array.getElem?_toList]; exact hn
    have e1 : z.cps.toList.take (i + 1) = z.cps.toList.take i ++ [n] := by rw [List.take_succ, hn']; rfl
    refine hs n H' _ _ (List.mem_of_getElem? hn') hK (fun hf => ?_) (fun hf => ?_)
    · refine ⟨_, hD, ?_, ?_, fun p o n h => by rw [upd_ne n]; exact hK p o n h⟩
      · rw [List.length_map, sizeLine_eq]
        have h1 := List.length_filter_le f (z.cps.toList.take i)
        have h2 : (z.cps.toList.take i).length ≤ z.cps.toList.length := by rw [List.length_take]; omega
        have h3 : z.cps.toList.length ≤ 1000000 := by rw [← hsz]; exact hz
        omega
      · rw [upd_same, e1, List.filter_append, List.filter_cons, if_pos hf, List.map_append]; rfl
    · refine ⟨?_, hK⟩
      rw [hD, e1, List.filter_append, List.filter_cons, if_neg (by rw [hf]; exact Bool.false_ne_true)]
      simp
  · have e : i = z.cps.size := by omega
    subst e
    refine .inl ⟨Nat.le_refl _, hd H hK ?_⟩
    rw [hD, hsz, List.take_length]
theorem join_cps (ys : List Str) : (PySem.Txt.join (Str.ofString "") ys).cps.toList = ys.flatMap fun y => y.cps.toList := by
  show (Builtin.Str.glued (Str.ofString "") ys).cps.toList = _
  rw [StrLaws.glued_eq_join]
  induction ys with
  | nil => rfl
  | cons y r ih =>
    cases r with
    | nil => show y.cps.toList = y.cps.toList ++ []; rw [List.append_nil]
    | cons z r =>
      show ((y ++ Str.ofString "") ++ Str.join (Str.ofString "") (z :: r)).cps.toList = _
      rw [PySem.W.KT.app_list, PySem.W.KT.app_list, ih, show (Str.ofString "").cps.toList = [] by decide +kernel, List.append_nil]
      rfl
theorem g_name {n : Nat} {QS : L2.St → Hp → Prop} (q : QS (σ.set n (some v)) H) : gName n v σ H QS := q
theorem g_inr {R : It → Hp → Prop} {p : Addr} {J : Addr → It} (q : (∃ xs, SqL K H p xs) ∧ R (J p) H) : ∃ a, V.ref p = .ref a ∧ (∃ xs, SqL K H a xs) ∧ R (J a) H := ⟨p, rfl, q⟩
theorem lex_trans {a b c : List Nat} (h : a < b) (k : b < c) : a < c := List.lt_trans h k
theorem lex_asymm {a b : List Nat} (h : a < b) : ¬ b < a := List.lt_asymm h
theorem lex_irrefl (a : List Nat) : ¬ a < a := List.lt_irrefl a
theorem lex_total {a b : List Nat} (h : ¬ a < b) (k : ¬ b < a) : a = b := List.le_antisymm (List.not_lt.mp k) (List.not_lt.mp h)
theorem str_ext {a b : Str} (h : a.cps.toList = b.cps.toList) : a = b := congrArg Str.mk (Array.toList_inj.mp h)
/-- a list, a tuple, a dict -/
def isRef (H : Hp) (p : Addr) : Prop := (∃ xs, H p = some (.lst xs)) ∨ (∃ xs, H p = some (.tup xs)) ∨ ∃ kvs, H p = some (.dK kvs)
theorem isRef.keep {H H' : Hp} {p : Addr} (h : isRef H p) (k : ∀ p o, H p = some o → H' p = some o) : isRef H' p := by
  rcases h with ⟨xs, h⟩ | ⟨xs, h⟩ | ⟨xs, h⟩
  · exact .inl ⟨xs, k _ _ h⟩
  · exact .inr (.inl ⟨xs, k _ _ h⟩)
  · exact .inr (.inr ⟨xs, k _ _ h⟩)
theorem g_isiR {p : Addr} {c : String} (h : isRef H p) (hc : c = "int" ∨ c = "str" ∨ c = "bool") (q : Q (.bl false) H) : rIsi K [.ref p, .ty c] H Q := by
  rcases h with ⟨xs, h⟩ | ⟨xs, h⟩ | ⟨xs, h⟩
  · exact g_isi (.base (.lst h)) (by rcases hc with rfl | rfl | rfl <;> decide +kernel) q
  · exact g_isi (.base (.tup h)) (by rcases hc with rfl | rfl | rfl <;> decide +kernel) q
  · exact g_isi (.base (.dK h)) (by rcases hc with rfl | rfl | rfl <;> decide +kernel) q
/-- a thing of any kind that a law draws -/
def thing (H : Hp) (v : V) : Prop := v = .non ∨ (∃ b, v = .bl b) ∨ (∃ i, v = .int i) ∨ (∃ z : Str, v = .str z ∧ z.length ≤ 100) ∨ ∃ p, v = .ref p ∧ isRef H p
theorem thing.keep {H H' : Hp} {v : V} (h : thing H v) (k : ∀ p o, H p = some o → H' p = some o) : thing H' v := by
  rcases h with h | h | h | h | ⟨p, e, h⟩
  · exact .inl h
  · exact .inr (.inl h)
  · exact .inr (.inr (.inl h))
  · exact .inr (.inr (.inr (.inl h)))
  · exact .inr (.inr (.inr (.inr ⟨p, e, h.keep k⟩)))
def isIntB : V → Bool
  | .int _ => true
  | _ => false
theorem inV_strs {z : Str} {ws : List Str} : inV (.str z) (ws.map V.str) = decide (z ∈ ws) := by
  unfold inV
  rw [List.any_map]
  rw [Bool.eq_iff_iff, decide_eq_true_eq, List.any_eq_true]
  constructor
  · rintro ⟨y, hy, h⟩
    have : y = z := by simpa [eqV] using h
    rw [← this]; exact hy
  · intro h
    exact ⟨z, h, by simp [eqV]⟩
theorem flat_strs (ws : List Str) : (ws.map V.str).all flatV = true := by
  rw [List.all_map, List.all_eq_true]
  intro x _
  rfl
theorem atI_strs {ws : List Str} {i : Int} (h0 : 0 ≤ i) (h1 : i < ws.length) : ∃ z, z ∈ ws ∧ atI (ws.map V.str) i = some (.str z) := by
  obtain ⟨k, rfl⟩ := Int.eq_ofNat_of_zero_le h0
  have hk : k < ws.length := by omega
  refine ⟨ws[k], List.getElem_mem hk, atI_nat ?_⟩
  rw [List.getElem?_map, List.getElem?_eq_getElem hk]; rfl
theorem g_tupE {p : Addr} {R : Prop} (q : R) : R := q
theorem g_test (q : ta σ H fun x H' => ∃ k, x = .bl k ∧ QT k H') : tTest ta σ H QT := q
theorem g_B (q : ta σ H fun x H' => ∃ k, x = .bl k ∧ QT k H') : tB ta σ H QT := q
theorem g_bl {p : Bool → Prop} (q : p a) : ∃ k, V.bl a = .bl k ∧ p k := ⟨a, rfl, q⟩
theorem g_tand (q : c σ H fun d H1 => if d = true then u σ H1 QT else QT false H1) : tAnd c u σ H QT := q
theorem g_tor (q : c σ H fun d H1 => if d = true then QT true H1 else u σ H1 QT) : tOr c u σ H QT := q
theorem g_tnot (q : c σ H fun d H1 => QT (!d) H1) : tNot c σ H QT := q
theorem g_vand (q : ta σ H fun x H1 => ∃ c, x = .bl c ∧ if c = true then tb σ H1 Q else Q (.bl false) H1) : tAndV ta tb σ H Q := q
theorem g_vor (q : ta σ H fun x H1 => ∃ c, x = .bl c ∧ if c = true then Q (.bl true) H1 else tb σ H1 Q) : tOrV ta tb σ H Q := q
theorem g_vnot (q : ta σ H fun x H1 => ∃ c, x = .bl c ∧ Q (.bl (!c)) H1) : tNotV ta σ H Q := q
theorem g_eif (q : c σ H fun d H1 => if d = true then ta σ H1 Q else tb σ H1 Q) : tIf c ta tb σ H Q := q
theorem g_seq (q : ts (mkE (tz D) D.rt D.bk D.ct) σ H) : tSeq ts tz D σ H := q
theorem g_asg {n : Nat} (q : te σ H fun x H1 => D.nx (σ.set n (some x)) H1) : tAsg te (gName n) D σ H := q
theorem g_asgSub {to ti : TE} {s : TSet} (q : te σ H fun x H1 => to σ H1 fun o H2 => ti σ H2 fun i H3 => s o i x H3 fun H4 => D.nx σ H4) : tAsg te (gSub to ti s) D σ H := q
theorem g_ret (q : te σ H D.rt) : tRet te D σ H := q
theorem g_drop (q : te σ H fun _ H1 => D.nx σ H1) : tDrop te D σ H := q
theorem g_if {t1 t2 : TS} (q : c σ H fun d H1 => if d = true then t1 D σ H1 else t2 D σ H1) : tIfS c t1 t2 D σ H := q
theorem g_next (q : D.nx σ H) : tNext D σ H := q
variable {nx : L2.St → Hp → Prop} {rt : VK} {bk ct : L2.St → Hp → Prop}
theorem g_nx (q : nx σ H) : (mkE nx rt bk ct).nx σ H := q
theorem g_rt (q : rt v H) : (mkE nx rt bk ct).rt v H := q
theorem g_bk (q : bk σ H) : (mkE nx rt bk ct).bk σ H := q
theorem g_ct (q : ct σ H) : (mkE nx rt bk ct).ct σ H := q
theorem g_ctS (q : D.ct σ H) : tCont D σ H := q
theorem g_bkS (q : D.bk σ H) : tBreak D σ H := q
/-! sizes, places -/
theorem cpow_small (h0 : 0 ≤ j) (h1 : j ≤ 1000000) (h2 : -(2 ^ 64) < i) (h3 : i < 2 ^ 64) : CPowG i j := by
  have h := PySem.intBits_le_64 h2 h3
  have h4 : ((Builtin.Int.intBits i : Nat) : Int) ≤ 64 := by omega
  refine ⟨h0, ?_⟩
  have h5 : ((Builtin.Int.intBits i : Nat) : Int) * j ≤ 64 * j := Int.mul_le_mul_of_nonneg_right h4 h0
  omega
theorem atI_map {ns : List Int} {n : Int} (h : 0 ≤ n ∧ n < ((ns.map V.int).length : Nat)) : atI (ns.map V.int) n = some (.int (ns.getD n.toNat 0)) := by
  rw [List.length_map] at h
  obtain ⟨h0, h⟩ := h
  obtain ⟨k, rfl⟩ := Int.eq_ofNat_of_zero_le h0
  refine atI_nat ?_
  rw [List.getElem?_map, List.getD_eq_getElem?_getD, Int.toNat_natCast, List.getElem?_eq_getElem (by omega)]
  rfl
theorem atI_get {α : Type} {xs : List α} {n : Nat} {v : α} (h : xs[n]? = some v) : atI xs (n : Int) = some v := atI_nat h
/-! tests -/
theorem g_T {A B : Prop} (h : A) : if true = true then A else B := by rw [if_pos rfl]; exact h
theorem g_F {A B : Prop} (h : B) : if false = true then A else B := by rw [if_neg Bool.false_ne_true]; exact h
theorem g_split {A B : Prop} {k : Bool} (h1 : k = true → A) (h2 : k = false → B) : if k = true then A else B := by
  cases k
  · exact g_F (h2 rfl)
  · exact g_T (h1 rfl)
theorem g_dec {A B p : Prop} [Decidable p] (h1 : p → A) (h2 : ¬ p → B) : if decide p = true then A else B :=
  g_split (fun h => h1 (of_decide_eq_true h)) (fun h => h2 (of_decide_eq_false h))
theorem g_ndec {A B p : Prop} [Decidable p] (h1 : ¬ p → A) (h2 : p → B) : if (!decide p) = true then A else B := by
  by_cases h : p
  · rw [decide_eq_true h]; exact g_F (h2 h)
  · rw [decide_eq_false h]; exact g_T (h1 h)
theorem g_nsplit {A B : Prop} {k : Bool} (h1 : k = false → A) (h2 : k = true → B) : if (!k) = true then A else B := by
  cases k
  · exact g_Fn (h1 rfl)
  · exact g_Tn (h2 rfl)
/-! loops whose turns don't see what follows -/
theorem for_rangeA {lo : Int} {n : Nat} {g : TG} {tb : TS} (Pv : Nat → L2.St → Hp → Prop) (h0 : Pv 0 σ H)
    (hs : ∀ i σ H (D' : Ends), i < n → Pv i σ H → (∀ σ H, Pv (i + 1) σ H → D'.nx σ H) → (∀ σ H, Pv (i + 1) σ H → D'.ct σ H) → (∀ σ H, D.nx σ H → D'.bk σ H) → D'.rt = D.rt → g (.int (lo + i)) σ H fun σ2 H2 => tb D' σ2 H2) (hd : ∀ σ H, Pv n σ H → D.nx σ H) :
    ∃ W : Nat → Nat → L2.St → Hp → Prop, (∃ m, W 0 m σ H) ∧ ∀ i m σ H, W i m σ H →
      ((Itr lo n).stop i H ∧ D.nx σ H) ∨ ((Itr lo n).go i H ∧ ∃ N : L2.St → Hp → Prop, (∀ σ' H', N σ' H' → ∃ m', m' < m ∧ W (i + 1) m' σ' H') ∧ ∀ x H', (Itr lo n).yld i H x H' → g x σ H' fun σ2 H2 => tb { D with nx := N, ct := N, bk := D.nx } σ2 H2) :=
  for_range Pv h0 (fun i σ H hi p => hs i σ H _ hi p (fun _ _ h => h) (fun _ _ h => h) (fun _ _ h => h) rfl) hd
theorem for_listA {p : Addr} {xs : List V} {g : TG} {tb : TS} (Pv : Nat → L2.St → Hp → Prop) (h0 : Pv 0 σ H) (hl : ∀ i σ H, i ≤ xs.length → Pv i σ H → SqL K H p xs)
    (hs : ∀ i x σ H (D' : Ends), xs[i]? = some x → Pv i σ H → (∀ σ H, Pv (i + 1) σ H → D'.nx σ H) → (∀ σ H, Pv (i + 1) σ H → D'.ct σ H) → (∀ σ H, D.nx σ H → D'.bk σ H) → D'.rt = D.rt → g x σ H fun σ2 H2 => tb D' σ2 H2) (hd : ∀ σ H, Pv xs.length σ H → D.nx σ H) :
    ∃ W : Nat → Nat → L2.St → Hp → Prop, (∃ m, W 0 m σ H) ∧ ∀ i m σ H, W i m σ H →
      ((Itl K p).stop i H ∧ D.nx σ H) ∨ ((Itl K p).go i H ∧ ∃ N : L2.St → Hp → Prop, (∀ σ' H', N σ' H' → ∃ m', m' < m ∧ W (i + 1) m' σ' H') ∧ ∀ x H', (Itl K p).yld i H x H' → g x σ H' fun σ2 H2 => tb { D with nx := N, ct := N, bk := D.nx } σ2 H2) :=
  for_list Pv h0 hl (fun i x σ H hi p => hs i x σ H _ hi p (fun _ _ h => h) (fun _ _ h => h) (fun _ _ h => h) rfl) hd
theorem g_cutA {M : L2.St → Hp → Prop} (h : ∀ D' : Ends, (∀ σ H, M σ H → D'.nx σ H) → D'.rt = D.rt → D'.bk = D.bk → D'.ct = D.ct → ts D' σ H) (k : ∀ σ' H', M σ' H' → tz D σ' H') : Evl.tCut ts tz D σ H :=
  ⟨M, h _ (fun _ _ h => h) rfl rfl rfl, k⟩
/-! stores -/
theorem g_setL {p : Addr} {xs : List V} {n : Nat} {QH : Hp → Prop} (h : H p = some (.lst xs)) (e : ixN xs.length i = some n) (q : QH (upd H p (.lst (xs.set n v)))) : rSetL (.ref p) (.int i) v H QH := ⟨p, xs, i, n, rfl, rfl, h, e, q⟩
theorem g_app {p : Addr} {xs : List V} (h : H p = some (.lst xs)) (hz : xs.length < 10000000) (q : Q .non (upd H p (.lst (xs ++ [v])))) : rAppend (.ref p) [v] H Q := ⟨p, xs, v, rfl, rfl, h, by rw [sizeLine_eq]; omega, q⟩
theorem g_bm {r : V → List V → Hp → VK → Prop} {T : String} (q : ta σ H fun x H1 => tyV K T x H1 ∧ t σ H1 fun xs H2 => r x xs H2 Q) : tBM K T r ta t σ H Q := q
theorem tyL {p : Addr} {xs : List V} (h : H p = some (.lst xs)) : tyV K "list" (.ref p) H := .inl ⟨rfl, xs, SqL.of h⟩
theorem g_tyL {p : Addr} {R : Prop} (q : (∃ xs, H p = some (.lst xs)) ∧ R) : tyV K "list" (.ref p) H ∧ R := ⟨let ⟨_, h⟩ := q.1; tyL h, q.2⟩
end
end Tw

set_option Elab.async false
set_option linter.all false
set_option maxRecDepth 100000
namespace Tw
open PySem L2 PySem.Spec
/-- an iterator that goes through xs -/
structure Fits (J : It) (xs : List V) (H : Hp) : Prop where
  go : ∀ i, i < xs.length → J.go i H
  stop : ∀ i, xs.length ≤ i → J.stop i H
  yld : ∀ i x H', J.yld i H x H' → H' = H ∧ xs[i]? = some x
theorem fits_l {K : PySem.W.Frag} {H : Hp} {a : Addr} {xs : List V} (h : SqL K H a xs) : Fits (Itl K a) xs H :=
  ⟨fun i hi => ⟨xs, xs[i], h, by simp [hi]⟩, fun i hi => ⟨xs, h, hi⟩, fun i x H' y => ⟨y.1, y.2 xs h⟩⟩
theorem fits_t {K : PySem.W.Frag} {H : Hp} {a : Addr} {xs : List V} (h : SqT K H a xs) : Fits (Itt K a) xs H :=
  ⟨fun i hi => ⟨xs, xs[i], h, by simp [hi]⟩, fun i hi => ⟨xs, h, hi⟩, fun i x H' y => ⟨y.1, y.2 xs h⟩⟩
theorem take_flat {F : V → List V} {xs : List V} {i : Nat} {x : V} (h : xs[i]? = some x) : (xs.take (i + 1)).flatMap F = (xs.take i).flatMap F ++ F x := by
  rw [List.take_succ, h, List.flatMap_append]
  simp
theorem flat_le {F : V → List V} {xs : List V} {i : Nat} {x : V} (h : xs[i]? = some x) : ((xs.take i).flatMap F ++ F x).length ≤ (xs.flatMap F).length := by
  rw [← take_flat h]
  conv => rhs; rw [← List.take_append_drop (i + 1) xs]
  rw [List.flatMap_append, List.length_append]
  omega
theorem rng_le {F : Nat → List V} {n : Nat} : ∀ {i : Nat}, i < n → ((List.range i).flatMap F ++ F i).length ≤ ((List.range n).flatMap F).length := by
  intro i h
  have e : (List.range (i + 1)).flatMap F = (List.range i).flatMap F ++ F i := by rw [List.range_succ, List.flatMap_append]; simp
  rw [← e]
  obtain ⟨m, rfl⟩ : ∃ m, n = (i + 1) + m := ⟨n - (i + 1), by omega⟩
  have e2 : List.range (i + 1 + m) = List.range (i + 1) ++ (List.range m).map (i + 1 + ·) := List.range_add
  rw [e2, List.flatMap_append, List.length_append]
  omega
section
variable {J : It} {g g1 : TG} {tt tt1 : TT} {wi1 : TI} {te : TE} {vs vs1 : List Nat} {σ : L2.St} {H1 : Hp} {D : Addr} {Qd : Hp → Prop}
/-- a comprehension with two fors and no ifs: what the inner ones hold, one behind the other -/
theorem lc2_flat (xs : List V) (F : V → List V) (hD : H1 D = none) (hJ : ∀ H, (∀ q o, H1 q = some o → H q = some o) → Fits J xs H) (hlen : (xs.flatMap F).length ≤ 1000000)
    (hs : ∀ x Hh (R : L2.St → It → Hp → Prop) (S : Hp → Prop), x ∈ xs → (∀ q o, H1 q = some o → Hh q = some o) →
      (∀ σ2 J1 H', (∀ q o, Hh q = some o → H' q = some o) → (∀ H'', (∀ q o, q ≠ D → H' q = some o → H'' q = some o) → Fits J1 (F x) H'') →
        (∀ y Hk (R1 : V → Hp → Prop) (S1 : Hp → Prop), y ∈ F x → R1 y Hk → g1 y (wipe σ2 vs1) Hk fun σ3 H5 => wipe σ3 vs1 = wipe σ2 vs1 ∧ tt1 σ3 H5 fun b H6 => if b = true then te σ3 H6 R1 else S1 H6) → R σ2 J1 H') →
      g x (wipe σ vs) Hh fun σ2 H2 => wipe σ2 vs = wipe σ vs ∧ tt σ2 H2 fun b H3 => if b = true then wi1 σ2 H3 (R σ2) else S H3)
    (hd : ∀ H, (∀ q o, H1 q = some o → H q = some o) → H D = some (.lst (xs.flatMap F)) → Qd H) :
    ∃ W : Nat → Nat → Hp → Prop, (∃ m, W 0 m (upd H1 D (.lst []))) ∧ ∀ i m H, W i m H →
      (J.stop i H ∧ Qd H) ∨ (J.go i H ∧ ∃ Nx : Hp → Prop, (∀ H', Nx H' → ∃ m', m' < m ∧ W (i + 1) m' H') ∧ ∀ x H', J.yld i H x H' → g x (wipe σ vs) H' fun σ2 H2 => wipe σ2 vs = wipe σ vs ∧ tt σ2 H2 fun b H3 =>
        if b = true then wi1 σ2 H3 fun J1 H4 => ∃ W1 : Nat → Nat → Hp → Prop, (∃ m, W1 0 m H4) ∧ ∀ j k H, W1 j k H →
          (J1.stop j H ∧ Nx H) ∨ (J1.go j H ∧ ∃ Nx1 : Hp → Prop, (∀ H', Nx1 H' → ∃ k', k' < k ∧ W1 (j + 1) k' H') ∧ ∀ x H', J1.yld j H x H' → g1 x (wipe σ2 vs1) H' fun σ3 H5 => wipe σ3 vs1 = wipe σ2 vs1 ∧ tt1 σ3 H5 fun b H6 =>
            if b = true then te σ3 H6 fun y H7 => ∃ acc, H7 D = some (.lst acc) ∧ acc.length < sizeLine ∧ Nx1 (upd H7 D (.lst (acc ++ [y]))) else Nx1 H6)
        else Nx H3) := by
  refine ⟨fun i m H => m = xs.length - i ∧ i ≤ xs.length ∧ H D = some (.lst ((xs.take i).flatMap F)) ∧ ∀ q o, H1 q = some o → H q = some o, ⟨xs.length, by simp, Nat.zero_le _, upd_same, fun q o h => by rw [upd_ne (ne_of_none h hD)]; exact h⟩, ?_⟩
  rintro i m H ⟨rfl, hi, hDl, hK⟩
  have fi := hJ H hK
  by_cases hlt : i < xs.length
  · refine .inr ⟨fi.go i hlt, fun H' => H' D = some (.lst ((xs.take (i + 1)).flatMap F)) ∧ ∀ q o, H1 q = some o → H' q = some o, fun H' w => ⟨xs.length - (i + 1), by omega, rfl, hlt, w⟩, ?_⟩
    intro x H' hy
    obtain ⟨rfl, hx⟩ := fi.yld i x H' hy
    refine hs x H' (fun σ2 J1 H4 => _) (fun H3 => _) (List.mem_of_getElem? hx) hK fun σ2 J1 H4 ext f1 turn => ?_
    have e1 := take_flat (F := F) hx
    have l1 := flat_le (F := F) hx
    refine ⟨fun j k H => k = (F x).length - j ∧ j ≤ (F x).length ∧ H D = some (.lst ((xs.take i).flatMap F ++ (F x).take j)) ∧ ∀ q o, q ≠ D → H4 q = some o → H q = some o, ⟨(F x).length, by simp, Nat.zero_le _, by rw [ext _ _ hDl, List.take_zero, List.append_nil], fun q o _ h => h⟩, ?_⟩
    rintro j k Hj ⟨rfl, hj, hDj, hKj⟩
    have fj := f1 Hj hKj
    by_cases hjl : j < (F x).length
    · refine .inr ⟨fj.go j hjl, fun H' => H' D = some (.lst ((xs.take i).flatMap F ++ (F x).take (j + 1))) ∧ ∀ q o, q ≠ D → H4 q = some o → H' q = some o, fun H' w => ⟨(F x).length - (j + 1), by omega, rfl, hjl, w⟩, ?_⟩
      intro y Hy hyy
      obtain ⟨rfl, hyx⟩ := fj.yld j y Hy hyy
      refine turn y Hy (fun y H7 => _) (fun H6 => _) (List.mem_of_getElem? hyx) ⟨_, hDj, ?_, ?_, fun q o n h => by rw [upd_ne n]; exact hKj q o n h⟩
      · rw [List.length_append] at l1 ⊢
        have : ((F x).take j).length ≤ (F x).length := by rw [List.length_take]; omega
        rw [sizeLine_eq]
        omega
      · rw [upd_same, List.take_succ, hyx, List.append_assoc]
        rfl
    · have e : j = (F x).length := by omega
      subst e
      refine .inl ⟨fj.stop _ (Nat.le_refl _), ?_, fun q o h => hKj q o (ne_of_none h hD) (ext q o (hK q o h))⟩
      rw [hDj, List.take_length, e1]
  · have e : i = xs.length := by omega
    subst e
    refine .inl ⟨fi.stop _ (Nat.le_refl _), hd H hK ?_⟩
    rw [hDl, List.take_length]
/-- the same, the inner ones told by their places: what the inner ones hold, one behind the other -/
theorem lc2_flatI (xs : List V) (F : Nat → List V) (hD : H1 D = none) (hJ : ∀ H, (∀ q o, H1 q = some o → H q = some o) → Fits J xs H) (hlen : ((List.range xs.length).flatMap F).length ≤ 1000000)
    (hs : ∀ i x Hh (R : L2.St → It → Hp → Prop) (S : Hp → Prop), xs[i]? = some x → Hh D ≠ none → (∀ q o, H1 q = some o → Hh q = some o) →
      (∀ σ2 J1 H', (∀ q o, Hh q = some o → H' q = some o) → (∀ H'', (∀ q o, q ≠ D → H' q = some o → H'' q = some o) → Fits J1 (F i) H'') →
        (∀ y Hk (R1 : V → Hp → Prop) (S1 : Hp → Prop), y ∈ F i → R1 y Hk → g1 y (wipe σ2 vs1) Hk fun σ3 H5 => wipe σ3 vs1 = wipe σ2 vs1 ∧ tt1 σ3 H5 fun b H6 => if b = true then te σ3 H6 R1 else S1 H6) → R σ2 J1 H') →
      g x (wipe σ vs) Hh fun σ2 H2 => wipe σ2 vs = wipe σ vs ∧ tt σ2 H2 fun b H3 => if b = true then wi1 σ2 H3 (R σ2) else S H3)
    (hd : ∀ H, (∀ q o, H1 q = some o → H q = some o) → H D = some (.lst ((List.range xs.length).flatMap F)) → Qd H) :
    ∃ W : Nat → Nat → Hp → Prop, (∃ m, W 0 m (upd H1 D (.lst []))) ∧ ∀ i m H, W i m H →
      (J.stop i H ∧ Qd H) ∨ (J.go i H ∧ ∃ Nx : Hp → Prop, (∀ H', Nx H' → ∃ m', m' < m ∧ W (i + 1) m' H') ∧ ∀ x H', J.yld i H x H' → g x (wipe σ vs) H' fun σ2 H2 => wipe σ2 vs = wipe σ vs ∧ tt σ2 H2 fun b H3 =>
        if b = true then wi1 σ2 H3 fun J1 H4 => ∃ W1 : Nat → Nat → Hp → Prop, (∃ m, W1 0 m H4) ∧ ∀ j k H, W1 j k H →
          (J1.stop j H ∧ Nx H) ∨ (J1.go j H ∧ ∃ Nx1 : Hp → Prop, (∀ H', Nx1 H' → ∃ k', k' < k ∧ W1 (j + 1) k' H') ∧ ∀ x H', J1.yld j H x H' → g1 x (wipe σ2 vs1) H' fun σ3 H5 => wipe σ3 vs1 = wipe σ2 vs1 ∧ tt1 σ3 H5 fun b H6 =>
            if b = true then te σ3 H6 fun y H7 => ∃ acc, H7 D = some (.lst acc) ∧ acc.length < sizeLine ∧ Nx1 (upd H7 D (.lst (acc ++ [y]))) else Nx1 H6)
        else Nx H3) := by
  refine ⟨fun i m H => m = xs.length - i ∧ i ≤ xs.length ∧ H D = some (.lst ((List.range i).flatMap F)) ∧ ∀ q o, H1 q = some o → H q = some o, ⟨xs.length, by simp, Nat.zero_le _, upd_same, fun q o h => by rw [upd_ne (ne_of_none h hD)]; exact h⟩, ?_⟩
  rintro i m H ⟨rfl, hi, hDl, hK⟩
  have fi := hJ H hK
  by_cases hlt : i < xs.length
  · refine .inr ⟨fi.go i hlt, fun H' => H' D = some (.lst ((List.range (i + 1)).flatMap F)) ∧ ∀ q o, H1 q = some o → H' q = some o, fun H' w => ⟨xs.length - (i + 1), by omega, rfl, hlt, w⟩, ?_⟩
    intro x H' hy
    obtain ⟨rfl, hx⟩ := fi.yld i x H' hy
    refine hs i x H' (fun σ2 J1 H4 => _) (fun H3 => _) hx (by rw [hDl]; exact nofun) hK fun σ2 J1 H4 ext f1 turn => ?_
    have e1 : (List.range (i + 1)).flatMap F = (List.range i).flatMap F ++ F i := by rw [List.range_succ, List.flatMap_append]; simp
    have l1 : ((List.range i).flatMap F ++ F i).length ≤ ((List.range xs.length).flatMap F).length := rng_le hlt
    refine ⟨fun j k H => k = (F i).length - j ∧ j ≤ (F i).length ∧ H D = some (.lst ((List.range i).flatMap F ++ (F i).take j)) ∧ ∀ q o, q ≠ D → H4 q = some o → H q = some o, ⟨(F i).length, by simp, Nat.zero_le _, by rw [ext _ _ hDl, List.take_zero, List.append_nil], fun q o _ h => h⟩, ?_⟩
    rintro j k Hj ⟨rfl, hj, hDj, hKj⟩
    have fj := f1 Hj hKj
    by_cases hjl : j < (F i).length
    · refine .inr ⟨fj.go j hjl, fun H' => H' D = some (.lst ((List.range i).flatMap F ++ (F i).take (j + 1))) ∧ ∀ q o, q ≠ D → H4 q = some o → H' q = some o, fun H' w => ⟨(F i).length - (j + 1), by omega, rfl, hjl, w⟩, ?_⟩
      intro y Hy hyy
      obtain ⟨rfl, hyx⟩ := fj.yld j y Hy hyy
      refine turn y Hy (fun y H7 => _) (fun H6 => _) (List.mem_of_getElem? hyx) ⟨_, hDj, ?_, ?_, fun q o n h => by rw [upd_ne n]; exact hKj q o n h⟩
      · rw [List.length_append] at l1 ⊢
        have : ((F i).take j).length ≤ (F i).length := by rw [List.length_take]; omega
        rw [sizeLine_eq]
        omega
      · rw [upd_same, List.take_succ, hyx, List.append_assoc]
        rfl
    · have e : j = (F i).length := by omega
      subst e
      refine .inl ⟨fj.stop _ (Nat.le_refl _), ?_, fun q o h => hKj q o (ne_of_none h hD) (ext q o (hK q o h))⟩
      rw [hDj, List.take_length, e1]
  · have e : i = xs.length := by omega
    subst e
    refine .inl ⟨fi.stop _ (Nat.le_refl _), hd H hK ?_⟩
    exact hDl
/-- a comprehension whose turns leave the heap -/
theorem lc_map (xs : List V) (v : V → V) (hD : H1 D = none) (hJ : ∀ H, (∀ q o, H1 q = some o → H q = some o) → Fits J xs H) (hlen : xs.length ≤ 1000000)
    (hs : ∀ x Hh (R : V → Hp → Prop) (S : Hp → Prop), x ∈ xs → (∀ q o, H1 q = some o → Hh q = some o) → R (v x) Hh →
      g x (wipe σ vs) Hh fun σ2 H2 => wipe σ2 vs = wipe σ vs ∧ tt σ2 H2 fun b H3 => if b = true then te σ2 H3 R else S H3)
    (hd : ∀ H, (∀ q o, H1 q = some o → H q = some o) → H D = some (.lst (xs.map v)) → Qd H) :
    ∃ W : Nat → Nat → Hp → Prop, (∃ m, W 0 m (upd H1 D (.lst []))) ∧ ∀ i m H, W i m H →
      (J.stop i H ∧ Qd H) ∨ (J.go i H ∧ ∃ Nx : Hp → Prop, (∀ H', Nx H' → ∃ m', m' < m ∧ W (i + 1) m' H') ∧ ∀ x H', J.yld i H x H' → g x (wipe σ vs) H' fun σ2 H2 => wipe σ2 vs = wipe σ vs ∧ tt σ2 H2 fun b H3 =>
        if b = true then te σ2 H3 fun y H4 => ∃ acc, H4 D = some (.lst acc) ∧ acc.length < sizeLine ∧ Nx (upd H4 D (.lst (acc ++ [y]))) else Nx H3) := by
  refine ⟨fun i m H => m = xs.length - i ∧ i ≤ xs.length ∧ H D = some (.lst ((xs.take i).map v)) ∧ ∀ q o, H1 q = some o → H q = some o, ⟨xs.length, by simp, Nat.zero_le _, upd_same, fun q o h => by rw [upd_ne (ne_of_none h hD)]; exact h⟩, ?_⟩
  rintro i m H ⟨rfl, hi, hDl, hK⟩
  have fi := hJ H hK
  by_cases hlt : i < xs.length
  · refine .inr ⟨fi.go i hlt, fun H' => H' D = some (.lst ((xs.take (i + 1)).map v)) ∧ ∀ q o, H1 q = some o → H' q = some o, fun H' w => ⟨xs.length - (i + 1), by omega, rfl, hlt, w⟩, ?_⟩
    intro x H' hy
    obtain ⟨rfl, hx⟩ := fi.yld i x H' hy
    refine hs x H' (fun y H4 => _) (fun H3 => _) (List.mem_of_getElem? hx) hK ⟨_, hDl, ?_, ?_, fun q o h => by rw [upd_ne (ne_of_none h hD)]; exact hK q o h⟩
    · rw [List.length_map, List.length_take, sizeLine_eq]
      omega
    · rw [upd_same, List.take_succ, hx, List.map_append]
      rfl
  · have e : i = xs.length := by omega
    subst e
    refine .inl ⟨fi.stop _ (Nat.le_refl _), hd H hK ?_⟩
    rw [hDl, List.take_length]
variable {K : PySem.W.Frag} {Q : VK}
theorem g_lc2 {wi : TI} (q : wi σ H1 fun J H1 => ∀ D, H1 D = none → ∃ W : Nat → Nat → Hp → Prop, (∃ m, W 0 m (upd H1 D (.lst []))) ∧ ∀ i m H, W i m H →
      (J.stop i H ∧ Q (.ref D) H) ∨ (J.go i H ∧ ∃ Nx : Hp → Prop, (∀ H', Nx H' → ∃ m', m' < m ∧ W (i + 1) m' H') ∧ ∀ x H', J.yld i H x H' → g x (wipe σ vs) H' fun σ2 H2 => wipe σ2 vs = wipe σ vs ∧ tt σ2 H2 fun b H3 =>
        if b = true then wi1 σ2 H3 fun J1 H4 => ∃ W1 : Nat → Nat → Hp → Prop, (∃ m, W1 0 m H4) ∧ ∀ j k H, W1 j k H →
          (J1.stop j H ∧ Nx H) ∨ (J1.go j H ∧ ∃ Nx1 : Hp → Prop, (∀ H', Nx1 H' → ∃ k', k' < k ∧ W1 (j + 1) k' H') ∧ ∀ x H', J1.yld j H x H' → g1 x (wipe σ2 vs1) H' fun σ3 H5 => wipe σ3 vs1 = wipe σ2 vs1 ∧ tt1 σ3 H5 fun b H6 =>
            if b = true then te σ3 H6 fun y H7 => ∃ acc, H7 D = some (.lst acc) ∧ acc.length < sizeLine ∧ Nx1 (upd H7 D (.lst (acc ++ [y]))) else Nx1 H6)
        else Nx H3)) : tLc2 wi g tt wi1 g1 tt1 te vs vs1 σ H1 Q := q
end
end Tw

set_option Elab.async false
set_option linter.all false
set_option maxRecDepth 100000
set_option maxHeartbeats 4000000
/-! sets of values of one kind, by the list of their members: made of a list, sorted -/
namespace Tw
open PySem L2 PySem.Spec PyProof.Rows
/-- a list that is an arrangement of mapped things is mapped of an arrangement -/
theorem perm_unmap {α β : Type} {f : α → β} {l : List β} {xs : List α} (p : l.Perm (xs.map f)) : ∃ ys : List α, l = ys.map f ∧ ys.Perm xs := by
  generalize hm : xs.map f = m at p
  induction p generalizing xs with
  | nil =>
    have : xs = [] := List.map_eq_nil_iff.mp hm
    exact ⟨[], rfl, by rw [this]⟩
  | cons b _ ih =>
    cases xs with
    | nil => cases hm
    | cons x xs =>
      injection hm with h1 h2
      obtain ⟨ys, e, p⟩ := ih h2
      exact ⟨x :: ys, by rw [List.map_cons, ← e, h1], p.cons x⟩
  | swap b c l =>
    match xs, hm with
    | x :: y :: r, hm =>
      injection hm with h1 h2
      injection h2 with h2 h3
      exact ⟨y :: x :: r, by rw [List.map_cons, List.map_cons, h1, h2, h3], List.Perm.swap x y r⟩
  | trans _ _ ih1 ih2 =>
    obtain ⟨ys, e, p⟩ := ih2 hm
    obtain ⟨zs, e2, p2⟩ := ih1 e.symm
    exact ⟨zs, e2, p2.trans p⟩
section
variable {P : Program} {w : World} {κ : Type} [DecidableEq κ] {knd : PySem.KeyKind P w κ}
/-- the set at a: its members by key and value, in the order in which its table keeps them -/
def SetL (knd : PySem.KeyKind P w κ) (h : Heap) (a : Addr) (L : List (κ × Value)) : Prop :=
  ∃ o es ep t, h.get? a = some o ∧ o.ExactSet ∧ o.data = .set es ep t ∧ es.toList = L.map (fun p => (knd.hash p.1, p.2)) ∧ (∀ p ∈ L, knd.is p.1 p.2 = true ∧ p.2.scannable = true) ∧ (L.map (·.1)).Nodup ∧
    es.size < scanBound ∧ t.fits es.size = true ∧ Ris t.place.toList ∧ (w.params.followText "set-order" = true ∨ t.led = true)
theorem SetL.at {h h' : Heap} {a : Addr} {L : List (κ × Value)} (S : SetL knd h a L) (k : ∀ o, h.get? a = some o → h'.get? a = some o) : SetL knd h' a L := by
  obtain ⟨o, es, ep, t, g, r⟩ := S
  exact ⟨o, es, ep, t, k o g, r⟩
theorem SetL.len {h : Heap} {a : Addr} {L : List (κ × Value)} (S : SetL knd h a L) : L.length < scanBound := by
  obtain ⟨o, es, ep, t, g, gx, gd, ge, gi, gn, gb, _⟩ := S
  have : es.toList.length = L.length := by rw [ge, List.length_map]
  rw [Array.length_toList] at this
  omega
theorem elems_of {L : List (κ × Value)} (gi : ∀ p ∈ L, knd.is p.1 p.2 = true ∧ p.2.scannable = true) : ElemsOf knd (L.map fun p => (knd.hash p.1, p.2)) := fun e he => by
  obtain ⟨p, hp, rfl⟩ := List.mem_map.mp he
  exact ⟨⟨p.1, (gi p hp).1, rfl⟩, (gi p hp).2⟩
variable {A : Around} {E : Value → Shared → Prop} {s : Shared} {a : Addr}
/-- the table laid anew and kept -/
theorem keep_laid {o : Obj} {es : Array (Int × Value)} {ep : Nat} {t : SetTable} (g : s.heap.get? a = some o) (gx : o.ExactSet) (gd : o.data = .set es ep t) {es2 : Array (Int × Value)} {t2 : SetTable} {L2' : List (κ × Value)}
    (ge : es2.toList = L2'.map (fun p => (knd.hash p.1, p.2))) (gi : ∀ p ∈ L2', knd.is p.1 p.2 = true ∧ p.2.scannable = true) (gn : (L2'.map (·.1)).Nodup) (gb : es2.size < scanBound) (gf : t2.fits es2.size = true) (gr : Ris t2.place.toList)
    (gl : w.params.followText "set-order" = true ∨ t2.led = true) {Q : Unit → Shared → Prop} (hQ : ∀ h', Heap.SameBut a s.heap h' → (∃ o', h'.get? a = some o' ∧ o'.ExactSet ∧ o'.data = .set es2 (ep + 1) t2) → SetL knd h' a L2' → Q () { s with heap := h' }) :
    wpAny (model P w) A (storeSet a es2 t2) Q E s := by
  refine wpAny_storeSet_of g gd ?_ (fits_of_scanBound gb)
  have g2 := store_at (es' := es2) (t' := t2) g gd
  exact hQ _ (Heap.SameBut.update s.heap a (Obj.putSet es2 t2)) ⟨_, g2, gx, rfl⟩ ⟨_, es2, _, t2, g2, gx, rfl, ge, gi, gn, gb, gf, gr, gl⟩
/-- a table that has been laid is kept, and laid out wider where it is too full -/
theorem keep_wide {o : Obj} {es : Array (Int × Value)} {ep : Nat} {t : SetTable} (g : s.heap.get? a = some o) (gx : o.ExactSet) (gd : o.data = .set es ep t) {es2 : Array (Int × Value)} {t2 : SetTable} {M : List (κ × Value)}
    (ge : es2.toList = M.map (fun p => (knd.hash p.1, p.2))) (gi : ∀ p ∈ M, knd.is p.1 p.2 = true ∧ p.2.scannable = true) (gn : (M.map (·.1)).Nodup) (gb : es2.size < scanBound) (gf : t2.fits es2.size = true) (gr : Ris t2.place.toList)
    (gl : w.params.followText "set-order" = true ∨ t2.led = true) {was : Bool} {told : Bool → Sem Unit} (ht : ∀ (b : Bool) (s1 : Shared) (Q1 : Unit → Shared → Prop), Q1 () s1 → wpAny (model P w) A (told b) Q1 E s1) {Q : Option Bool → Shared → Prop}
    (hQ : ∀ h' M', Heap.SameBut a s.heap h' → SetL knd h' a M' → M'.Perm M → Q (some true) { s with heap := h' }) :
    wpAny (model P w) A (storeSet a es2 t2 >>= fun _ => if (!was && t2.tooFull) = true then told (relayAll t2 es2 (SetTable.grown es2.size)).2.2 >>= fun _ => storeSet a (relayAll t2 es2 (SetTable.grown es2.size)).1 (relayAll t2 es2 (SetTable.grown es2.size)).2.1 >>= fun _ => pure (some true) else pure (some true)) Q E s := by
  refine wpAny_bind (keep_laid g gx gd ge gi gn gb gf gr gl fun h1 sb1 ⟨o1, g1, gx1, gd1⟩ S1 => ?_)
  by_cases full : (!was && t2.tooFull) = true
  · rw [if_pos full]
    have p1 := relayAll_perm t2 es2 (SetTable.grown es2.size)
    have p2 := relayAll_fits t2 es2 (SetTable.grown es2.size)
    have p3 := relayAll_ris t2 es2 (SetTable.grown es2.size)
    have p4 := relayAll_led t2 es2 (SetTable.grown es2.size)
    rw [ge] at p1
    obtain ⟨M', e', pm⟩ := perm_unmap p1
    have sz : (relayAll t2 es2 (SetTable.grown es2.size)).1.size < scanBound := by
      have q := congrArg List.length e'
      rw [Array.length_toList, List.length_map, pm.length_eq] at q
      have q2 := congrArg List.length ge
      rw [Array.length_toList, List.length_map] at q2
      omega
    refine wpAny_bind (ht _ _ _ ?_)
    refine wpAny_bind (keep_laid (s := { s with heap := h1 }) g1 gx1 gd1 e' (fun p hp => gi p (pm.mem_iff.mp hp)) ((pm.map _).nodup_iff.mpr gn) sz p2 p3 (gl.imp id fun z => by rw [p4]; exact z) fun h2 sb2 _ S2 => ?_)
    exact wpAny_pure (hQ h2 M' (sb1.trans sb2) S2 pm)
  · rw [if_neg full]
    exact wpAny_pure (hQ h1 M sb1 S1 (List.Perm.refl M))
/-- one more member -/
theorem set_one_more {L : List (κ × Value)} (S : SetL knd s.heap a L) {k : κ} {v : Value} (hk : knd.is k v = true) (hv : v.scannable = true) (room : L.length + 1 < scanBound) {Q : Bool → Shared → Prop}
    (hQ : ∀ h' L' b, Heap.SameBut a s.heap h' → SetL knd h' a L' → (∀ j, j ∈ L'.map (·.1) ↔ j ∈ L.map (·.1) ∨ j = k) → L'.length ≤ L.length + 1 → Q b { s with heap := h' }) :
    wpAny (model P w) A (setAddHashed a v (knd.hash k)) Q E s := by
  obtain ⟨o, es, ep, t, g, gx, gd, ge, gi, gn, gb, gf, gr, gl⟩ := id S
  have el : ElemsOf knd es.toList := by rw [ge]; exact elems_of gi
  unfold setAddHashed setAddHashedIn
  refine wpAny_holding ?_
  refine wpAny_bind (wpAny_setState_of g gd gf ?_)
  dsimp only
  rw [byScan_of hv gb el, if_pos rfl]
  refine wpAny_bind ?_
  unfold setAddByScan
  refine wpAny_bind (wpAny_rule ?_)
  refine wpAny_bind (wpAny_setScan_of hk g gd gf el ?_)
  cases hf : es.toList.findIdx? (fun e => knd.is k e.2) with
  | some j =>
    dsimp only
    have hin : k ∈ L.map (·.1) := by
      obtain ⟨hj, pj, _⟩ := List.findIdx?_eq_some_iff_getElem.mp hf
      have hm : es.toList[j] ∈ L.map (fun p => (knd.hash p.1, p.2)) := by rw [← ge]; exact List.getElem_mem hj
      obtain ⟨p, hp, e⟩ := List.mem_map.mp hm
      have pj' : knd.is k p.2 = true := by rw [← e] at pj; exact pj
      exact List.mem_map.mpr ⟨p, hp, knd.inj p.2 _ _ (gi p hp).1 pj'⟩
    exact wpAny_pure (wpAny_pure (hQ s.heap L false (Heap.SameBut.refl a s.heap) S (fun i => ⟨.inl, fun z => z.elim id fun e => by rw [e]; exact hin⟩) (Nat.le_succ _)))
  | none =>
    dsimp only
    have out : k ∉ L.map (·.1) := fun z => by
      obtain ⟨p, hp, e⟩ := List.mem_map.mp z
      have c := List.findIdx?_eq_none_iff.mp hf (knd.hash p.1, p.2) (by rw [ge]; exact List.mem_map.mpr ⟨p, hp, rfl⟩)
      have c' : knd.is k p.2 = false := c
      rw [← e, (gi p hp).1] at c'
      cases c'
    have gave : ∀ (b : Bool) (s1 : Shared) (Q1 : Unit → Shared → Prop), Q1 () s1 → wpAny (model P w) A (match b with | true => rule "set.scan.the-table-gave-way" | false => pure ()) Q1 E s1 := by
      intro b s1 Q1 q
      cases b
      · exact wpAny_pure q
      · exact wpAny_rule q
    have l1 := layNew_perm t es (knd.hash k) v
    have l2 := layNew_fits t es (knd.hash k) v
    have l3 := layNew_ris t es (knd.hash k) v gr
    have l4 := layNew_led t es (knd.hash k) v
    generalize layNew t es (knd.hash k) v = Z at l1 l2 l3 l4 ⊢
    obtain ⟨es1, t1, was, gv⟩ := Z
    dsimp only at l1 l2 l3 l4 ⊢
    have l1' : es1.toList.Perm (((k, v) :: L).map fun p => (knd.hash p.1, p.2)) := by
      rw [Array.toList_push, ge] at l1
      exact l1.trans (List.perm_append_singleton _ _)
    obtain ⟨M, em, pm⟩ := perm_unmap l1'
    have gi1 : ∀ p ∈ M, knd.is p.1 p.2 = true ∧ p.2.scannable = true := fun p hp => by
      rcases List.mem_cons.mp (pm.mem_iff.mp hp) with z | z
      · rw [z]; exact ⟨hk, hv⟩
      · exact gi p z
    have gn1 : (M.map (·.1)).Nodup := (pm.map _).nodup_iff.mpr (List.nodup_cons.mpr ⟨out, gn⟩)
    have sz : es1.size = L.length + 1 := by
      have q := congrArg List.length em
      rw [Array.length_toList, List.length_map, pm.length_eq] at q
      exact q
    have ld : w.params.followText "set-order" = true ∨ t1.led = true := gl.imp id fun z => by rw [l4]; exact z
    have fin : ∀ h' M', Heap.SameBut a s.heap h' → SetL knd h' a M' → M'.Perm M → Q true { s with heap := h' } := fun h' M' sb S' pm' => by
      refine hQ h' M' true sb S' (fun j => ?_) ?_
      · rw [((pm'.trans pm).map (·.1)).mem_iff, List.map_cons, List.mem_cons]
        exact Or.comm
      · rw [(pm'.trans pm).length_eq]; exact Nat.le_refl _
    refine wpAny_bind (gave _ _ _ ?_)
    have told : ∀ (b : Bool) (s1 : Shared) (Q1 : Unit → Shared → Prop), Q1 () s1 → wpAny (model P w) A (match b with | true => rule "set.scan.the-table-gave-way" | false => pure ()) Q1 E s1 := gave
    by_cases pl : t1.plain = true
    · rw [if_pos pl]
      refine wpAny_bind ?_
      rw [hashByValue_scannable 8 hv]
      refine wpAny_pure ?_
      cases plainKind v with
      | true => exact keep_wide g gx gd em gi1 gn1 (by rw [sz]; exact room) l2 l3 ld told fun h' M' sb S' pm' => wpAny_pure (fin h' M' sb S' pm')
      | false => exact keep_wide g gx gd em gi1 gn1 (by rw [sz]; exact room) (SetTable.fits_plain_off l2) l3 ld told fun h' M' sb S' pm' => wpAny_pure (fin h' M' sb S' pm')
    · rw [if_neg pl]
      refine wpAny_bind (wpAny_pure ?_)
      exact keep_wide g gx gd em gi1 gn1 (by rw [sz]; exact room) l2 l3 ld told fun h' M' sb S' pm' => wpAny_pure (fin h' M' sb S' pm')
end
end Tw

set_option Elab.async false
set_option linter.all false
set_option maxRecDepth 100000
set_option maxHeartbeats 4000000
namespace Tw
open PySem L2 PySem.Spec PyProof.Rows
section
variable {prog : Program} {w : World} {A : Around} {R : Result → Shared → Prop} {I : Addr} {fp wr : List Addr} {G : Array GenState → Array GenState → Prop} {n : Nat} {Pw : Nat → Value → Prop} {St : Nat → Shared → Prop}
/-- the set at a holds just these texts -/
def Holds (prog : Program) (w : World) (h : Heap) (a : Addr) (xs : List Str) : Prop := ∃ L, SetL (PySem.strKind prog w) h a L ∧ (∀ j, j ∈ L.map (·.1) ↔ j ∈ xs) ∧ L.length ≤ xs.length
/-- the texts that are walked all come in -/
theorem all_come_in (W : WalksS prog w A.in1 I fp wr G n Pw St) (S : Addr) (off : S ∉ fp) (xs : List Str) (hn : xs.length = n) (few : n + 1 < scanBound) (gives : ∀ i v, Pw i v → ∃ t, v = .str (xs.getD i Str.empty) t) :
    ∀ (m i : Nat) (s : Shared), i + m = n → St i s → Holds prog w s.heap S (xs.take i) → (∀ s', Moved (S :: wr) G s s' → Holds prog w s'.heap S xs → R (.ok (.ret .none)) s') →
      codeAny (model prog w) A (.builtin "set.update.loop" ⟨[.ref S, .ref I], []⟩) R s := by
  have offw : S ∉ wr := fun z => off (W.sub _ z)
  have more : ∀ b ∈ wr, b ∈ S :: wr := fun b z => List.mem_cons_of_mem _ z
  intro m
  induction m with
  | zero =>
    intro i s him st hS fin
    have e : i = n := by omega
    subst e
    refine codeAny_builtin PyProof.Rows.F.entry_set_update_loop ?_
    rw [Around.under_plainId PyProof.Rows.F.plain_set_update_loop _]
    show wpAny _ A.in1 (pyNext (.ref I) >>= _) _ _ s
    refine wpAny_bind (W.done s _ _ st fun s1 mv => ?_)
    show wpAny _ A.in1 (ret Value.none) _ _ s1
    obtain ⟨L, hL, mem, len⟩ := hS
    rw [← hn, List.take_length] at mem len
    exact wpAny_pure (fin s1 (mv.mono more) ⟨L, hL.at fun o g => mv.heap S o offw g, mem, len⟩)
  | succ m ih =>
    intro i s him st hS fin
    refine codeAny_builtin PyProof.Rows.F.entry_set_update_loop ?_
    rw [Around.under_plainId PyProof.Rows.F.plain_set_update_loop _]
    show wpAny _ A.in1 (pyNext (.ref I) >>= _) _ _ s
    refine wpAny_bind (W.item i s _ _ (by omega) st fun v s1 hv st1 mv => ?_)
    obtain ⟨t, rfl⟩ := gives i v hv
    obtain ⟨L, hL, mem, len⟩ := hS
    have hL1 : SetL (PySem.strKind prog w) s1.heap S L := hL.at fun o g => mv.heap S o offw g
    have hx : xs[i]? = some (xs.getD i Str.empty) := by rw [List.getD_eq_getElem?_getD, List.getElem?_eq_getElem (show i < xs.length by omega)]; rfl
    generalize hz : xs.getD i Str.empty = z at hx ⊢
    have tk : xs.take (i + 1) = xs.take i ++ [z] := by rw [List.take_succ, hx]; rfl
    have lt : (xs.take i).length = i := by rw [List.length_take]; omega
    show wpAny _ A.in1 (holding [Value.str z t] (setAdd S (.str z t)) >>= _) _ _ s1
    refine wpAny_bind (wpAny_holding ?_)
    unfold setAdd
    refine wpAny_holding (wpAny_bind ((PySem.strKind prog w).pyHash (k := z) (strKind_is _ _ _ _) ?_))
    refine set_one_more (s := { s1 with toks := s1.toks + 1 }) hL1 (k := z) (strKind_is _ _ _ _) rfl (by omega) fun h2 L2' b sb hL2 mem2 len2 => ?_
    have go : ∀ s2 : Shared, s2 = { s1 with toks := s1.toks + 1, heap := h2 } → codeAny (model prog w) A (.builtin "set.update.loop" ⟨[.ref S, .ref I], []⟩) R s2 := fun s2 e => by
      subst e
      refine ih (i + 1) _ (by omega) (W.frame _ s1 _ _ st1 (Nat.le_succ _) fun b hb o g => ?_) ⟨L2', hL2, fun j => ?_, ?_⟩ fun s3 mv3 hS3 => ?_
      · exact (sb.2 b (fun z => off (by rw [← z]; exact hb))).trans g
      · rw [mem2, mem, tk, List.mem_append, List.mem_singleton]
      · rw [tk, List.length_append, List.length_singleton, lt]; rw [lt] at len; omega
      · refine fin s3 (Moved.trans W.gtrans ((mv.mono more).then_heap (Nat.le_succ _) fun b o hb g => ?_) mv3) hS3
        exact (sb.2 b (fun z => hb (by rw [z]; exact List.mem_cons_self))).trans g
    exact wpAny_pure ⟨plainId_quiet PyProof.Rows.F.plain_set_update_loop _, go _ rfl⟩
end
section
variable {prog : Program} {w : World} {A : Around} {E : Value → Shared → Prop} {s : Shared}
/-- an empty set just laid -/
abbrev bareSet (w : World) : Obj := { cls := .type "set", dict := none, data := .set #[] 0 (.fresh 0 0 (!w.params.followText "set-order")) }
theorem bare_holds {h : Heap} {a : Addr} (g : h.get? a = some (bareSet w)) : Holds prog w h a [] := by
  refine ⟨[], ⟨_, #[], 0, _, g, ⟨rfl, rfl, rfl⟩, rfl, rfl, (fun p hp => nomatch hp), List.nodup_nil, by decide, by rfl, List.Pairwise.nil, ?_⟩, fun j => Iff.rfl, Nat.le_refl _⟩
  show _ ∨ (!w.params.followText "set-order") = true
  cases w.params.followText "set-order"
  · exact .inr rfl
  · exact .inl rfl
/-- set.__init__(S, xs) on a bare set -/
theorem init_from_list {S l : Addr} {items : Array Value} {xs : List Str} (hh : A.handled = none) (hS : s.heap.get? S = some (bareSet w)) (hl : s.heap.IsList l items) (ne : S ≠ l) (hi : PyProof.Rows.StrsAre items.toList xs) (few : xs.length + 1 < scanBound) {Q : Value → Shared → Prop}
    (h : ∀ (h' : Heap) (tk : Nat), Holds prog w h' S xs → (∀ b o, b ≠ S → s.heap.get? b = some o → h'.get? b = some o) → Q .none { s with heap := h', toks := tk }) :
    codeAny (model prog w) A (.call (.builtin "set.__init__") ⟨[.ref S, .ref l], []⟩) (wants Q E) s := by
  have tS : s.TypeIs (.ref S) "set" := ⟨_, hS, rfl⟩
  refine codeAny_call_builtin PySem.F.called_set.init.plain PySem.F.entry_set_init (check_set_init_1 tS ?_)
  obtain ⟨ol, hol, hcl, nl, hdl⟩ := id hl
  obtain ⟨ocls, odict, odata, oslots⟩ := ol
  simp only at hcl hdl
  subst hcl; subst hdl
  have f1 := PySem.F.sub_list_set
  have f2 := PySem.F.sub_list_frozenset
  have f3 : (Value.type "list" == Value.type "dict") = false := by decide
  unfold Builtin.«set.__init__» noKeywords Builtin.Frozenset.updateFrom
  generalize hPI : pyIter = PI
  wp_walk
  subst hPI
  refine wpAny_pyIter_list hl ?_
  refine wpAny_bind (wpAny_runValue ?_)
  have lS : l < s.heap.objs.size := Heap.lt_size hol
  have sS : S < s.heap.objs.size := Heap.lt_size hS
  have quiet : A.in1.in1.handled = none := by simp [hh]
  have sz : xs.length = items.size := by rw [← StrsAre.len_eq hi, Array.length_toList]
  have gv : ∀ (i : Nat) (v : Value), items[i]? = some v → ∃ t, v = .str (xs.getD i Str.empty) t := fun i v hv => SS.strs_at hi i v (by rw [Array.getElem?_toList]; exact hv)
  refine all_come_in ((Walks.list quiet s.heap.objs.size l (Nat.ne_of_lt lS) items).toS) S ?_ xs sz (by omega) gv items.size 0 _ (by omega) ?_ ?_ fun s1 mv hH => ?_
  · intro z
    rcases List.mem_cons.mp z with z | z
    · exact absurd z (Nat.ne_of_lt sS)
    · exact ne (List.mem_singleton.mp z)
  · exact ⟨⟨_, Heap.get?_push_size _ rfl, rfl, rfl⟩, hl.push _⟩
  · exact bare_holds (Heap.get?_push_of_some _ hS)
  · obtain ⟨h1, g1, d1, k1, o1⟩ := s1
    have e1 : g1 = s.gens := mv.gens
    have e2 : d1 = s.drawn := mv.drawn
    have e3 : o1 = s.os := mv.os
    subst e1; subst e2; subst e3
    refine wpAny_pure ?_
    show wpAny _ _ (ret Value.none) _ _ _
    refine wpAny_pure (h h1 k1 hH fun b o nb g => mv.heap b o ?_ (Heap.get?_push_of_some _ g))
    intro z
    rcases List.mem_cons.mp z with z | z
    · exact nb z
    · exact absurd (List.mem_singleton.mp z) (Nat.ne_of_lt (Heap.lt_size g))
/-- set(xs), xs a list of texts -/
theorem set_of_texts {l : Addr} {items : Array Value} {xs : List Str} {Q : Value → Shared → Prop} (hh : A.handled = none) (hl : s.heap.IsList l items) (hi : PyProof.Rows.StrsAre items.toList xs) (few : xs.length + 1 < scanBound)
    (h : ∀ (h' : Heap) (tk : Nat), Holds prog w h' s.heap.objs.size xs → (∀ b o, s.heap.get? b = some o → h'.get? b = some o) → Q (.ref s.heap.objs.size) { s with heap := h', toks := tk }) :
    wpAny (model prog w) A (call (.type "set") [.ref l]) Q E s := by
  obtain ⟨c, tl, hmro⟩ := PySem.F.called_set.mro
  have made := PySem.F.called_set.made
  have subs := PySem.F.called_set.sub
  have noTy := PySem.F.called_set.notType
  have canC := PySem.F.called_set.canCreate
  have tcal := PySem.F.typeCall_set_1 (.ref l)
  refine wpAny_call (codeAny_of_tree ?_)
  show wpAny _ _ (callAny (.type "set") _) _ _ _
  refine wpAny_pure ⟨Code.quiet_builtin _ (by decide +kernel), codeAny_builtin PySem.F.entry_type_call ?_⟩
  rw [Around.under_plain (weight_type_call_type "set" [.ref l] []) rfl]
  repeat (any_goals (first | assumption | wp_step))
  refine codeAny_mono (code_set_led1 (.ref l) (E := E) (Q₁ := fun ob s1 => ob = .ref s.heap.objs.size ∧ s1 = { s with heap := s.heap.push (bareSet w) }) ⟨rfl, rfl⟩) fun r s1 hr => ?_
  cases r with
  | error e => exact hr
  | ok fl =>
    cases fl with
    | ret ob =>
      obtain ⟨rfl, rfl⟩ := hr
      have gS : (s.heap.push (bareSet w)).get? s.heap.objs.size = some (bareSet w) := Heap.get?_push_size _ rfl
      have tS : Shared.TypeIs { s with heap := s.heap.push (bareSet w) } (.ref s.heap.objs.size) "set" := ⟨_, gS, rfl⟩
      have il := PySem.F.called_set.init.lookup
      have ib := PySem.F.called_set.init.bind (.ref s.heap.objs.size)
      repeat (any_goals (first | assumption | wp_step))
      obtain ⟨ol, hol, _⟩ := id hl
      have lS : l < s.heap.objs.size := Heap.lt_size hol
      refine codeAny_mono (init_from_list (prog := prog) (w := w) (E := E) (s := { s with heap := s.heap.push (bareSet w) }) (xs := xs) (Q := fun r s2 => r = .none ∧ ∃ h' tk, s2 = { s with heap := h', toks := tk } ∧ Holds prog w h' s.heap.objs.size xs ∧ ∀ b o, s.heap.get? b = some o → h'.get? b = some o) ?_ gS (hl.push _) (Nat.ne_of_gt lS) hi few fun h' tk hH k => ⟨rfl, h', tk, rfl, hH, fun b o g => k b o (Nat.ne_of_lt (Heap.lt_size g)) (Heap.get?_push_of_some _ g)⟩) fun r2 s2 hr2 => ?_
      · simp [hh]
      · cases r2 with
        | error e => exact hr2
        | ok fl2 =>
          cases fl2 with
          | ret r =>
            obtain ⟨rfl, h', tk, rfl, hH, k⟩ := hr2
            repeat (any_goals (first | assumption | wp_step))
            exact h _ _ hH k
          | _ => exact hr2.elim
    | _ => exact hr.elim
end
end Tw

set_option Elab.async false
set_option linter.all false
set_option maxRecDepth 100000
set_option maxHeartbeats 4000000
namespace Tw
open PySem L2 PySem.Spec PyProof.Rows
section
variable {prog : Program} {w : World} {A : Around} {E : Value → Shared → Prop} {s : Shared}
theorem list_sort_texts {a : Addr} {vs : List Value} {ss : List Str} {n : Nat} {P : Fin → Shared → Prop} (ho : s.heap.get? a = some (seqObj "list" vs.toArray n)) (hS : StrsAre vs ss) (hL : vs.length ≤ sizeLine)
    (h : ∀ (out : Array Value) (ss' : List Str), StrsAre out.toList ss' → ss'.Perm ss → sortedS ss' = true → P (.done (.ret .none)) { s with heap := sortedHeap s.heap a vs out }) :
    wpAny (model prog w) A (Builtin.«list.sort» ⟨[.ref a], []⟩) P E s := by
  refine list_sort_treeKAny strKind_oneLt ho hS.keysOf (fun v₁ v₂ rest e => keyKind_strs (by rw [← e]; exact hS)) hL fun st' hp hs => ?_
  obtain ⟨ss', h1, h2, h3⟩ := sorted_out_str hS hp hs
  exact h _ ss' h1 h2 h3
theorem strs_of_keys : ∀ {M : List (Str × Value)}, (∀ p ∈ M, (PySem.strKind prog w).is p.1 p.2 = true) → StrsAre (M.map (·.2)) (M.map (·.1))
  | [], _ => .nil
  | p :: M, h => by
    have hp := h p List.mem_cons_self
    obtain ⟨x, v⟩ := p
    have : ∃ t, v = .str x t := Value.isStrOf_shape hp
    obtain ⟨t, rfl⟩ := this
    exact .cons x t (strs_of_keys fun q hq => h q (List.mem_cons_of_mem _ hq))
/-- sorted(a), a a set of texts -/
theorem sorted_of_texts {a : Addr} {xs : List Str} {Q : Value → Shared → Prop} (hH : Holds prog w s.heap a xs) (hh : A.handled = none)
    (hQ : ∀ s' p (out : Array Value) (c : Nat) (zs : List Str), (∀ b o, s.heap.get? b = some o → s'.heap.get? b = some o) → s'.gens = s.gens → s'.os = s.os → s.heap.objs.size ≤ p →
      s'.heap.get? p = some (seqObj "list" out c) → StrsAre out.toList zs → sortedS zs = true → zs.Nodup → (∀ k, k ∈ zs ↔ k ∈ xs) → zs.length ≤ sizeLine → Q (.ref p) s') :
    wpAny (model prog w) A (call (.builtin "sorted") [.ref a]) Q E s := by
  obtain ⟨L, ⟨o, es, ep, t, ho, hex, hd, ge, gi, nd, hb, hf, hr, hl⟩, hm, hn⟩ := hH
  refine Calls.call_function_entry kind_sorted plain_sorted entry_sorted (args_sorted1 _) ?_
  unfold Builtin.«sorted»
  refine wpAny_bind (m := checkCount "sorted" 1 1 _) (wpAny_pure ?_)
  refine wpAny_bind (collect_set (A := A.in1) hh ⟨o, ho, hex.1, hd⟩ hf hb hr hl fun s1 vs k1 hz g1 o1 pm => ?_)
  have ge2 : es.toList.map (·.2) = L.map (·.2) := by rw [ge, List.map_map]; rfl
  rw [ge2] at pm
  obtain ⟨M, rfl, pM⟩ := perm_unmap pm
  have kM : ∀ p ∈ M, (PySem.strKind prog w).is p.1 p.2 = true := fun p hp => (gi p (pM.mem_iff.mp hp)).1
  have hS := strs_of_keys kM
  have hlen : M.length = es.size := by rw [pM.length_eq, ← Array.length_toList, ge, List.length_map]
  have hsl : (M.map (·.2)).length ≤ sizeLine := by
    rw [List.length_map, hlen]
    exact Nat.le_of_lt (Nat.lt_of_lt_of_le hb (by decide))
  refine wpAny_bind (wpAny_newList ?_ hsl)
  have hoL : (s1.heap.push (seqObj "list" (M.map (·.2)).toArray 0)).get? s1.heap.objs.size = some (seqObj "list" (M.map (·.2)).toArray 0) := Heap.get?_push_size _ rfl
  refine wpAny_bind (wpAny_holding (wpAny_call_entry slot_list_sort ⟨_, hoL, rfl⟩ entry_list_sort (list_sort_texts hoL hS hsl fun out zs a1 a2 a3 => ⟨_, rfl, ?_⟩) (args_list_sort _)))
  obtain ⟨c, hc⟩ := sortedHeap_at (vs := M.map (·.2)) (out := out) hoL
  have pn : zs.Perm (L.map (·.1)) := a2.trans (pM.map _)
  refine wpAny_pure ⟨_, rfl, hQ _ s1.heap.objs.size out c zs (fun b u e => ?_) g1 o1 hz hc a1 a3 (pn.nodup_iff.mpr nd) (fun k => by rw [pn.mem_iff, hm k]) ?_⟩
  · have q := k1 b u e
    have hlt := Heap.lt_size q
    show (sortedHeap (s1.heap.push (seqObj "list" (M.map (·.2)).toArray 0)) s1.heap.objs.size (M.map (·.2)) out).get? b = some u
    rw [sortedHeap_old (Nat.ne_of_lt hlt) (by rw [size_push']; exact Nat.lt_succ_of_lt hlt)]
    exact Heap.get?_push_of_some _ q
  · rw [pn.length_eq, List.length_map]
    rw [List.length_map, pM.length_eq] at hsl
    exact hsl
end
section
variable {X : Cx}
/-- sorted(set(xs)), xs a list of texts: a new list, each text once, in order -/
def tSortedSet (K : PySem.W.Frag) (ta : TE) : TE := fun σ H Q => ta σ H fun x H1 => ∃ (l : Addr) (xs : List Str), x = .ref l ∧ SqL K H1 l (xs.map V.str) ∧ xs.length + 1 < scanBound ∧
  ∀ (zs : List Str) (p : Addr), sortedS zs = true → zs.Nodup → (∀ k, k ∈ zs ↔ k ∈ xs) → H1 p = none → Q (.ref p) (upd H1 p (.lst (zs.map V.str)))
theorem pe_sortedSet {K : PySem.W.Frag} {a : Expr} {ta : TE} {p p2 q pos : Pos} (hK : X.K = K) (hc : X.calm = true) (hg : Gl X "sorted") (hm : X.mg "sorted" = none) (hg2 : Gl X "set") (hm2 : X.mg "set" = none) (ha : PE X a ta)
    (na : starEach [a] X.env = (false, eval a X.env) :: starEach [] X.env := by rfl) : PE X (.Call (.Name "sorted" p) [.Call (.Name "set" p2) [a] [] q] [] pos) (tSortedSet K ta) := by
  subst hK
  refine ⟨fun pins s σ H Q I h => ?_⟩
  refine Call_ (ld_blt I hg hm boot_sorted ?_)
  refine PyProof.Rows.callWith_builtin1 (PyProof.Rows.args_cons ?_ rfl) rfl rfl
  refine Call_ (ld_blt I hg2 hm2 boot_set ?_)
  refine PyProof.Rows.callWith_type1 (PyProof.Rows.args_cons (thn (ha.run pins s σ H _ I h) fun v s1 ⟨x, H1, I1, r1, q1⟩ => PyProof.Rows.args_nil ?_) na) na rfl
  obtain ⟨l, xs, rfl, hq, h1, q1⟩ := q1
  cases r1
  obtain ⟨its, r, pl, hz⟩ := I1.list hq
  refine set_of_texts (I1.ok.hd hc) pl.isList (by simpa using strsAre_of r) h1 fun h' tk hS hk => ?_
  refine PyProof.Rows.args_nil ?_
  have I2 : Inv X pins σ H1 { s1 with heap := h', toks := tk } := I1.kept fun b o e => hk b o e
  refine sorted_of_texts hS (I2.ok.hd hc) fun s' p out c zs k g o hp hg so ord nd hm hl => ?_
  have hlen : (zs.map V.str).length ≤ sizeLine := by rw [List.length_map]; exact hl
  have hn : H1 p = none := I2.hok.fresh hp
  have J : Inv X pins σ (upd H1 p (.lst (zs.map V.str))) { ({ s1 with heap := h', toks := tk } : Shared) with heap := s'.heap, gens := s'.gens, drawn := s'.drawn, toks := s'.toks } :=
    I2.call (ch := []) (Un.laid k hp hn) (I2.hok.laid k hp ⟨hlen, out.toList, c, vals_of_strs so, hg⟩) (by rw [g]; exact I2.bare) (fun _ z => nomatch z)
  have e : s' = { ({ s1 with heap := h', toks := tk } : Shared) with heap := s'.heap, gens := s'.gens, drawn := s'.drawn, toks := s'.toks } := by
    cases s'
    cases s1
    cases o
    rfl
  rw [e]
  exact ⟨.ref p, _, J, rfl, q1 zs p ord nd hm hn⟩
end
end Tw

set_option Elab.async false
set_option linter.all false
set_option maxRecDepth 100000
set_option maxHeartbeats 4000000
/-! how many unlike texts a list or a tuple holds -/
namespace Tw
open PySem L2 PySem.Spec PyProof.Rows
section
variable {prog : Program} {w : World} {A : Around} {s : Shared} {E : Value → Shared → Prop}
/-- set.__init__(S, xs) on a bare set -/
theorem init_from_tuple {S l : Addr} {items : Array Value} {xs : List Str} (hh : A.handled = none) (hS : s.heap.get? S = some (bareSet w)) (hl : s.heap.IsTuple l items) (ne : S ≠ l) (hi : PyProof.Rows.StrsAre items.toList xs) (few : xs.length + 1 < scanBound) {Q : Value → Shared → Prop}
    (h : ∀ (h' : Heap) (tk : Nat), Holds prog w h' S xs → (∀ b o, b ≠ S → s.heap.get? b = some o → h'.get? b = some o) → Q .none { s with heap := h', toks := tk }) :
    codeAny (model prog w) A (.call (.builtin "set.__init__") ⟨[.ref S, .ref l], []⟩) (wants Q E) s := by
  have tS : s.TypeIs (.ref S) "set" := ⟨_, hS, rfl⟩
  refine codeAny_call_builtin PySem.F.called_set.init.plain PySem.F.entry_set_init (check_set_init_1 tS ?_)
  obtain ⟨ol, hol, hcl, nl, hdl⟩ := id hl
  obtain ⟨ocls, odict, odata, oslots⟩ := ol
  simp only at hcl hdl
  subst hcl; subst hdl
  have f1 := PySem.F.sub_tuple_set
  have f2 := PySem.F.sub_tuple_frozenset
  have f3 : (Value.type "tuple" == Value.type "dict") = false := by decide
  unfold Builtin.«set.__init__» noKeywords Builtin.Frozenset.updateFrom
  generalize hPI : pyIter = PI
  wp_walk
  subst hPI
  refine wpAny_pyIter_tuple hl ?_
  refine wpAny_bind (wpAny_runValue ?_)
  have lS : l < s.heap.objs.size := Heap.lt_size hol
  have sS : S < s.heap.objs.size := Heap.lt_size hS
  have quiet : A.in1.in1.handled = none := by simp [hh]
  have sz : xs.length = items.size := by rw [← StrsAre.len_eq hi, Array.length_toList]
  have gv : ∀ (i : Nat) (v : Value), items[i]? = some v → ∃ t, v = .str (xs.getD i Str.empty) t := fun i v hv => SS.strs_at hi i v (by rw [Array.getElem?_toList]; exact hv)
  refine all_come_in ((Walks.tuple quiet s.heap.objs.size l (Nat.ne_of_lt lS) items).toS) S ?_ xs sz (by omega) gv items.size 0 _ (by omega) ?_ ?_ fun s1 mv hH => ?_
  · intro z
    rcases List.mem_cons.mp z with z | z
    · exact absurd z (Nat.ne_of_lt sS)
    · exact ne (List.mem_singleton.mp z)
  · exact ⟨⟨_, Heap.get?_push_size _ rfl, rfl, rfl⟩, hl.push _⟩
  · exact bare_holds (Heap.get?_push_of_some _ hS)
  · obtain ⟨h1, g1, d1, k1, o1⟩ := s1
    have e1 : g1 = s.gens := mv.gens
    have e2 : d1 = s.drawn := mv.drawn
    have e3 : o1 = s.os := mv.os
    subst e1; subst e2; subst e3
    refine wpAny_pure ?_
    show wpAny _ _ (ret Value.none) _ _ _
    refine wpAny_pure (h h1 k1 hH fun b o nb g => mv.heap b o ?_ (Heap.get?_push_of_some _ g))
    intro z
    rcases List.mem_cons.mp z with z | z
    · exact nb z
    · exact absurd (List.mem_singleton.mp z) (Nat.ne_of_lt (Heap.lt_size g))
/-- set(xs), xs a tuple of texts -/
theorem set_of_textsT {l : Addr} {items : Array Value} {xs : List Str} {Q : Value → Shared → Prop} (hh : A.handled = none) (hl : s.heap.IsTuple l items) (hi : PyProof.Rows.StrsAre items.toList xs) (few : xs.length + 1 < scanBound)
    (h : ∀ (h' : Heap) (tk : Nat), Holds prog w h' s.heap.objs.size xs → (∀ b o, s.heap.get? b = some o → h'.get? b = some o) → Q (.ref s.heap.objs.size) { s with heap := h', toks := tk }) :
    wpAny (model prog w) A (call (.type "set") [.ref l]) Q E s := by
  obtain ⟨c, tl, hmro⟩ := PySem.F.called_set.mro
  have made := PySem.F.called_set.made
  have subs := PySem.F.called_set.sub
  have noTy := PySem.F.called_set.notType
  have canC := PySem.F.called_set.canCreate
  have tcal := PySem.F.typeCall_set_1 (.ref l)
  refine wpAny_call (codeAny_of_tree ?_)
  show wpAny _ _ (callAny (.type "set") _) _ _ _
  refine wpAny_pure ⟨Code.quiet_builtin _ (by decide +kernel), codeAny_builtin PySem.F.entry_type_call ?_⟩
  rw [Around.under_plain (weight_type_call_type "set" [.ref l] []) rfl]
  repeat (any_goals (first | assumption | wp_step))
  refine codeAny_mono (code_set_led1 (.ref l) (E := E) (Q₁ := fun ob s1 => ob = .ref s.heap.objs.size ∧ s1 = { s with heap := s.heap.push (bareSet w) }) ⟨rfl, rfl⟩) fun r s1 hr => ?_
  cases r with
  | error e => exact hr
  | ok fl =>
    cases fl with
    | ret ob =>
      obtain ⟨rfl, rfl⟩ := hr
      have gS : (s.heap.push (bareSet w)).get? s.heap.objs.size = some (bareSet w) := Heap.get?_push_size _ rfl
      have tS : Shared.TypeIs { s with heap := s.heap.push (bareSet w) } (.ref s.heap.objs.size) "set" := ⟨_, gS, rfl⟩
      have il := PySem.F.called_set.init.lookup
      have ib := PySem.F.called_set.init.bind (.ref s.heap.objs.size)
      repeat (any_goals (first | assumption | wp_step))
      obtain ⟨ol, hol, _⟩ := id hl
      have lS : l < s.heap.objs.size := Heap.lt_size hol
      refine codeAny_mono (init_from_tuple (prog := prog) (w := w) (E := E) (s := { s with heap := s.heap.push (bareSet w) }) (xs := xs) (Q := fun r s2 => r = .none ∧ ∃ h' tk, s2 = { s with heap := h', toks := tk } ∧ Holds prog w h' s.heap.objs.size xs ∧ ∀ b o, s.heap.get? b = some o → h'.get? b = some o) ?_ gS (hl.push _) (Nat.ne_of_gt lS) hi few fun h' tk hH k => ⟨rfl, h', tk, rfl, hH, fun b o g => k b o (Nat.ne_of_lt (Heap.lt_size g)) (Heap.get?_push_of_some _ g)⟩) fun r2 s2 hr2 => ?_
      · simp [hh]
      · cases r2 with
        | error e => exact hr2
        | ok fl2 =>
          cases fl2 with
          | ret r =>
            obtain ⟨rfl, h', tk, rfl, hH, k⟩ := hr2
            repeat (any_goals (first | assumption | wp_step))
            exact h _ _ hH k
          | _ => exact hr2.elim
    | _ => exact hr.elim
end
section
variable {X : Cx}
def SqAny (K : PySem.W.Frag) (H : Hp) (l : Addr) (xs : List V) : Prop := SqL K H l xs ∨ SqT K H l xs
/-- len(set(xs)), xs a list or a tuple of texts -/
def tLenSetX (K : PySem.W.Frag) (ta : TE) : TE := fun σ H Q => ta σ H fun x H1 => ∃ (l : Addr) (xs : List Str), x = .ref l ∧ SqAny K H1 l (xs.map V.str) ∧ xs.length + 1 < scanBound ∧
  ∀ (zs : List Str), zs.Nodup → (∀ k, k ∈ zs ↔ k ∈ xs) → zs.length ≤ xs.length → Q (.int zs.length) H1
theorem g_lenSetX {K : PySem.W.Frag} {ta : TE} {σ : L2.St} {H : Hp} {Q : VK} (q : ta σ H fun x H1 => ∃ (l : Addr) (xs : List Str), x = .ref l ∧ SqAny K H1 l (xs.map V.str) ∧ xs.length + 1 < scanBound ∧
  ∀ (zs : List Str), zs.Nodup → (∀ k, k ∈ zs ↔ k ∈ xs) → zs.length ≤ xs.length → Q (.int zs.length) H1) : tLenSetX K ta σ H Q := q
theorem pe_lenSetX {K : PySem.W.Frag} {a : Expr} {ta : TE} {p p2 q pos : Pos} (hK : X.K = K) (hc : X.calm = true) (hg : Gl X "len") (hm : X.mg "len" = none) (hg2 : Gl X "set") (hm2 : X.mg "set" = none) (ha : PE X a ta)
    (na : starEach [a] X.env = (false, eval a X.env) :: starEach [] X.env := by rfl) : PE X (.Call (.Name "len" p) [.Call (.Name "set" p2) [a] [] q] [] pos) (tLenSetX K ta) := by
  subst hK
  refine ⟨fun pins s σ H Q I h => ?_⟩
  refine Call_ (ld_blt I hg hm boot_len ?_)
  refine PyProof.Rows.callWith_builtin1 (PyProof.Rows.args_cons ?_ rfl) rfl rfl
  refine Call_ (ld_blt I hg2 hm2 boot_set ?_)
  refine PyProof.Rows.callWith_type1 (PyProof.Rows.args_cons (thn (ha.run pins s σ H _ I h) fun v s1 ⟨x, H1, I1, r1, q1⟩ => PyProof.Rows.args_nil ?_) na) na rfl
  obtain ⟨l, xs, rfl, hq, h1, q1⟩ := q1
  cases r1
  have fin : ∀ (h' : Heap) (tk : Nat), Holds X.prog X.w h' s1.heap.objs.size xs → (∀ b o, s1.heap.get? b = some o → h'.get? b = some o) →
      wpAny (model X.prog X.w) X.A (spliced (backTo pos (starEach [] X.env))) (fun vs s₂ => wpAny (model X.prog X.w) X.A (call (.builtin "len") (Value.ref s1.heap.objs.size :: vs)) (EP X pins σ Q) X.xe s₂) X.xe { s1 with heap := h', toks := tk } := fun h' tk hS hk => by
    refine PyProof.Rows.args_nil ?_
    obtain ⟨L, ⟨o, es, ep, t, ho, hex, hd, ge, gi, nd, hb, hf, _⟩, hm, hn⟩ := hS
    have I2 : Inv X pins σ H1 { s1 with heap := h', toks := tk } := I1.kept fun b o e => hk b o e
    have hl : es.size = (L.map (·.1)).length := by rw [List.length_map, ← Array.length_toList, ge, List.length_map]
    refine call_len_set ho hex hd hf (by have : es.size < 1000000000000 := Nat.lt_of_lt_of_le hb (by decide); omega) ⟨.int (L.map (·.1)).length, H1, I2.tok _, ⟨_, by rw [hl]⟩, q1 _ nd hm (by rw [List.length_map]; exact hn)⟩
  rcases hq with hq | hq
  · obtain ⟨its, r, pl, hz⟩ := I1.list hq
    exact set_of_texts (I1.ok.hd hc) pl.isList (by simpa using strsAre_of r) h1 fin
  · obtain ⟨its, r, pl, hz⟩ := I1.tuple hq
    exact set_of_textsT (I1.ok.hd hc) pl (by simpa using strsAre_of r) h1 fin
end
end Tw

set_option Elab.async false
set_option linter.all false
set_option maxRecDepth 100000
namespace Tw
open PySem L2 PySem.Spec
/-- the address that a name of the text stands for -/
def cadr (mg : Str → Option Value) (x : Str) : Addr := match mg x with
  | some (.ref a) => a
  | _ => 0
theorem cadr_of {mg : Str → Option Value} {x : Str} {a : Addr} (h : mg x = some (.ref a)) : cadr mg x = a := by
  unfold cadr
  rw [h]
/-- a method of a class of the text with its promise -/
structure DefM (P : Program) (w : World) (K : PySem.W.Frag) (mg : Str → Option Value) (base : Heap) (k : Nat) (C : Addr) (m : Str) (ps : List Str) (sp : Sp) : Prop where
  ex : ∃ (f : Addr) (fd : FuncData), FnOk P w K mg base CX0 k f fd ps sp ∧ Meth K C m f ∧ Binds K fd ps []
/-- where a method of the text stands -/
structure HereM (K : PySem.W.Frag) (C : Addr) (m qual : Str) (st : Stmt) (ps : List Str) (f : Addr) (fd : FuncData) : Prop where
  fn : Fun K m qual st f fd
  me : Meth K C m f
  bd : Binds K fd ps []
/-- a maker of a class of the text with its promise -/
structure DefC (P : Program) (w : World) (K : PySem.W.Frag) (mg : Str → Option Value) (base : Heap) (k : Nat) (C : Addr) (ps : List Str) (sp : Sp) : Prop where
  ex : ∃ (f : Addr) (fd : FuncData), FnOk P w K mg base CX0 k f fd ps sp ∧ Mk K C f ∧ Binds K fd ps []
structure HereC (K : PySem.W.Frag) (C : Addr) (qual : Str) (st : Stmt) (ps : List Str) (f : Addr) (fd : FuncData) : Prop where
  fn : Fun K "__init__" qual st f fd
  mkr : Mk K C f
  bd : Binds K fd ps []
theorem HereM.def {P : Program} {w : World} {K : PySem.W.Frag} {mg : Str → Option Value} {base : Heap} {k : Nat} {C : Addr} {m qual : Str} {st : Stmt} {ps : List Str} {sp : Sp} {f : Addr} {fd : FuncData} (h : HereM K C m qual st ps f fd) (F : FnOk P w K mg base CX0 k f fd ps sp) : DefM P w K mg base k C m ps sp :=
  ⟨f, fd, F, h.me, h.bd⟩
theorem HereC.def {P : Program} {w : World} {K : PySem.W.Frag} {mg : Str → Option Value} {base : Heap} {k : Nat} {C : Addr} {qual : Str} {st : Stmt} {ps : List Str} {sp : Sp} {f : Addr} {fd : FuncData} (h : HereC K C qual st ps f fd) (F : FnOk P w K mg base CX0 k f fd ps sp) : DefC P w K mg base k C ps sp :=
  ⟨f, fd, F, h.mkr, h.bd⟩
section
variable {X : Cx} {k j : Nat} {C : Addr} {x m : Str} {p pos apos : Pos} {o e : Expr} {es : List Expr} {ps : List Str} {sp : Sp} {ta : TE} {t : TA}
def tMe (C : Addr) (m : Str) (sp : Sp) (ta : TE) (t : TA) : TE := fun σ H Q => ta σ H fun x H1 => ∃ a dx fs, x = .ref a ∧ H1 a = some (.ins C dx fs) ∧ fs.lookup m = none ∧ t σ H1 fun vs H2 => sp (x :: vs) H2 Q E0
theorem tMe_eq : tMeth C m sp [] E0 ta t = tMe C m sp ta t := by
  funext σ H Q
  unfold tMeth tMe
  simp only [List.append_nil]
def tNew (C : Addr) (sp : Sp) (t : TA) : TE := fun σ H Q => t σ H fun vs H1 => ∀ x dx, H1 x = none → H1 dx = none → dx ≠ x → sp (.ref x :: vs) (upd (upd H1 dx (.own x)) x (.ins C dx [])) (fun v H2 => v = .non ∧ Q (.ref x) H2) E0
theorem tNew_eq : tMake C sp [] E0 t = tNew C sp t := by
  funext σ H Q
  unfold tMake tNew
  simp only [List.append_nil]
theorem pe_never : PE X e (fun _ _ _ => False) := ⟨fun _ _ _ _ _ _ h => h.elim⟩
theorem pe_fldG {K : PySem.W.Frag} {f : Str} (hK : X.K = K) (he : PE X e ta) (hb : attributeBase e f X.env (eval e X.env) = eval e X.env) : PE X (.Attribute e f pos) (tFld K ta f) := by
  subst hK
  exact pe_fld he hb
theorem pi_tupG {K : PySem.W.Frag} {tg : Expr} (hK : X.K = K) (he : PE X e ta) : PI X tg e (iTup K ta) := by
  subst hK
  exact pi_tup he
theorem pi_listG {K : PySem.W.Frag} {tg : Expr} (hK : X.K = K) (he : PE X e ta) : PI X tg e (iList K ta) := by
  subst hK
  exact pi_list he
theorem pe_me {pl : Sem Bool} (he : PE X o ta) (c : Cls X.K C) (D : DefM X.prog X.w X.K X.mg X.base k C m ps sp) (hr : Room j X.A) (ha : PA X (e :: es) t) (hk : k ≤ j := by decide)
    (hst : starEach (e :: es) X.env = (false, eval e X.env) :: starEach es X.env := by rfl) (hpl : (backTo pos (starEach es X.env)).any (·.1) = false := by rfl)
    (ht : eval (.Call (.Attribute o m apos) (e :: es) [] pos) X.env = (do
      let ov ← eval o X.env
      standAt apos.atName
      let (f, first) ← holding [ov] (getMethod ov m pl)
      callWith pos f first (backTo pos (starEach (e :: es) X.env)) (backToKw pos (keywordEach [] X.env))) := by rfl) : PE X (.Call (.Attribute o m apos) (e :: es) [] pos) (tMe C m sp ta t) := by
  obtain ⟨f, fd, F, hm, hb⟩ := D.ex
  rw [← tMe_eq]
  exact pe_meth he c hm F (hr.mono hk) hb .nil pass0 ha hst hpl ht
theorem pe_me0 {pl : Sem Bool} (he : PE X o ta) (c : Cls X.K C) (D : DefM X.prog X.w X.K X.mg X.base k C m ps sp) (hr : Room j X.A) (hk : k ≤ j := by decide)
    (ht : eval (.Call (.Attribute o m apos) [] [] pos) X.env = (do
      let ov ← eval o X.env
      standAt apos.atName
      let (f, first) ← holding [ov] (getMethod ov m pl)
      callWith pos f first (backTo pos (starEach [] X.env)) (backToKw pos (keywordEach [] X.env))) := by rfl) : PE X (.Call (.Attribute o m apos) [] [] pos) (tMe C m sp ta tNil) := by
  obtain ⟨f, fd, F, hm, hb⟩ := D.ex
  rw [← tMe_eq]
  exact pe_meth0 he c hm F (hr.mono hk) hb .nil pass0 ht
theorem pe_new (D : DefC X.prog X.w X.K X.mg X.base k C ps sp) (hr : Room j X.A) (hg : Gl X x) (hm : X.mg x = some (.ref C)) (ha : PA X (e :: es) t) (hk : k + 1 ≤ j := by decide) (hdb : (x == ("__debug__" : Str)) = false := by decide)
    (he : starEach (e :: es) X.env = (false, eval e X.env) :: starEach es X.env := by rfl) (hpl : (backTo pos (starEach es X.env)).any (·.1) = false := by rfl) : PE X (.Call (.Name x p) (e :: es) [] pos) (tNew C sp t) := by
  obtain ⟨f, fd, F, mk, hb⟩ := D.ex
  rw [← tNew_eq]
  exact pe_make mk F (hr.mono hk) hg hm hb .nil pass0 ha hdb he hpl
end
section
variable {K : PySem.W.Frag} {σ : L2.St} {H : Hp} {Q : VK} {QT : Bool → Hp → Prop} {QA : List V → Hp → Prop} {D : Ends} {ta tv te : TE} {t : TA} {sp : Sp} {C : Addr} {f m : Str}
theorem g_sortedSet (q : ta σ H fun x H1 => ∃ (l : Addr) (xs : List Str), x = .ref l ∧ SqL K H1 l (xs.map V.str) ∧ xs.length + 1 < scanBound ∧
  ∀ (zs : List Str) (p : Addr), PyProof.Rows.sortedS zs = true → zs.Nodup → (∀ k, k ∈ zs ↔ k ∈ xs) → H1 p = none → Q (.ref p) (upd H1 p (.lst (zs.map V.str)))) : tSortedSet K ta σ H Q := q
theorem g_dget {td ty : TE} (q : td σ H fun x H1 => ty σ H1 fun y H2 => ∃ a v, x = .ref a ∧ DGet H2 a y (some v) ∧ Q v H2) : tDGet td ty σ H Q := q
theorem g_din {td ty : TE} (q : ty σ H fun y H1 => td σ H1 fun x H2 => ∃ a o, x = .ref a ∧ DGet H2 a y o ∧ Q (.bl o.isSome) H2) : tDIn ty td σ H Q := q
theorem g_dnotin {td ty : TE} (q : ty σ H fun y H1 => td σ H1 fun x H2 => ∃ a o, x = .ref a ∧ DGet H2 a y o ∧ Q (.bl (!o.isSome)) H2) : tDNotIn ty td σ H Q := q
theorem g_neB {a b : Bool} (q : Q (.bl (!decide (a = b))) H) : rNe (.bl a) (.bl b) H Q := ⟨rfl, by rw [dB]; exact q⟩
theorem g_itup {R : It → Hp → Prop} (q : ta σ H fun x H1 => ∃ a, x = .ref a ∧ (∃ xs, SqT K H1 a xs) ∧ R (Itt K a) H1) : iTup K ta σ H R := q
theorem for_tupA {p : Addr} {xs : List V} {g : TG} {tb : TS} (Pv : Nat → L2.St → Hp → Prop) (h0 : Pv 0 σ H) (hl : ∀ i σ H, i ≤ xs.length → Pv i σ H → SqT K H p xs)
    (hs : ∀ i x σ H (D' : Ends), xs[i]? = some x → Pv i σ H → (∀ σ H, Pv (i + 1) σ H → D'.nx σ H) → (∀ σ H, Pv (i + 1) σ H → D'.ct σ H) → (∀ σ H, D.nx σ H → D'.bk σ H) → D'.rt = D.rt → g x σ H fun σ2 H2 => tb D' σ2 H2) (hd : ∀ σ H, Pv xs.length σ H → D.nx σ H) :
    ∃ W : Nat → Nat → L2.St → Hp → Prop, (∃ m, W 0 m σ H) ∧ ∀ i m σ H, W i m σ H →
      ((Itt K p).stop i H ∧ D.nx σ H) ∨ ((Itt K p).go i H ∧ ∃ N : L2.St → Hp → Prop, (∀ σ' H', N σ' H' → ∃ m', m' < m ∧ W (i + 1) m' σ' H') ∧ ∀ x H', (Itt K p).yld i H x H' → g x σ H' fun σ2 H2 => tb { D with nx := N, ct := N, bk := D.nx } σ2 H2) :=
  for_tup Pv h0 hl (fun i x σ H hi p => hs i x σ H _ hi p (fun _ _ h => h) (fun _ _ h => h) (fun _ _ h => h) rfl) hd
theorem g_me (q : ta σ H fun x H1 => ∃ a dx fs, x = .ref a ∧ H1 a = some (.ins C dx fs) ∧ fs.lookup m = none ∧ t σ H1 fun vs H2 => sp (x :: vs) H2 Q E0) : tMe C m sp ta t σ H Q := q
theorem g_new (q : t σ H fun vs H1 => ∀ x dx, H1 x = none → H1 dx = none → dx ≠ x → sp (.ref x :: vs) (upd (upd H1 dx (.own x)) x (.ins C dx [])) (fun v H2 => v = .non ∧ Q (.ref x) H2) E0) : tNew C sp t σ H Q := q
theorem g_fld (q : ta σ H fun x H1 => ∃ a C dx fs v, x = .ref a ∧ H1 a = some (.ins C dx fs) ∧ Cls K C ∧ NoAttr K C f ∧ fs.lookup f = some v ∧ Q v H1) : tFld K ta f σ H Q := q
theorem g_sfld (q : tv σ H fun y H1 => ta σ H1 fun x H2 => ∃ a C dx fs, x = .ref a ∧ H2 a = some (.ins C dx fs) ∧ Cls K C ∧ NoAttr K C f ∧ fs.length < 1000 ∧ D.nx σ (upd H2 a (.ins C dx (putF f y fs)))) : sFld K ta tv f D σ H := q
end
end Tw

set_option Elab.async false
set_option linter.all false
set_option maxRecDepth 100000
namespace Tw
open PySem L2 PySem.Spec
section
variable {X : Cx} {k j : Nat} {C : Addr} {ps : List Str} {sp : Sp}
/-- two instances of a class of the text, by its own operator -/
def rOwn2 (C : Addr) (sp : Sp) : R2 := fun x y H Q => ∃ (a b dx dy : Addr) (fs gs : List (Str × V)), x = .ref a ∧ y = .ref b ∧ H a = some (.ins C dx fs) ∧ H b = some (.ins C dy gs) ∧ sp [x, y] H Q E0
/-- an instance, by its class's own operator -/
def rOwn1 (C : Addr) (sp : Sp) : V → Hp → VK → Prop := fun x H Q => ∃ (a dx : Addr) (fs : List (Str × V)), x = .ref a ∧ H a = some (.ins C dx fs) ∧ sp [x] H Q E0
theorem back_of {pins : List (Addr × Obj)} {σ : L2.St} {Q : VK} {v : Value} {s : Shared} (h : EP X pins σ Q v s) : PySem.W.CmpBack (EP X pins σ Q) v s := by
  obtain ⟨x, H', I, r, q⟩ := h
  cases v with
  | notImplemented => cases x <;> first | (rcases r with ⟨t, h⟩; cases h; done) | (cases r; done)
  | _ => exact ⟨x, H', I, r, q⟩
theorem op_own2 {op : Operator} (D : DefM X.prog X.w X.K X.mg X.base k C (PySem.dunder op.info.2) ps sp) (hr : Room j X.A) (hf : PySem.W.selfFirst X.K C = true) (hk : k ≤ j := by decide) : OpR X (binaryOp op) (rOwn2 C sp) := by
  intro pins s σ H x y u v Q I rx ry h
  obtain ⟨a, b, dx, dy, fs, gs, rfl, rfl, ea, eb, q⟩ := h
  obtain rfl : u = Value.ref a := rx
  obtain rfl : v = Value.ref b := ry
  obtain ⟨f, fd, F, hm, hb⟩ := D.ex
  obtain ⟨_, OA, _⟩ := ins_get I.hok ea
  obtain ⟨_, OB, _⟩ := ins_get I.hok eb
  obtain ⟨_, ia, _⟩ := OA.look
  obtain ⟨_, ib, _⟩ := OB.look
  obtain ⟨m, fr⟩ := I.fr
  refine PySem.W.binop_K fr I.mod.kin ia ib.type hf hm.at_ hm.fn ?_
  refine wpAny_mono (run_fn F (hr.mono hk) hb .nil pass0 I (vs := [.ref a, .ref b]) (.cons (show RelV (.ref a) (.ref a) from rfl) (.cons (show RelV (.ref b) (.ref b) from rfl) .nil)) q) (fun _ _ z => back_of z) fun _ _ z => z
theorem un_inv {P : Program} {w : World} (D : DefM X.prog X.w X.K X.mg X.base k C "__invert__" ps sp) (hr : Room j X.A) (hk : k ≤ j := by decide) : UnR X (unaryOp .Invert) (rOwn1 C sp) := by
  intro pins s σ H x u Q I rx h
  obtain ⟨a, dx, fs, rfl, ea, q⟩ := h
  obtain rfl : u = Value.ref a := rx
  obtain ⟨f, fd, F, hm, hb⟩ := D.ex
  obtain ⟨_, OA, _⟩ := ins_get I.hok ea
  obtain ⟨_, ia, _⟩ := OA.look
  obtain ⟨m, fr⟩ := I.fr
  refine PySem.W.ksp_inv fr I.mod.kin ia hm.at_ hm.fn ?_
  exact run_fn F (hr.mono hk) hb .nil pass0 I (vs := [.ref a]) (.cons (show RelV (.ref a) (.ref a) from rfl) .nil) q
end
end Tw

set_option Elab.async false
set_option linter.all false
set_option maxRecDepth 100000
namespace Tw
open PySem L2 PySem.Spec
section
variable {prog : Program} {w : World} {A : Around} {E : Value → Shared → Prop} {s : Shared} {K : PySem.W.Frag} {x C f : Addr} {o : Obj} {od : Option Obj} {T : String}
/-- an own operator whose right side is of a built-in kind -/
theorem bin_kind {op : Operator} {b : Value} {lo ro rc : Option Value} {Q : Value → Shared → Prop} (kin : K.In s.heap) (inst : PySem.W.InstAt s.heap x o C od) (kind : PySem.W.Looks (model prog w) s.heap (typeOf b) (.type T)) (own : PySem.W.selfFirst K C = true)
    (at1 : PySem.W.findIn K (.ref C) (PySem.dunder op.info.2) = some (some (.ref f))) (isf : PySem.W.isFn K (.ref f) = true) (at2 : PySem.W.findIn K (.ref C) (dunderR op.info.2) = some rc) (at3 : rc = none ∨ ∃ g : Addr, rc = some (.ref g))
    (tl : PySem.W.findIn K (.type T) (PySem.dunder op.info.2) = some lo) (tr : PySem.W.findIn K (.type T) (dunderR op.info.2) = some ro) (ns : PySem.W.subIn K (.type T) (.ref C) = some false)
    (h : wpAny (model prog w) A (call (.ref f) [.ref x, b]) (PySem.W.CmpBack Q) E s) : wpAny (model prog w) A (binaryOp op (.ref x) b) Q E s := by
  obtain ⟨cd, more, ecd, emr⟩ := PySem.W.ksp_first own
  have asked := PySem.W.ksp_try kin inst at1 isf h
  cases nme : op.info with
  | mk sg nm =>
  rw [nme] at at1 at2 tl tr asked
  have q4 := PySem.W.ksp_fillsT (M := model prog w) kin tl tr
  have q3 : PySem.W.Looks (model prog w) s.heap (fillsNumberSlot (.ref C) nm) true := PySem.W.fills_K kin ecd emr at1
  have q5 : PySem.W.Looks (model prog w) s.heap (isSubtype (.type T) (.ref C)) false := PySem.W.looks_subIn kin ns
  have q6 : PySem.W.Looks (model prog w) s.heap (numberSlotInPython (.ref C) nm) true := PySem.W.ksp_inPy kin at1 at2 at3
  have q7 : PySem.W.Looks (model prog w) s.heap (numberSlotInPython (.type T) nm) false := PySem.W.Looks.of_pure rfl
  have q8 : PySem.W.Looks (model prog w) s.heap (typeLookup (.type T) (dunderR nm)) ro := PySem.W.looks_findIn kin tr
  have q1 : PySem.W.Looks (model prog w) s.heap (typeOf (.ref x)) (.ref C) := inst.type
  obtain ⟨hp, gg, dd, kk, oo⟩ := s
  have diff : (Value.ref C == Value.type T) = false := by
    cases e : (Value.ref C == Value.type T) with
    | false => rfl
    | true => cases (beq_iff_eq.mp e)
  generalize ((lo.isSome && !isSeqSlot lo) || (ro.isSome && !isSeqSlot ro)) = slot at q4
  simp only [binaryOp, nme]
  refine wpAny_holding (wpAny_bind ?_)
  unfold binaryOp1
  refine wpAny_bind (q1.at ?_)
  refine wpAny_bind (kind.at ?_)
  refine wpAny_bind (q3.at ?_)
  simp only [diff, Bool.false_eq_true, if_false]
  cases slot
  all_goals
    ksp_lk
    refine wpAny_mono asked (fun r t ht => ?_) fun _ _ e => e
    obtain ⟨v, rfl, hv⟩ := ht
    ksp_lk
    exact hv
end
end Tw
namespace Tw
open PySem L2 PySem.Spec
/-- the built-in kinds that a law's things are of -/
def kinds7 : List String := ["NoneType", "bool", "int", "str", "list", "tuple", "dict"]
theorem kin_and {K : PySem.W.Frag} {C : Addr} : ∀ T ∈ kinds7, (∃ lo, PySem.W.findIn K (.type T) (PySem.dunder Operator.BitAnd.info.2) = some lo) ∧ (∃ ro, PySem.W.findIn K (.type T) (dunderR Operator.BitAnd.info.2) = some ro) ∧ PySem.W.subIn K (.type T) (.ref C) = some false := by
  intro T h
  unfold kinds7 at h
  simp only [List.mem_cons, List.not_mem_nil, or_false] at h
  rcases h with rfl | rfl | rfl | rfl | rfl | rfl | rfl <;> exact ⟨Option.isSome_iff_exists.mp (by kernel_rfl), Option.isSome_iff_exists.mp (by kernel_rfl), by kernel_rfl⟩
end Tw
namespace Tw
open PySem L2 PySem.Spec
theorem kin_or {K : PySem.W.Frag} {C : Addr} : ∀ T ∈ kinds7, (∃ lo, PySem.W.findIn K (.type T) (PySem.dunder Operator.BitOr.info.2) = some lo) ∧ (∃ ro, PySem.W.findIn K (.type T) (dunderR Operator.BitOr.info.2) = some ro) ∧ PySem.W.subIn K (.type T) (.ref C) = some false := by
  intro T h
  unfold kinds7 at h
  simp only [List.mem_cons, List.not_mem_nil, or_false] at h
  rcases h with rfl | rfl | rfl | rfl | rfl | rfl | rfl <;> exact ⟨Option.isSome_iff_exists.mp (by kernel_rfl), Option.isSome_iff_exists.mp (by kernel_rfl), by kernel_rfl⟩
/-- an instance and a thing of a built-in kind, by the class's own operator -/
def rOwnT (K : PySem.W.Frag) (C : Addr) (sp : Sp) : R2 := fun x y H Q => ∃ (a dx : Addr) (fs : List (Str × V)) (T : String), x = .ref a ∧ H a = some (.ins C dx fs) ∧ TyX K H y (.type T) ∧ T ∈ kinds7 ∧ sp [x, y] H Q E0
section
variable {X : Cx} {k j : Nat} {C : Addr} {ps : List Str} {sp : Sp}
theorem op_ownT {op : Operator} (D : DefM X.prog X.w X.K X.mg X.base k C (PySem.dunder op.info.2) ps sp) (hr : Room j X.A) (own : PySem.W.selfFirst X.K C = true) (nr : PySem.W.findIn X.K (.ref C) (dunderR op.info.2) = some none)
    (facts : ∀ T ∈ kinds7, (∃ lo, PySem.W.findIn X.K (.type T) (PySem.dunder op.info.2) = some lo) ∧ (∃ ro, PySem.W.findIn X.K (.type T) (dunderR op.info.2) = some ro) ∧ PySem.W.subIn X.K (.type T) (.ref C) = some false) (hk : k ≤ j := by decide) : OpR X (binaryOp op) (rOwnT X.K C sp) := by
  intro pins s σ H x y u v Q I rx ry h
  obtain ⟨a, dx, fs, T, rfl, ea, ty, hT, q⟩ := h
  obtain rfl : u = Value.ref a := rx
  obtain ⟨f, fd, F, hm, hb⟩ := D.ex
  obtain ⟨_, OA, _⟩ := ins_get I.hok ea
  obtain ⟨_, ia, _⟩ := OA.look
  obtain ⟨Pk, kx, pk, _⟩ := kit_of I ry ty
  obtain ⟨⟨lo, f1⟩, ⟨ro, f2⟩, f3⟩ := facts T hT
  refine bin_kind I.kIn ia (kx.ty _ _ I.kIn pk) own hm.at_ hm.fn nr (.inl rfl) f1 f2 f3 ?_
  exact wpAny_mono (run_fn F (hr.mono hk) hb .nil pass0 I (vs := [.ref a, y]) (.cons (show RelV (.ref a) (.ref a) from rfl) (.cons ry .nil)) q) (fun _ _ z => back_of z) fun _ _ z => z
theorem op_andG {K : PySem.W.Frag} (hK : X.K = K) (D : DefM X.prog X.w X.K X.mg X.base k C (PySem.dunder Operator.BitAnd.info.2) ps sp) (hr : Room j X.A) (own : PySem.W.selfFirst X.K C = true) (nr : PySem.W.findIn X.K (.ref C) (dunderR Operator.BitAnd.info.2) = some none) (hk : k ≤ j := by decide) :
    OpR X (binaryOp .BitAnd) (fun x y H Q => rOwn2 C sp x y H Q ∨ rOwnT K C sp x y H Q) := by
  subst hK
  exact (op_own2 D hr own hk).or (op_ownT D hr own nr kin_and hk)
theorem op_orG {K : PySem.W.Frag} (hK : X.K = K) (D : DefM X.prog X.w X.K X.mg X.base k C (PySem.dunder Operator.BitOr.info.2) ps sp) (hr : Room j X.A) (own : PySem.W.selfFirst X.K C = true) (nr : PySem.W.findIn X.K (.ref C) (dunderR Operator.BitOr.info.2) = some none) (hk : k ≤ j := by decide) :
    OpR X (binaryOp .BitOr) (fun x y H Q => rOwn2 C sp x y H Q ∨ rOwnT K C sp x y H Q) := by
  subst hK
  exact (op_own2 D hr own hk).or (op_ownT D hr own nr kin_or hk)
end
end Tw

set_option Elab.async false
set_option linter.all false
set_option maxRecDepth 100000
set_option maxHeartbeats 4000000
/-! own errors over Exception, of a class below one's own base, with an __init__ that stores its one parameter -/
namespace PySem
namespace TwX
open PySem.W PySem.Calls PyProof.Rows PySem.HandSPX
/-- the classes of an error's order: own ones, then Exception's -/
abbrev exT : List Value := [.type "Exception", .type "BaseException", .type "object"]
inductive OwnEx : List Value → Prop where
  | tail : OwnEx exT
  | own (c : Addr) {r : List Value} (h : OwnEx r) : OwnEx (.ref c :: r)
theorem OwnEx.pass {l : List Value} (h : OwnEx l) (self : Value) : refuseLoop self "__setattr__" l = pure () := by
  induction h with
  | tail => exact F.store_Exception.passes self
  | own c _ ih => rw [refuseLoop_ref, ih]
theorem OwnEx.has {l : List Value} (h : OwnEx l) (n : String) : l.contains (.type n) = exT.contains (.type n) := by
  induction h with
  | tail => rfl
  | own c _ ih => rw [List.contains_cons, ih]; rfl
theorem OwnEx.some {l : List Value} (h : OwnEx l) : l.isEmpty = false := by cases h <;> rfl
section
open Builtin Builtin.ObjectAttr
variable {prog : Program} {w : World} {A : Around} {R : Result → Shared → Prop} {hp : Heap} {gs : Array GenState} {dr : Drawn} {tc : Nat} {os : OsState}
theorem setattr_to {K : Frag} {nm : Str} {tk : Tok} {v : Value} {x C : Addr} {ox : Obj} {od : Option Obj} {cd : ClassData} (XK : K.In hp) (J : InstAt hp x ox C od) (hc : clsIn K C = some cd) (hm : OwnEx cd.mro) (hn : findIn K (.ref C) nm = some none)
    (hq : wpAny (model prog w) A.in1 (storeInOwnDict (.ref x) (.ref C) (.str nm tk) nm v false) (fun fin s' => match fin with | .done f => R (.ok f) s' | .again c' => c'.quiet = true ∧ codeAny (model prog w) A c' R s') (fun e s' => R (.error e) s') ⟨hp, gs, dr, tc, os⟩) :
    codeAny (model prog w) A (.call (.builtin "object.__setattr__") ⟨[.ref x, .str nm tk, v], []⟩) R ⟨hp, gs, dr, tc, os⟩ := by
  have ST := F.store_object
  have hmo : mroIn K C (.type "object") = some true := by
    unfold mroIn
    rw [hc, Option.bind_some, if_neg (by rw [hm.some]; decide), hm.has "object"]
    exact congrArg _ (by decide +kernel)
  have isO : Looks (model prog w) hp (isInstance (.ref x) (.type "object")) true := J.type.andThen (looks_mroIn XK hmo)
  refine codeAny_call_builtin ST.slot.plain ST.entry ?_
  refine @check_slot (model prog w) _ _ ⟨hp, gs, dr, tc, os⟩ "object.__setattr__" "object" "__setattr__" (.ref x) [.str nm tk, v] [] _ ST.kind ST.split isO (ST.args (.ref x) (.str nm tk) v) ?_
  have lm : Looks (model prog w) hp (mroOf (.ref C)) cd.mro := (looks_clsIn XK hc).andThen .now
  have lt : Looks (model prog w) hp (storeTaker? none) none := .now
  rw [osa_eq, refuse_eq]
  refine wpAny_bind (wpAny_bind ?_)
  refine J.type.at (wpAny_bind (lm.at ?_))
  rw [hm.pass]
  refine wpAny_pure (wpAny_bind ?_)
  exact J.type.at (wpAny_bind ((looks_findIn XK hn).at (wpAny_bind (lt.at hq))))
/-- the first field of a fresh error -/
theorem setattr_first {K : Frag} {nm : Str} {tk : Tok} {v : Value} {x C : Addr} {fv : Array Value} {cd : ClassData} (XK : K.In hp) (hx : hp.get? x = some { cls := .ref C, data := .fields fv }) (hc : clsIn K C = some cd) (hm : OwnEx cd.mro) (hh : cd.hasDict = true) (hn : findIn K (.ref C) nm = some none)
    (hq : ∀ h2 tk2 dx, (∀ b o, b ≠ x → hp.get? b = some o → h2.get? b = some o) → hp.objs.size ≤ dx → dx ≠ x → h2.get? x = some { cls := .ref C, dict := some dx, data := .fields fv } → h2.Ns1 dx (fun y => if y = nm then some v else none) → R (.ok (.ret .none)) ⟨h2, gs, dr, tk2, os⟩) :
    codeAny (model prog w) A (.call (.builtin "object.__setattr__") ⟨[.ref x, .str nm tk, v], []⟩) R ⟨hp, gs, dr, tc, os⟩ := by
  have J : InstAt hp x { cls := .ref C, data := .fields fv } C none := ⟨hx, rfl, rfl, trivial⟩
  have nx : x ≠ hp.objs.size := Nat.ne_of_lt (Heap.lt_size hx)
  have lc : Looks (model prog w) hp (classData C) cd := looks_clsIn XK hc
  refine setattr_to XK J hc hm hn ?_
  obtain ⟨a1, a2, a3, a4, a5, a6, a7, a8, a9, a10, a11⟩ := cd
  dsimp only at hh
  subst hh
  unfold storeInOwnDict ownDictForStores
  repeat (first | with_reducible refine HandSPX.store_in_new ?_ ?_ | with_reducible refine wpAny_loadPart_at hx ?_ | with_reducible refine lc.at ?_ | wp_step)
  · refine ⟨_, #[], _, (Heap.get?_update_ne _ _ _ _ nx.symm).trans (Heap.get?_push_at rfl rfl), rfl, ?_, fun _ => rfl⟩
    intro e he
    exact absurd he (by simp)
  · intro h2 tk2 hn2 sb
    have px : (hp.push { cls := .type "dict", data := .dict #[] }).get? x = some { cls := .ref C, data := .fields fv } := Heap.get?_push_of_some _ hx
    refine hq h2 tk2 hp.objs.size ?_ (Nat.le_refl _) nx.symm ((sb.2 x nx).trans (Heap.get?_update_self _ px rfl)) hn2
    intro b o hb ho
    exact (sb.2 b (Nat.ne_of_lt (Heap.lt_size ho))).trans ((Heap.get?_update_ne _ _ _ _ hb).trans (Heap.get?_push_of_some _ ho))
/-- a further one -/
theorem setattr_next {K : Frag} {nm : Str} {tk : Tok} {v : Value} {x C dx : Addr} {fv : Array Value} {cd : ClassData} {m0 : Str → Option Value} {nl : List Str} (XK : K.In hp) (hx : hp.get? x = some { cls := .ref C, dict := some dx, data := .fields fv }) (hns : hp.Ns1 dx m0) (hw : Within m0 nl) (hz : nl.length ≤ 1000)
    (hc : clsIn K C = some cd) (hm : OwnEx cd.mro) (hh : cd.hasDict = true) (hn : findIn K (.ref C) nm = some none)
    (hq : ∀ h2 tk2, (∀ b o, b ≠ dx → hp.get? b = some o → h2.get? b = some o) → h2.Ns1 dx (fun y => if y = nm then some v else m0 y) → R (.ok (.ret .none)) ⟨h2, gs, dr, tk2, os⟩) :
    codeAny (model prog w) A (.call (.builtin "object.__setattr__") ⟨[.ref x, .str nm tk, v], []⟩) R ⟨hp, gs, dr, tc, os⟩ := by
  obtain ⟨oD, eD, pD, gD, dD, _⟩ := hns.count hw
  have J : InstAt hp x { cls := .ref C, dict := some dx, data := .fields fv } C (some oD) := ⟨hx, rfl, rfl, gD⟩
  have lc : Looks (model prog w) hp (classData C) cd := looks_clsIn XK hc
  refine setattr_to XK J hc hm hn ?_
  obtain ⟨a1, a2, a3, a4, a5, a6, a7, a8, a9, a10, a11⟩ := cd
  dsimp only at hh
  subst hh
  unfold storeInOwnDict ownDictForStores
  repeat (first | with_reducible refine ESX.store_in_old hns hw hz ?_ | with_reducible refine wpAny_loadPart_at hx ?_ | with_reducible refine lc.at ?_ | wp_step)
  exact fun h2 tk2 hn2 sb => hq h2 tk2 (fun b o hb ho => (sb.2 b hb).trans ho) hn2
end
end TwX
end PySem

set_option Elab.async false
set_option linter.all false
set_option maxRecDepth 100000
namespace Tw
open PySem L2 PySem.Spec
/-- a def of the text that may let an error out -/
structure DefX (P : Program) (w : World) (K : PySem.W.Frag) (mg : Str → Option Value) (base : Heap) (k : Nat) (x : Str) (ps : List Str) (sp : Sp) : Prop where
  ex : ∃ (f : Addr) (fd : FuncData), FnOk P w K mg base (L2.CX P w) k f fd ps sp ∧ mg x = some (.ref f) ∧ PySem.W.keepIn K (.ref f) = true ∧ Binds K fd ps []
/-- a method that may let an error out -/
structure DefMX (P : Program) (w : World) (K : PySem.W.Frag) (mg : Str → Option Value) (base : Heap) (k : Nat) (C : Addr) (m : Str) (ps : List Str) (sp : Sp) : Prop where
  ex : ∃ (f : Addr) (fd : FuncData), FnOk P w K mg base (L2.CX P w) k f fd ps sp ∧ Meth K C m f ∧ Binds K fd ps []
theorem Here.defX {P : Program} {w : World} {K : PySem.W.Frag} {mg : Str → Option Value} {base : Heap} {k : Nat} {x : Str} {st : Stmt} {ps : List Str} {sp : Sp} {f : Addr} {fd : FuncData} (h : Here K mg x st ps f fd) (F : FnOk P w K mg base (L2.CX P w) k f fd ps sp) : DefX P w K mg base k x ps sp :=
  ⟨f, fd, F, h.mg, h.fn.kp, h.bd⟩
theorem HereM.defX {P : Program} {w : World} {K : PySem.W.Frag} {mg : Str → Option Value} {base : Heap} {k : Nat} {C : Addr} {m qual : Str} {st : Stmt} {ps : List Str} {sp : Sp} {f : Addr} {fd : FuncData} (h : HereM K C m qual st ps f fd) (F : FnOk P w K mg base (L2.CX P w) k f fd ps sp) : DefMX P w K mg base k C m ps sp :=
  ⟨f, fd, F, h.me, h.bd⟩
/-- what is wanted of a body that may raise -/
theorem Fun.okMX {P : Program} {w : World} {K : PySem.W.Frag} {mg : Str → Option Value} {base : Heap} {x qual : Str} {st : Stmt} {f : Addr} {fd : FuncData} {N ps : List Str} {k : Nat} {sp : Sp} (F : Fun K x qual st f fd) (S : FnScope N ps (defScope st)) (len : ∀ vs H Q E, sp vs H Q E → vs.length = ps.length)
    (hbody : ∀ (cdv : Value) (A : Around) (outer : List Env) (s : Shared) (H : Hp) (vs : List V) (Q : VK) (E : XK), Room k (A.deeper (PyProof.Rows.envOfC qual (defScope st) s.heap.objs.size f cdv)) → sp vs H Q E →
      ∃ t, PSs (cxOf (L2.CX P w) P w K mg base N qual (defScope st) f cdv A outer s H E) (defBody st) t ∧ t (mkE (fun _ H' => Q .non H') Q (fun _ _ => False) (fun _ _ => False)) (L2.start N vs) H) : FnOk P w K mg base (L2.CX P w) (k + 1) f fd ps sp := F.okX S len hbody
section
variable {X : Cx} {k j : Nat} {C : Addr} {x m : Str} {p pos apos : Pos} {o e a b : Expr} {es : List Expr} {ps : List Str} {sp : Sp} {ta tb : TE} {t : TA} {W : WX}
theorem pe_defX (tk : Takes X W) (D : DefX X.prog X.w X.K X.mg X.base k x ps sp) (hr : Room j X.A) (hg : Gl X x) (ha : PA X (e :: es) t) (hk : k ≤ j := by decide) (hdb : (x == ("__debug__" : Str)) = false := by decide)
    (he : starEach (e :: es) X.env = (false, eval e X.env) :: starEach es X.env := by rfl) (hpl : (backTo pos (starEach es X.env)).any (·.1) = false := by rfl) : PE X (.Call (.Name x p) (e :: es) [] pos) (tCallS sp (WE W) t) := by
  obtain ⟨f, fd, F, hm, hkp, hb⟩ := D.ex
  exact pe_callS F (hr.mono hk) hg hm hkp hb (fun σ => passAt tk σ) ha hdb he hpl
/-- an operator that may raise -/
def OpW (X : Cx) (f : Value → Value → Sem Value) (r : L2.St → R2) : Prop := ∀ (pins : List (Addr × Obj)) (s : Shared) (σ : L2.St) (H : Hp) (x y : V) (v u : Value) (Q : VK), Inv X pins σ H s → RelV x v → RelV y u → r σ x y H Q → wpAny (model X.prog X.w) X.A (f v u) (EP X pins σ Q) X.xe s
def tOpW (r : L2.St → R2) (ta tb : TE) : TE := fun σ H Q => ta σ H fun x H1 => tb σ H1 fun y H2 => r σ x y H2 Q
theorem pe_opW {op : Operator} {r : L2.St → R2} (ho : OpW X (binaryOp op) r) (ha : PE X a ta) (hb : PE X b tb) : PE X (.BinOp a op b pos) (tOpW r ta tb) :=
  ⟨fun pins s σ _ Q I h => wpAny_BinOp (binT ha hb I h fun v u s2 x y H2 I2 rx ry q => ho pins s2 σ H2 x y v u Q I2 rx ry q)⟩
theorem op_own2W {op : Operator} (tk : Takes X W) (D : DefMX X.prog X.w X.K X.mg X.base k C (PySem.dunder op.info.2) ps sp) (hr : Room j X.A) (hf : PySem.W.selfFirst X.K C = true) (hk : k ≤ j := by decide) :
    OpW X (binaryOp op) (fun σ x y H Q => ∃ (a b dx dy : Addr) (fs gs : List (Str × V)), x = .ref a ∧ y = .ref b ∧ H a = some (.ins C dx fs) ∧ H b = some (.ins C dy gs) ∧ sp [x, y] H Q (WE W σ)) := by
  intro pins s σ H x y u v Q I rx ry h
  obtain ⟨a, b, dx, dy, fs, gs, rfl, rfl, ea, eb, q⟩ := h
  obtain rfl : u = Value.ref a := rx
  obtain rfl : v = Value.ref b := ry
  obtain ⟨f, fd, F, hm, hb⟩ := D.ex
  obtain ⟨_, OA, _⟩ := ins_get I.hok ea
  obtain ⟨_, OB, _⟩ := ins_get I.hok eb
  obtain ⟨_, ia, _⟩ := OA.look
  obtain ⟨_, ib, _⟩ := OB.look
  obtain ⟨m, fr⟩ := I.fr
  refine PySem.W.binop_K fr I.mod.kin ia ib.type hf hm.at_ hm.fn ?_
  exact wpAny_mono (run_fnS F (hr.mono hk) hb (passAt tk σ) I (vs := [.ref a, .ref b]) (.cons (show RelV (.ref a) (.ref a) from rfl) (.cons (show RelV (.ref b) (.ref b) from rfl) .nil)) q) (fun _ _ z => back_of z) fun _ _ z => z
theorem op_ownTW {op : Operator} (tk : Takes X W) (D : DefMX X.prog X.w X.K X.mg X.base k C (PySem.dunder op.info.2) ps sp) (hr : Room j X.A) (own : PySem.W.selfFirst X.K C = true) (nr : PySem.W.findIn X.K (.ref C) (dunderR op.info.2) = some none)
    (facts : ∀ T ∈ kinds7, (∃ lo, PySem.W.findIn X.K (.type T) (PySem.dunder op.info.2) = some lo) ∧ (∃ ro, PySem.W.findIn X.K (.type T) (dunderR op.info.2) = some ro) ∧ PySem.W.subIn X.K (.type T) (.ref C) = some false) (hk : k ≤ j := by decide) :
    OpW X (binaryOp op) (fun σ x y H Q => ∃ (a dx : Addr) (fs : List (Str × V)) (T : String), x = .ref a ∧ H a = some (.ins C dx fs) ∧ TyX X.K H y (.type T) ∧ T ∈ kinds7 ∧ sp [x, y] H Q (WE W σ)) := by
  intro pins s σ H x y u v Q I rx ry h
  obtain ⟨a, dx, fs, T, rfl, ea, ty, hT, q⟩ := h
  obtain rfl : u = Value.ref a := rx
  obtain ⟨f, fd, F, hm, hb⟩ := D.ex
  obtain ⟨_, OA, _⟩ := ins_get I.hok ea
  obtain ⟨_, ia, _⟩ := OA.look
  obtain ⟨Pk, kx, pk, _⟩ := kit_of I ry ty
  obtain ⟨⟨lo, f1⟩, ⟨ro, f2⟩, f3⟩ := facts T hT
  refine bin_kind I.kIn ia (kx.ty _ _ I.kIn pk) own hm.at_ hm.fn nr (.inl rfl) f1 f2 f3 ?_
  exact wpAny_mono (run_fnS F (hr.mono hk) hb (passAt tk σ) I (vs := [.ref a, y]) (.cons (show RelV (.ref a) (.ref a) from rfl) (.cons ry .nil)) q) (fun _ _ z => back_of z) fun _ _ z => z
end
end Tw
namespace Tw
open PySem L2 PySem.Spec
section
variable {X : Cx} {k j : Nat} {C : Addr} {x m : Str} {p pos apos : Pos} {o e a b : Expr} {es : List Expr} {ps : List Str} {sp : Sp} {ta tb : TE} {t : TA} {W : WX}
/-- o.m(..) that may raise -/
def tMeX (C : Addr) (m : Str) (sp : Sp) (W : WX) (ta : TE) (t : TA) : TE := fun σ H Q => ta σ H fun x H1 => ∃ a dx fs, x = .ref a ∧ H1 a = some (.ins C dx fs) ∧ fs.lookup m = none ∧ t σ H1 fun vs H2 => sp (x :: vs) H2 Q (WE W σ)
theorem pe_meX {pl : Sem Bool} (tk : Takes X W) (he : PE X o ta) (c : Cls X.K C) (D : DefMX X.prog X.w X.K X.mg X.base k C m ps sp) (hr : Room j X.A) (ha : PA X (e :: es) t) (hk : k ≤ j := by decide)
    (st : starEach (e :: es) X.env = (false, eval e X.env) :: starEach es X.env := by rfl) (nst : (backTo pos (starEach es X.env)).any (·.1) = false := by rfl)
    (form : eval (.Call (.Attribute o m apos) (e :: es) [] pos) X.env = (do
      let recv ← eval o X.env
      standAt apos.atName
      let (g, front) ← holding [recv] (getMethod recv m pl)
      callWith pos g front (backTo pos (starEach (e :: es) X.env)) (backToKw pos (keywordEach [] X.env))) := by rfl) : PE X (.Call (.Attribute o m apos) (e :: es) [] pos) (tMeX C m sp W ta t) := by
  obtain ⟨f, fd, F, hm, hb⟩ := D.ex
  constructor
  intro pins s σ H Q I h
  refine PySem.W.methodCall_KW (pl := pl) (thn (he.run pins s σ H _ I h) ?_) form
  rintro u s1 ⟨y, H1, I1, ry, q, dq, fs, rfl, eq, lk, rest⟩
  obtain rfl : u = Value.ref q := ry
  refine getmeth_ok I1 eq c hm lk ?_
  refine PySem.W.callWith_K (first := [.ref q]) (h₀ := X.base) I.ok.mod.kin hm.kp (thn (ha.run pos pins s1 σ H1 _ I1 rest) ?_) st nst
  rintro us s2 ⟨vs, H2, I2, rv, fin⟩
  exact ⟨I2.kIn, run_fnS (us := .ref q :: us) (vs := .ref q :: vs) F (hr.mono hk) hb (passAt tk σ) I2 (.cons (show RelV (.ref q) (.ref q) from rfl) rv) fin⟩
theorem g_callS {σ : L2.St} {H : Hp} {Q : VK} {E : L2.St → XK} (q : t σ H fun vs H1 => sp vs H1 Q (E σ)) : tCallS sp E t σ H Q := q
theorem g_meX {σ : L2.St} {H : Hp} {Q : VK} (q : ta σ H fun x H1 => ∃ a dx fs, x = .ref a ∧ H1 a = some (.ins C dx fs) ∧ fs.lookup m = none ∧ t σ H1 fun vs H2 => sp (x :: vs) H2 Q (WE W σ)) : tMeX C m sp W ta t σ H Q := q
end
end Tw
namespace Tw
open PySem L2 PySem.Spec
/-- what isinstance asks of a class of the text -/
structure OwnIs (K : PySem.W.Frag) (C : Addr) : Prop where
  ha : PySem.W.findIn K (.ref C) "__class__" = some (some (.builtin "object.__class__"))
  hn : PySem.W.specialIn K (.builtin "object.__class__") "__get__" = some (some (.builtin "getset_descriptor.__get__"))
  ht : PySem.W.takesIn K (.builtin "object.__class__") = some true
  hm : PySem.W.mroIn K C (.type "object") = some true
  me : PySem.W.kitOne K (.ref C) (.ref C) = some true
  no : ∀ T ∈ kinds7, PySem.W.kitOne K (.type T) (.ref C) = some false
theorem g_isOwn {K : PySem.W.Frag} {C a dx : Addr} {fs : List (Str × V)} {H : Hp} {Q : VK} (O : OwnIs K C) (c : Cls K C) (e : H a = some (.ins C dx fs)) (q : Q (.bl true) H) : rIsi K [.ref a, .ref C] H Q :=
  ⟨_, _, _, _, true, rfl, .own C, .base (.ins e c O.ha O.hn O.ht O.hm), O.me, q⟩
theorem g_isNot {K : PySem.W.Frag} {C : Addr} {x : V} {T : String} {H : Hp} {Q : VK} (O : OwnIs K C) (ty : TyX K H x (.type T)) (h : T ∈ kinds7) (q : Q (.bl false) H) : rIsi K [x, .ref C] H Q :=
  ⟨_, _, _, _, false, rfl, .own C, ty, O.no T h, q⟩
section
variable {X : Cx} {k j : Nat} {C : Addr} {x m : Str} {p pos apos : Pos} {o e a b : Expr} {es : List Expr} {ps : List Str} {sp : Sp} {ta tb : TE} {t : TA} {W : WX}
theorem OpW.or {f : Value → Value → Sem Value} {r r' : L2.St → R2} (h : OpW X f r) (h' : OpW X f r') : OpW X f (fun σ x y H Q => r σ x y H Q ∨ r' σ x y H Q) :=
  fun pins s σ H x y v u Q I rx ry q => q.elim (h pins s σ H x y v u Q I rx ry) (h' pins s σ H x y v u Q I rx ry)
/-- an own operator that may raise: with another instance, with a thing of a built-in kind -/
def rOwnW (K : PySem.W.Frag) (C : Addr) (sp : Sp) (W : WX) : L2.St → R2 := fun σ x y H Q => (∃ (a b dx dy : Addr) (fs gs : List (Str × V)), x = .ref a ∧ y = .ref b ∧ H a = some (.ins C dx fs) ∧ H b = some (.ins C dy gs) ∧ sp [x, y] H Q (WE W σ)) ∨
  ∃ (a dx : Addr) (fs : List (Str × V)) (T : String), x = .ref a ∧ H a = some (.ins C dx fs) ∧ TyX K H y (.type T) ∧ T ∈ kinds7 ∧ sp [x, y] H Q (WE W σ)
theorem op_andW {K : PySem.W.Frag} (hK : X.K = K) (tk : Takes X W) (D : DefMX X.prog X.w X.K X.mg X.base k C (PySem.dunder Operator.BitAnd.info.2) ps sp) (hr : Room j X.A) (own : PySem.W.selfFirst X.K C = true) (nr : PySem.W.findIn X.K (.ref C) (dunderR Operator.BitAnd.info.2) = some none) (hk : k ≤ j := by decide) :
    OpW X (binaryOp .BitAnd) (rOwnW K C sp W) := by
  subst hK
  exact (op_own2W tk D hr own hk).or (op_ownTW tk D hr own nr kin_and hk)
theorem op_orW {K : PySem.W.Frag} (hK : X.K = K) (tk : Takes X W) (D : DefMX X.prog X.w X.K X.mg X.base k C (PySem.dunder Operator.BitOr.info.2) ps sp) (hr : Room j X.A) (own : PySem.W.selfFirst X.K C = true) (nr : PySem.W.findIn X.K (.ref C) (dunderR Operator.BitOr.info.2) = some none) (hk : k ≤ j := by decide) :
    OpW X (binaryOp .BitOr) (rOwnW K C sp W) := by
  subst hK
  exact (op_own2W tk D hr own hk).or (op_ownTW tk D hr own nr kin_or hk)
def tUnW (C : Addr) (sp : Sp) (W : WX) (ta : TE) : TE := fun σ H Q => ta σ H fun x H1 => ∃ (a dx : Addr) (fs : List (Str × V)), x = .ref a ∧ H1 a = some (.ins C dx fs) ∧ sp [x] H1 Q (WE W σ)
theorem pe_invW (tk : Takes X W) (D : DefMX X.prog X.w X.K X.mg X.base k C "__invert__" ps sp) (hr : Room j X.A) (ha : PE X a ta) (hk : k ≤ j := by decide) : PE X (.UnaryOp .Invert a pos) (tUnW C sp W ta) := by
  constructor
  intro pins s σ H Q I h
  refine PyProof.Rows.UnaryOp_ (thn (ha.run pins s σ H _ I h) ?_)
  rintro u s1 ⟨y, H1, I1, ry, q, dq, fs, rfl, eq, rest⟩
  obtain rfl : u = Value.ref q := ry
  obtain ⟨f, fd, F, hm, hb⟩ := D.ex
  obtain ⟨_, OA, _⟩ := ins_get I1.hok eq
  obtain ⟨_, ia, _⟩ := OA.look
  obtain ⟨_, fr⟩ := I1.fr
  refine PySem.W.ksp_inv fr I1.mod.kin ia hm.at_ hm.fn ?_
  exact run_fnS F (hr.mono hk) hb (passAt tk σ) I1 (vs := [.ref q]) (.cons (show RelV (.ref q) (.ref q) from rfl) .nil) rest
/-- a class of the text as a value -/
theorem pe_cls (hg : Gl X x) (hm : X.mg x = some (.ref C)) (hdb : (x == ("__debug__" : Str)) = false := by decide) : PE X (.Name x p) (tC (.ref C)) := pe_glob (v := .ref C) hg hm rfl hdb
end
end Tw
namespace Tw
open PySem L2 PySem.Spec
section
variable {σ : L2.St} {H : Hp} {Q : VK} {ta tb : TE} {t : TA} {sp : Sp} {W : WX} {C : Addr} {r : L2.St → R2} {D : Ends}
theorem g_opW (q : ta σ H fun x H1 => tb σ H1 fun y H2 => r σ x y H2 Q) : tOpW r ta tb σ H Q := q
theorem g_unW (q : ta σ H fun x H1 => ∃ (a dx : Addr) (fs : List (Str × V)), x = .ref a ∧ H1 a = some (.ins C dx fs) ∧ sp [x] H1 Q (WE W σ)) : tUnW C sp W ta σ H Q := q
end
end Tw

set_option Elab.async false
set_option linter.all false
set_option maxRecDepth 100000
/-! truths, orders of values, defs with one keyword-only parameter, dicts -/
namespace Tw
open PySem L2 PySem.Spec PyProof.Rows
def isTv (x : V) : Prop := x = .non ∨ ∃ b, x = .bl b
def rIsTv : R2 := fun x y H Q => isTv x ∧ (∃ b, y = .bl b) ∧ Q (.bl (decide (x = y))) H
def rNotTv : R2 := fun x y H Q => isTv x ∧ (∃ b, y = .bl b) ∧ Q (.bl (!decide (x = y))) H
def ltV : V → V → Bool
  | .int i, .int j => decide (i < j)
  | .str a, .str b => decide (a.cps.toList < b.cps.toList)
  | _, _ => false
/-- two numbers, two texts -/
def sameK (x y : V) : Prop := (∃ i j, x = .int i ∧ y = .int j) ∨ ∃ a b : Str, x = .str a ∧ y = .str b
def rLtV : R2 := fun x y H Q => sameK x y ∧ Q (.bl (ltV x y)) H
def rLeV : R2 := fun x y H Q => sameK x y ∧ Q (.bl (!ltV y x)) H
def rGtV : R2 := fun x y H Q => sameK x y ∧ Q (.bl (ltV y x)) H
def rGeV : R2 := fun x y H Q => sameK x y ∧ Q (.bl (!ltV x y)) H
theorem not_lt_le {i j : Int} : (!decide (j < i)) = decide (i ≤ j) := by
  by_cases h : j < i
  · rw [decide_eq_true h, decide_eq_false (by omega)]; rfl
  · rw [decide_eq_false h, decide_eq_true (by omega)]; rfl
section
variable {X : Cx}
theorem op_isTv : OpR X (compareOp .Is) rIsTv := by
  intro pins s σ H x y v u Q I rx ry h
  obtain ⟨hx, ⟨b, rfl⟩, q⟩ := h
  cases (show u = Value.bool b from ry)
  rcases hx with rfl | ⟨a, rfl⟩
  · cases (show v = Value.none from rx)
    exact wpAny_is_other rfl (fun z => nomatch z) ⟨.bl false, H, I, rfl, by simpa using q⟩
  · cases (show v = Value.bool a from rx)
    by_cases e : a = b
    · subst e
      exact wpAny_is_self rfl ⟨.bl true, H, I, rfl, by simpa using q⟩
    · exact wpAny_is_other rfl (fun z => e (Value.bool.inj z)) ⟨.bl false, H, I, rfl, by simpa [e] using q⟩
theorem op_notTv : OpR X (compareOp .IsNot) rNotTv := by
  intro pins s σ H x y v u Q I rx ry h
  obtain ⟨hx, ⟨b, rfl⟩, q⟩ := h
  cases (show u = Value.bool b from ry)
  rcases hx with rfl | ⟨a, rfl⟩
  · cases (show v = Value.none from rx)
    exact wpAny_isNot_other rfl (fun z => nomatch z) ⟨.bl true, H, I, rfl, by simpa using q⟩
  · cases (show v = Value.bool a from rx)
    by_cases e : a = b
    · subst e
      exact wpAny_isNot_self rfl ⟨.bl false, H, I, rfl, by simpa using q⟩
    · exact wpAny_isNot_other rfl (fun z => e (Value.bool.inj z)) ⟨.bl true, H, I, rfl, by simpa [e] using q⟩
theorem op_ltV : OpR X (compareOp .Lt) rLtV := by
  intro pins s σ H x y v u Q I rx ry ⟨h, q⟩
  rcases h with ⟨i, j, rfl, rfl⟩ | ⟨a, b, rfl, rfl⟩
  · exact op_lt pins s σ H _ _ v u Q I rx ry ⟨i, j, rfl, rfl, q⟩
  · exact op_lt_str pins s σ H _ _ v u Q I rx ry ⟨a, b, rfl, rfl, q⟩
theorem op_leV : OpR X (compareOp .LtE) rLeV := by
  intro pins s σ H x y v u Q I rx ry ⟨h, q⟩
  rcases h with ⟨i, j, rfl, rfl⟩ | ⟨a, b, rfl, rfl⟩
  · exact op_le pins s σ H _ _ v u Q I rx ry ⟨i, j, rfl, rfl, by show Q (.bl (decide (i ≤ j))) H; rw [← not_lt_le]; exact q⟩
  · exact op_le_str pins s σ H _ _ v u Q I rx ry ⟨a, b, rfl, rfl, q⟩
theorem op_gtV : OpR X (compareOp .Gt) rGtV := by
  intro pins s σ H x y v u Q I rx ry ⟨h, q⟩
  rcases h with ⟨i, j, rfl, rfl⟩ | ⟨a, b, rfl, rfl⟩
  · exact op_gt pins s σ H _ _ v u Q I rx ry ⟨i, j, rfl, rfl, q⟩
  · exact op_gt_str pins s σ H _ _ v u Q I rx ry ⟨a, b, rfl, rfl, q⟩
theorem op_geV : OpR X (compareOp .GtE) rGeV := by
  intro pins s σ H x y v u Q I rx ry ⟨h, q⟩
  rcases h with ⟨i, j, rfl, rfl⟩ | ⟨a, b, rfl, rfl⟩
  · exact op_ge pins s σ H _ _ v u Q I rx ry ⟨i, j, rfl, rfl, by show Q (.bl (decide (j ≤ i))) H; rw [← not_lt_le]; exact q⟩
  · exact op_ge_str pins s σ H _ _ v u Q I rx ry ⟨a, b, rfl, rfl, q⟩
end
/-! defs with one keyword-only parameter that has a default -/
structure HereKw (K : PySem.W.Frag) (mg : Str → Option Value) (x : Str) (st : Stmt) (ps : List Str) (n : Nat) (kn : Str) (dv : V) (f : Addr) (fd : FuncData) : Prop where
  fn : Fun K x x st f fd
  mg : mg x = some (.ref f)
  bd : ∃ ds, Vals [dv] ds ∧ Binds K fd ps ds
  kb : KBn K fd ps n [kn] (fun us ws => us ++ ws) (fun vs zs => vs ++ zs)
structure DefKw (P : Program) (w : World) (K : PySem.W.Frag) (mg : Str → Option Value) (base : Heap) (k : Nat) (x : Str) (ps : List Str) (n : Nat) (kn : Str) (dv : V) (sp : Sp) : Prop where
  ex : ∃ (f : Addr) (fd : FuncData), FnOk P w K mg base CX0 k f fd ps sp ∧ mg x = some (.ref f) ∧ PySem.W.keepIn K (.ref f) = true ∧ (∃ ds, Vals [dv] ds ∧ Binds K fd ps ds) ∧ KBn K fd ps n [kn] (fun us ws => us ++ ws) (fun vs zs => vs ++ zs)
theorem HereKw.def {P : Program} {w : World} {K : PySem.W.Frag} {mg : Str → Option Value} {base : Heap} {k n : Nat} {x kn : Str} {dv : V} {st : Stmt} {ps : List Str} {sp : Sp} {f : Addr} {fd : FuncData} (h : HereKw K mg x st ps n kn dv f fd) (F : FnOk P w K mg base CX0 k f fd ps sp) : DefKw P w K mg base k x ps n kn dv sp :=
  ⟨f, fd, F, h.mg, h.fn.kp, h.bd, h.kb⟩
section
variable {X : Cx} {k j n : Nat} {x kn : Str} {dv : V} {p pos kpos : Pos} {e ke : Expr} {es : List Expr} {ps : List Str} {sp : Sp} {t : TA} {te : TE}
def tDefK (sp : Sp) (dv : V) (t : TA) : TE := fun σ H Q => t σ H fun vs H1 => sp (vs ++ [dv]) H1 Q E0
theorem tDefK_eq : tCall sp [dv] E0 t = tDefK sp dv t := by
  funext σ H Q
  unfold tCall tDefK
  rfl
theorem pe_defK (D : DefKw X.prog X.w X.K X.mg X.base k x ps n kn dv sp) (hr : Room j X.A) (hg : Gl X x) (ha : PA X (e :: es) t) (hk : k ≤ j := by decide) (hdb : (x == ("__debug__" : Str)) = false := by decide)
    (he : starEach (e :: es) X.env = (false, eval e X.env) :: starEach es X.env := by rfl) (hpl : (backTo pos (starEach es X.env)).any (·.1) = false := by rfl) : PE X (.Call (.Name x p) (e :: es) [] pos) (tDefK sp dv t) := by
  obtain ⟨f, fd, F, hm, hkp, ⟨ds, hv, hb⟩, _⟩ := D.ex
  rw [← tDefK_eq]
  exact pe_call F (hr.mono hk) hg hm hkp hb hv pass0 ha hdb he hpl
def tDefKw (n : Nat) (sp : Sp) (t : TA) (te : TE) : TE := tCallN n 1 sp (fun vs zs => vs ++ zs) E0 t (tCons te tNil)
theorem pe_defKw (D : DefKw X.prog X.w X.K X.mg X.base k x ps n kn dv sp) (hr : Room j X.A) (hg : Gl X x) (ha : PA X (e :: es) t) (hke : PE X ke te) (hk : k ≤ j := by decide)
    (hall : (backToKw pos (keywordEach [⟨some kn, ke, kpos⟩] X.env)).all (·.1.isSome) = true := by rfl) (hks : (backToKw pos (keywordEach [⟨some kn, ke, kpos⟩] X.env)).filterMap (·.1) = [kn] := by rfl)
    (hdb : (x == ("__debug__" : Str)) = false := by decide) (he : starEach (e :: es) X.env = (false, eval e X.env) :: starEach es X.env := by rfl)
    (hpl : ((backTo pos (starEach (e :: es) X.env)).any (·.1) || (backToKw pos (keywordEach [⟨some kn, ke, kpos⟩] X.env)).any (·.1.isNone)) = false := by rfl) : PE X (.Call (.Name x p) (e :: es) [⟨some kn, ke, kpos⟩] pos) (tDefKw n sp t te) := by
  obtain ⟨f, fd, F, hm, hkp, _, kb⟩ := D.ex
  exact pe_callN F (hr.mono hk) hg hm hkp kb pass0 ha (pk_cons hke pk_nil) hall hks hdb he hpl
theorem g_defK {σ : L2.St} {H : Hp} {Q : VK} (q : t σ H fun vs H1 => sp (vs ++ [dv]) H1 Q E0) : tDefK sp dv t σ H Q := q
theorem g_defKw {σ : L2.St} {H : Hp} {Q : VK} (q : t σ H fun vs H1 => te σ H1 fun z H2 => vs.length = n ∧ 1 = 1 ∧ sp (vs ++ [z]) H2 Q E0) : tDefKw n sp t te σ H Q := q
end
theorem kw_bd {K : PySem.W.Frag} {fd : FuncData} {D : Addr} {kn : Str} {ps : List Str} {n : Nat} {i : Int} {t : Tok} (hps : ps.length = n + 1) (hn : PySem.W.nsIn K D kn = some (some (.int i t)))
    (h : ∀ us : List Value, us.length = n → ∀ u : Value, KwChain D [(kn, u)] (bindArgs fd ⟨us, []⟩) (ps.zip (us ++ [u]))) : ∃ ds, Vals [.int i] ds ∧ Binds K fd ps ds := by
  refine ⟨[.int i t], .cons ⟨t, rfl⟩ .nil, fun s us X hlen => BindsTo.of_looks fun M => KwChain.looks X (fun q hq => ?_) (h us ?_ (.int i t))⟩
  · obtain rfl : q = (kn, .int i t) := List.mem_singleton.mp hq
    exact hn
  · simp at hlen
    omega
theorem kw_kb {K : PySem.W.Frag} {fd : FuncData} {kn : Str} {ps : List Str} {n : Nat} (h : ∀ us : List Value, us.length = n → ∀ u : Value, bindArgs fd ⟨us, [(kn, u)]⟩ = pure (ps.zip (us ++ [u]))) : KBn K fd ps n [kn] (fun us ws => us ++ ws) (fun vs zs => vs ++ zs) := by
  refine ⟨fun s us ws X l1 l2 => ?_, fun r1 r2 => r1.append r2⟩
  match ws, l2 with
  | [u], _ => exact .of_eq (h us l1 u)
end Tw

set_option Elab.async false
set_option linter.all false
set_option maxRecDepth 100000
namespace Tw
open PySem L2 PySem.Spec
section
variable {J : It} {g : TG} {tt : TT} {te : TE} {vs : List Nat} {σ : L2.St} {H1 : Hp} {D : Addr} {Qd : Hp → Prop}
/-- a comprehension whose turns leave the heap: what is kept has a property -/
theorem lc_any (xs : List V) (P : V → Prop) (hD : H1 D = none) (hJ : ∀ H, (∀ q o, H1 q = some o → H q = some o) → Fits J xs H) (hlen : xs.length ≤ 1000000)
    (hs : ∀ x Hh (R : V → Hp → Prop) (S : Hp → Prop), x ∈ xs → (∀ q o, H1 q = some o → Hh q = some o) → (∀ y, P y → R y Hh) → S Hh →
      g x (wipe σ vs) Hh fun σ2 H2 => wipe σ2 vs = wipe σ vs ∧ tt σ2 H2 fun b H3 => if b = true then te σ2 H3 R else S H3)
    (hd : ∀ H ys, (∀ q o, H1 q = some o → H q = some o) → H D = some (.lst ys) → (∀ y ∈ ys, P y) → ys.length ≤ xs.length → Qd H) :
    ∃ W : Nat → Nat → Hp → Prop, (∃ m, W 0 m (upd H1 D (.lst []))) ∧ ∀ i m H, W i m H →
      (J.stop i H ∧ Qd H) ∨ (J.go i H ∧ ∃ Nx : Hp → Prop, (∀ H', Nx H' → ∃ m', m' < m ∧ W (i + 1) m' H') ∧ ∀ x H', J.yld i H x H' → g x (wipe σ vs) H' fun σ2 H2 => wipe σ2 vs = wipe σ vs ∧ tt σ2 H2 fun b H3 =>
        if b = true then te σ2 H3 fun y H4 => ∃ acc, H4 D = some (.lst acc) ∧ acc.length < sizeLine ∧ Nx (upd H4 D (.lst (acc ++ [y]))) else Nx H3) := by
  refine ⟨fun i m H => m = xs.length - i ∧ i ≤ xs.length ∧ (∃ ys, H D = some (.lst ys) ∧ (∀ y ∈ ys, P y) ∧ ys.length ≤ i) ∧ ∀ q o, H1 q = some o → H q = some o, ⟨xs.length, by simp, Nat.zero_le _, ⟨[], upd_same, (fun y hy => nomatch hy), Nat.zero_le _⟩, fun q o h => by rw [upd_ne (ne_of_none h hD)]; exact h⟩, ?_⟩
  rintro i m H ⟨rfl, hi, ⟨ys, hDl, hP, hl⟩, hK⟩
  have fi := hJ H hK
  by_cases hlt : i < xs.length
  · refine .inr ⟨fi.go i hlt, fun H' => (∃ ys, H' D = some (.lst ys) ∧ (∀ y ∈ ys, P y) ∧ ys.length ≤ i + 1) ∧ ∀ q o, H1 q = some o → H' q = some o, fun H' w => ⟨xs.length - (i + 1), by omega, rfl, hlt, w⟩, ?_⟩
    intro x H' hy
    obtain ⟨rfl, hx⟩ := fi.yld i x H' hy
    refine hs x H' (fun y H4 => _) (fun H3 => _) (List.mem_of_getElem? hx) hK (fun y hy => ⟨_, hDl, ?_, ⟨_, upd_same, fun z hz => ?_, ?_⟩, fun q o h => by rw [upd_ne (ne_of_none h hD)]; exact hK q o h⟩) ⟨⟨ys, hDl, hP, by omega⟩, hK⟩
    · rw [sizeLine_eq]
      omega
    · rcases List.mem_append.mp hz with hz | hz
      · exact hP z hz
      · rw [List.mem_singleton.mp hz]; exact hy
    · rw [List.length_append]
      show ys.length + 1 ≤ _
      omega
  · have e : i = xs.length := by omega
    subst e
    exact .inl ⟨fi.stop _ (Nat.le_refl _), hd H ys hK hDl hP hl⟩
/-- a comprehension whose turns leave the heap, with an if -/
theorem lc_filt (xs : List V) (f : V → Bool) (v : V → V) (hD : H1 D = none) (hJ : ∀ H, (∀ q o, H1 q = some o → H q = some o) → Fits J xs H) (hlen : xs.length ≤ 1000000)
    (hs : ∀ x Hh (R : V → Hp → Prop) (S : Hp → Prop), x ∈ xs → (∀ q o, H1 q = some o → Hh q = some o) → (f x = true → R (v x) Hh) → (f x = false → S Hh) →
      g x (wipe σ vs) Hh fun σ2 H2 => wipe σ2 vs = wipe σ vs ∧ tt σ2 H2 fun b H3 => if b = true then te σ2 H3 R else S H3)
    (hd : ∀ H, (∀ q o, H1 q = some o → H q = some o) → H D = some (.lst ((xs.filter f).map v)) → Qd H) :
    ∃ W : Nat → Nat → Hp → Prop, (∃ m, W 0 m (upd H1 D (.lst []))) ∧ ∀ i m H, W i m H →
      (J.stop i H ∧ Qd H) ∨ (J.go i H ∧ ∃ Nx : Hp → Prop, (∀ H', Nx H' → ∃ m', m' < m ∧ W (i + 1) m' H') ∧ ∀ x H', J.yld i H x H' → g x (wipe σ vs) H' fun σ2 H2 => wipe σ2 vs = wipe σ vs ∧ tt σ2 H2 fun b H3 =>
        if b = true then te σ2 H3 fun y H4 => ∃ acc, H4 D = some (.lst acc) ∧ acc.length < sizeLine ∧ Nx (upd H4 D (.lst (acc ++ [y]))) else Nx H3) := by
  refine ⟨fun i m H => m = xs.length - i ∧ i ≤ xs.length ∧ H D = some (.lst (((xs.take i).filter f).map v)) ∧ ∀ q o, H1 q = some o → H q = some o, ⟨xs.length, by simp, Nat.zero_le _, upd_same, fun q o h => by rw [upd_ne (ne_of_none h hD)]; exact h⟩, ?_⟩
  rintro i m H ⟨rfl, hi, hDl, hK⟩
  have fi := hJ H hK
  by_cases hlt : i < xs.length
  · refine .inr ⟨fi.go i hlt, fun H' => H' D = some (.lst (((xs.take (i + 1)).filter f).map v)) ∧ ∀ q o, H1 q = some o → H' q = some o, fun H' w => ⟨xs.length - (i + 1), by omega, rfl, hlt, w⟩, ?_⟩
    intro x H' hy
    obtain ⟨rfl, hx⟩ := fi.yld i x H' hy
    have e1 : xs.take (i + 1) = xs.take i ++ [x] := by rw [List.take_succ, hx]; rfl
    refine hs x H' (fun y H4 => _) (fun H3 => _) (List.mem_of_getElem? hx) hK (fun hf => ⟨_, hDl, ?_, ?_, fun q o h => by rw [upd_ne (ne_of_none h hD)]; exact hK q o h⟩) (fun hf => ⟨?_, hK⟩)
    · have h1 := List.length_filter_le f (xs.take i)
      rw [List.length_take] at h1
      rw [List.length_map, sizeLine_eq]
      omega
    · rw [upd_same, e1, List.filter_append, List.filter_cons, if_pos hf, List.map_append]; rfl
    · rw [hDl, e1, List.filter_append, List.filter_cons, if_neg (by rw [hf]; exact Bool.false_ne_true)]
      simp
  · have e : i = xs.length := by omega
    subst e
    refine .inl ⟨fi.stop _ (Nat.le_refl _), hd H hK ?_⟩
    rw [hDl, List.take_length]
end
end Tw

set_option Elab.async false
set_option linter.all false
set_option maxRecDepth 100000
set_option maxHeartbeats 4000000
/-! != of lists that are equal item by item -/
namespace PySem.SeqAt
open AutoSeq1 (wpAny_loadPart')
open MeetsSeq MeetsSeq2 MeetsSeq3 SeqRoads2
section
variable {prog : Program} {w : World}
theorem tw_ne_loop (l b : Addr) (items items2 : Array Value) (n n2 : Nat) (dd dd2 : Option Addr) (sl sl2 : Array (Option Value)) (hsz : items.size = items2.size) (k : Nat) :
    ∀ i : Nat, items.size - i = k → MeetsIn prog w (Builtin.«list.__eq__.loop» ⟨[.ref l, .ref b, rawInt i, rawInt 3], []⟩)
      (fun A R s => s.heap.get? l = some { cls := .type "list", dict := dd, data := .seq items n, slots := sl } ∧ s.heap.get? b = some { cls := .type "list", dict := dd2, data := .seq items2 n2, slots := sl2 } ∧
        (∀ j (h1 : j < items.size) (h2 : j < items2.size), EqP prog w A.in1 s items[j] items2[j] true) ∧
        R (.ok (.ret (.bool false))) s) := by
  induction k with
  | zero =>
    intro i hk A R s h
    obtain ⟨hp, g, d, tk, os⟩ := s; obtain ⟨hl, hb, he, h⟩ := h
    wp_walk using wpAny_loadPart' hl, wpAny_loadPart' hb
    have hi1 : items[((i : Nat) : Int).toNat]? = none := by simp; omega
    have hi2 : items2[((i : Nat) : Int).toNat]? = none := by simp; omega
    rw [hi1, hi2]
    wp_walk using wpAny_loadPart' hl, wpAny_loadPart' hb
    show R (.ok (.ret (.bool (items.size != items2.size)))) _
    rw [hsz]
    simpa using h
  | succ k ih =>
    intro i hk A R s h
    obtain ⟨hp, g, d, tk, os⟩ := s; obtain ⟨hl, hb, he, h⟩ := h
    wp_walk using wpAny_loadPart' hl, wpAny_loadPart' hb
    have hlt : i < items.size := by omega
    have hlt2 : i < items2.size := by omega
    have hi1 : items[((i : Nat) : Int).toNat]? = some items[i] := by simp [hlt]
    have hi2 : items2[((i : Nat) : Int).toNat]? = some items2[i] := by simp [hlt2]
    have hc : ((i : Int) + 1) = ((i + 1 : Nat) : Int) := by push_cast; rfl
    rw [hi1, hi2]
    refine wpAny_bind (he i hlt hlt2 _ _ ?_)
    wp_walk
    rw [hc]
    exact ⟨plainId_quiet plain_eq_loop _, codeAny_builtin entry_eq_loop (by
      rw [Around.under_plainId plain_eq_loop _]
      exact ih (i + 1) (by omega) A R _ ⟨hl, hb, he, h⟩)⟩
theorem tw_list_ne (l b : Addr) (items items2 : Array Value) (n n2 : Nat) (dd dd2 : Option Addr) (sl sl2 : Array (Option Value)) (hsz : items.size = items2.size) :
    MeetsIn prog w (Builtin.«list.__ne__» ⟨[.ref l, .ref b], []⟩)
      (fun A R s => s.heap.get? l = some { cls := .type "list", dict := dd, data := .seq items n, slots := sl } ∧ s.heap.get? b = some { cls := .type "list", dict := dd2, data := .seq items2 n2, slots := sl2 } ∧
        (∀ j (h1 : j < items.size) (h2 : j < items2.size), EqP prog w A.in1 s items[j] items2[j] true) ∧
        R (.ok (.ret (.bool false))) s) := by
  intro A R s h
  obtain ⟨hp, g, d, tk, os⟩ := s; obtain ⟨hl, hb, he, h⟩ := h
  have f3 := AutoSeq1.sub_list_list
  have hne : ¬ (items.size != items2.size) = true := by simp [hsz]
  wp_walk using wpAny_loadPart' hl, wpAny_loadPart' hb
  exact ⟨plainId_quiet plain_eq_loop _, codeAny_builtin entry_eq_loop (by
    rw [Around.under_plainId plain_eq_loop _]
    exact tw_ne_loop l b items items2 n n2 dd dd2 sl sl2 hsz _ 0 rfl A R _ ⟨hl, hb, he, h⟩)⟩
theorem tw_ne_lists {A : Around} {s : Shared} {l b : Addr} {items items2 : Array Value} (hl : s.heap.IsList l items) (hb : s.heap.IsList b items2) (hsz : items.size = items2.size) (hu : A.units < cLine)
    (he : ∀ j (h1 : j < items.size) (h2 : j < items2.size), EqP prog w A.in1 s items[j] items2[j] true) (E Q : Value → Shared → Prop) (h : Q (.bool false) s) : wpAny (model prog w) A (richCompare .NotEq (.ref l) (.ref b)) Q E s := by
  obtain ⟨⟨cls, dd, data, sl⟩, ho, hc, n, hd⟩ := id hl
  obtain ⟨⟨cls2, dd2, data2, sl2⟩, ho2, hc2, n2, hd2⟩ := id hb
  simp only at hc hd hc2 hd2
  subst hc hd hc2 hd2
  have ta : s.TypeIs (.ref l) "list" := ⟨_, ho, rfl⟩
  have tb : s.TypeIs (.ref b) "list" := ⟨_, ho2, rfl⟩
  exact wpAny_richCompare_same_room (op := .NotEq) ta tb F.slot_list_ne (call_meetsIn F.slot_list_ne ta F.entry_list_ne (F.args_list_ne_2 _ _) (tw_list_ne l b items items2 n n2 dd dd2 sl sl2 hsz)
    ⟨ho, ho2, he, show Value.bool false ≠ Value.notImplemented ∧ Q (.bool false) s from ⟨(fun x => nomatch x), h⟩⟩) hu
end
end PySem.SeqAt
namespace L2
open PySem PySem.Spec PyProof.Rows
section
variable {X : Cx}
/-- a != b, two lists whose items are equal -/
def rNeV (K : PySem.W.Frag) : R2 := fun x y H Q => ∃ n a b xs ys, n ≤ 60 ∧ x = .ref a ∧ y = .ref b ∧ SqL K H a xs ∧ SqL K H b ys ∧ Paired (EqV K H n) xs ys ∧ Q (.bl false) H
theorem op_neV (hu : X.A.units + 64 < cLine) : OpR X (compareOp .NotEq) (rNeV X.K) := by
  intro pins s σ H x y v u Q I rx ry h
  obtain ⟨n, a, b, xs, ys, hn, rfl, rfl, ha, hb, hp, q⟩ := h
  cases (show v = Value.ref a from rx)
  cases (show u = Value.ref b from ry)
  obtain ⟨us, r1, p1, _⟩ := I.list ha
  obtain ⟨ws, r2, p2, _⟩ := I.list hb
  have hsz : us.toArray.size = ws.toArray.size := by
    rw [List.size_toArray, List.size_toArray, ← r1.length, ← r2.length]
    exact Paired.length hp
  refine SeqAt.tw_ne_lists p1.isList p2.isList hsz (by omega) (fun j h1 h2 => ?_) _ _ ⟨.bl false, H, I, rfl, q⟩
  have k := items_run (eqV_run I n X.A.in1 (by show X.A.units + 1 + n < cLine; omega)) hp r1 r2 j (by simpa using h1) (by simpa using h2)
  simpa using k
theorem op_neVu {K : PySem.W.Frag} (h : X.K = K) (hu : X.A.units + 64 < cLine) : OpR X (compareOp .NotEq) (rNeV K) := by subst h; exact op_neV hu
theorem op_eqVu {K : PySem.W.Frag} (h : X.K = K) (hu : X.A.units + 64 < cLine) : OpR X (compareOp .Eq) (rEqV K) := by subst h; exact op_eqV hu
end
end L2
namespace Tw
open PySem L2
def rMin2 : List V → Hp → VK → Prop := fun xs H Q => ∃ i j, xs = [.int i, .int j] ∧ Q (.int (if j < i then j else i)) H
def rInsert : V → List V → Hp → VK → Prop := fun x vs H Q => ∃ (l : Addr) (xs : List V) (i : Int) (y : V), x = .ref l ∧ vs = [.int i, y] ∧ H l = some (.lst xs) ∧ xs.length < sizeLine ∧ 0 ≤ i ∧ i < 2 ^ 63 ∧ Q .non (upd H l (.lst (xs.take i.toNat ++ [y] ++ xs.drop i.toNat)))
section
variable {X : Cx}
theorem call_min2G (h : X.calm = true) : CallR X (.builtin "min") rMin2 := call_min2 h
theorem pg_tupG {K : PySem.W.Frag} {es : List Expr} {k : Nat} {t : TGs} {n : Nat} {pos : Pos} (hK : X.K = K) (hc : X.calm = true) (h : PGs X es t)
    (hn : (assignEach es X.env).length = n := by rfl) (hst : (assignEach es X.env).findIdx? (·.1) = none := by rfl) : PG X (.Tuple es k pos) (gTup K n t) := by subst hK; exact pg_tup hc h hn hst
theorem mt_insertG : MtR X "list.insert" rInsert := mt_insert
end
section
variable {K : PySem.W.Frag} {σ : L2.St} {H : Hp} {Q : VK} {D : Ends} {t : TA} {c : TT} {tb : TS} {i j : Int}
theorem g_min2 (q : Q (.int (if j < i then j else i)) H) : rMin2 [.int i, .int j] H Q := ⟨i, j, rfl, q⟩
theorem g_rng2 {R : It → Hp → Prop} (q : t σ H fun vs H1 => ∃ i j : Int, vs = [.int i, .int j] ∧ (-(2 ^ 62) ≤ i ∧ i < 2 ^ 62 ∧ -(2 ^ 62) ≤ j ∧ j < 2 ^ 62) ∧ R (Itr i (j - i).toNat) H1) : iRng2 t σ H R := q
theorem g_gtup {n : Nat} {u : TGs} {p : Addr} {xs : List V} {QS : L2.St → Hp → Prop} (h : H p = some (.tup xs)) (hl : xs.length = n) (q : u xs σ H QS) : gTup K n u (.ref p) σ H QS := ⟨p, xs, rfl, SqT.of h, hl, q⟩
theorem g_gcons {g : TG} {u : TGs} {v : V} {r : List V} {QS : L2.St → Hp → Prop} (q : g v σ H fun σ' H' => u r σ' H' QS) : gCons g u (v :: r) σ H QS := ⟨v, r, rfl, q⟩
theorem g_gnil {QS : L2.St → Hp → Prop} (q : QS σ H) : gNil [] σ H QS := ⟨rfl, q⟩
theorem g_while (q : ∃ W : Nat → L2.St → Hp → Prop, (∃ m, W m σ H) ∧ ∀ m σ H, W m σ H →
  c σ H fun b H1 => if b = true then ∃ N : L2.St → Hp → Prop, (∀ σ' H', N σ' H' → ∃ m', m' < m ∧ W m' σ' H') ∧ tb { D with nx := N, ct := N, bk := D.nx } σ H1 else D.nx σ H1) : tWhile c tb D σ H := q
theorem g_ins {p : Addr} {xs : List V} {v : V} (h : H p = some (.lst xs)) (hz : xs.length < 10000000) (h0 : 0 ≤ i) (h1 : i < 10000000) (q : Q .non (upd H p (.lst (xs.take i.toNat ++ [v] ++ xs.drop i.toNat)))) : rInsert (.ref p) [.int i, v] H Q := ⟨p, xs, i, v, rfl, rfl, h, by rw [sizeLine_eq]; omega, h0, by omega, q⟩
end
end Tw
namespace Tw
open PySem L2
section
variable {σ : L2.St} {g : TG} {tt : TT} {te : TE} {vs : List Nat} {J : It} {H1 : Hp} {D : Addr} {Qd : Hp → Prop}
/-- a comprehension whose turns make new things -/
theorem lc_new (xs : List V) (Rel : Nat → V → Hp → Prop) (hD : H1 D = none) (hJ : ∀ H, (∀ q o, H1 q = some o → H q = some o) → Fits J xs H) (hlen : xs.length ≤ 1000000)
    (hmono : ∀ i y H H', (∃ ys, H D = some (.lst ys)) → Rel i y H → (∀ q o, q ≠ D → H q = some o → H' q = some o) → Rel i y H')
    (hs : ∀ i x Hh (R : V → Hp → Prop) (S : Hp → Prop), xs[i]? = some x → (∀ q o, H1 q = some o → Hh q = some o) → (∃ ys, Hh D = some (.lst ys)) → (∀ y H4, (∀ q o, Hh q = some o → H4 q = some o) → Rel i y H4 → R y H4) →
      g x (wipe σ vs) Hh fun σ2 H2 => wipe σ2 vs = wipe σ vs ∧ tt σ2 H2 fun b H3 => if b = true then te σ2 H3 R else S H3)
    (hd : ∀ H ys, (∀ q o, H1 q = some o → H q = some o) → H D = some (.lst ys) → ys.length = xs.length → (∀ i y, ys[i]? = some y → Rel i y H) → Qd H) :
    ∃ W : Nat → Nat → Hp → Prop, (∃ m, W 0 m (upd H1 D (.lst []))) ∧ ∀ i m H, W i m H →
      (J.stop i H ∧ Qd H) ∨ (J.go i H ∧ ∃ Nx : Hp → Prop, (∀ H', Nx H' → ∃ m', m' < m ∧ W (i + 1) m' H') ∧ ∀ x H', J.yld i H x H' → g x (wipe σ vs) H' fun σ2 H2 => wipe σ2 vs = wipe σ vs ∧ tt σ2 H2 fun b H3 =>
        if b = true then te σ2 H3 fun y H4 => ∃ acc, H4 D = some (.lst acc) ∧ acc.length < sizeLine ∧ Nx (upd H4 D (.lst (acc ++ [y]))) else Nx H3) := by
  refine ⟨fun i m H => m = xs.length - i ∧ i ≤ xs.length ∧ (∀ q o, H1 q = some o → H q = some o) ∧ ∃ ys, H D = some (.lst ys) ∧ ys.length = i ∧ ∀ j y, ys[j]? = some y → Rel j y H, ⟨xs.length, by simp, Nat.zero_le _, fun q o h => by rw [upd_ne (ne_of_none h hD)]; exact h, [], upd_same, rfl, fun j y h => by simp at h⟩, ?_⟩
  rintro i m H ⟨rfl, hi, hK, ys, hDl, hyl, hR⟩
  have fi := hJ H hK
  by_cases hlt : i < xs.length
  · refine .inr ⟨fi.go i hlt, fun H' => (∀ q o, H1 q = some o → H' q = some o) ∧ ∃ ys, H' D = some (.lst ys) ∧ ys.length = i + 1 ∧ ∀ j y, ys[j]? = some y → Rel j y H', fun H' w => ⟨xs.length - (i + 1), by omega, rfl, hlt, w⟩, ?_⟩
    intro x H' hy
    obtain ⟨rfl, hx⟩ := fi.yld i x H' hy
    refine hs i x H' (fun y H4 => _) (fun H3 => _) hx hK ⟨_, hDl⟩ fun y H4 k4 r4 => ⟨ys, k4 _ _ hDl, by rw [sizeLine_eq]; omega, fun q o h => by rw [upd_ne (ne_of_none h hD)]; exact k4 _ _ (hK q o h), ys ++ [y], upd_same, by rw [List.length_append, hyl]; rfl, fun j z hz => ?_⟩
    have ku : ∀ q o, q ≠ D → H4 q = some o → (upd H4 D (.lst (ys ++ [y]))) q = some o := fun q o n h => by rw [upd_ne n]; exact h
    by_cases hj : j < ys.length
    · rw [List.getElem?_append_left hj] at hz
      exact hmono j z _ _ ⟨ys, k4 _ _ hDl⟩ (hmono j z _ _ ⟨ys, hDl⟩ (hR j z hz) fun q o _ h => k4 q o h) ku
    · rw [List.getElem?_append_right (by omega)] at hz
      obtain ⟨h0, _⟩ := List.getElem?_eq_some_iff.mp hz
      have e : j - ys.length = 0 := by simpa using h0
      rw [e] at hz
      obtain rfl : y = z := by simpa using hz
      obtain rfl : j = i := by omega
      exact hmono _ _ _ _ ⟨ys, k4 _ _ hDl⟩ r4 ku
  · have e : i = xs.length := by omega
    subst e
    exact .inl ⟨fi.stop _ (Nat.le_refl _), hd H ys hK hDl hyl hR⟩
end
end Tw

set_option Elab.async false
set_option linter.all false
set_option maxRecDepth 100000
set_option maxHeartbeats 4000000
namespace PySem
namespace ErBadTest
open PySem.W PySem.Calls PyProof.Rows PySem.HandSPX PySem.TwX
def inA (p1 p2 : Pos) : Arguments := { posonlyargs := [], args := [{ arg := "self", annotation := none, pos := p1 }, { arg := "why", annotation := none, pos := p2 }], vararg := none, kwonlyargs := [], kw_defaults := [], kwarg := none, defaults := [] }
def inB (q1 q2 q3 q4 : Pos) : List Stmt := [.Assign [.Attribute (.Name "self" q1) "why" q2] (.Name "why" q3) q4]
/-- what the written part says of the class at C, and of its __init__ at fI -/
structure Err (K : Frag) (mg : Str → Option Value) (C fI : Addr) : Prop where
  gC : mg "BadTest" = some (.ref C)
  cls : ∃ nm q N bs bm sn sub ab col dd k0 k1 k2 k3 k5, K.lookup C = some (excClassObj nm q C N bs bm true sn sub ab col dd k0 k1 k2 k3 k5 "Exception.__new__") ∧ OwnEx bm
  sa : findIn K (.ref C) "__setattr__" = some (some (.builtin "object.__setattr__"))
  ga : findIn K (.ref C) "__getattribute__" = some (some (.builtin "BaseException.__getattribute__"))
  gg : findIn K (.ref C) "__getattr__" = some none
  noF : findIn K (.ref C) "why" = some none
  ini : findIn K (.ref C) "__init__" = some (some (.ref fI))
  tyI : typeIn K (.ref fI) = some (.type "function")
  kC : keepIn K (.ref C) = true
  exC : subIn K (.ref C) (.type "BaseException") = some true
  tyC : typeIn K (.ref C) = some (.type "type")
  hdC : hasDictIn K C = true
  te : exmOne K (.ref C) (.ref C) = some true
  fn : ∃ (oc : Value) (od : Option Addr) (doc pm : Value) (an : Option Addr) (cdv ct : Value) (osl : Array (Option Value)) (p1 p2 q1 q2 q3 q4 : Pos) (sc : Scope),
    K.lookup fI = some ⟨oc, od, .func (fnOf "__init__" "BadTest.__init__" (inA p1 p2) (inB q1 q2 q3 q4) sc .none .none doc pm an cdv ct), osl⟩ ∧ codeIn K cdv "BadTest.__init__" = true ∧ sc.kind = .function ∧ sc.names = [(PySem.Str.ofString "self", .local), (PySem.Str.ofString "why", .local)] ∧ sc.isGenerator = false ∧ sc.isCoroutine = false
theorem one_ok (v : Value) : [v].length ≤ sizeLine := by rw [sizeLine_eq]; exact (by decide : 1 ≤ 16777216)
theorem read_local {M : Model} {s : Shared} {name : Str} {scope : Scope} {L a : Addr} {cd : Value} {m : Str → Option Value} {x : Str} {pos : Pos} {v : Value} {Q : Value → Shared → Prop} {A : Around} {E : Value → Shared → Prop} (hn : s.heap.Ns L m) (hv : m x = some v) (h : Q v s) (hk : scope.kind = .function)
    (hl : scope.names.lookup x = some .local) (hd : (x == ("__debug__" : Str)) = false := by decide) : wpAny M A (eval (.Name x pos) (envOfC name scope L a cd)) Q E s := wpAny_Name (wpAny_loadName_local hk hl hn hv h) hd
structure InitLeft (h h2 : Heap) (x C dx t1 : Addr) (v : Value) : Prop where
  keep : ∀ b o, b ≠ x → h.get? b = some o → h2.get? b = some o
  obj : h2.get? x = some { cls := .ref C, dict := some dx, data := .fields #[.ref t1, .none, .none, .none, .bool false, .none] }
  dbig : h.objs.size ≤ dx
  dne : dx ≠ x
  ns : h2.Ns1 dx (fun y => if y = "why" then some v else none)
structure ErrMade (h h2 : Heap) (e C d : Addr) (v : Value) : Prop where
  keep : ∀ b o, h.get? b = some o → h2.get? b = some o
  new : h.objs.size ≤ e
  obj : ∃ oe vs, h2.get? e = some oe ∧ oe.cls = .ref C ∧ oe.dict = some d ∧ oe.data = .fields vs ∧ vs[1]? = some .none
  dbig : h.objs.size ≤ d
  dne : d ≠ e
  ns : h2.Ns1 d (fun y => if y = "why" then some v else none)
section
variable {prog : Program} {w : World} {A : Around} {E : Value → Shared → Prop} {R : Result → Shared → Prop} {s : Shared} {K : Frag} {mg : Str → Option Value} {C fI : Addr}
theorem err_init (T : Err K mg C fI) {x t0 : Addr} {v : Value} (X : K.In s.heap) (hlim : s.heap.NoLimit) (hx : s.heap.get? x = some (excO C t0)) (hroom : A.depth < recursionLimit)
    (hq : ∀ h2 tk dx, InitLeft s.heap h2 x C dx t0 v → R (.ok (.ret .none)) { s with heap := h2, toks := tk }) :
    codeAny (model prog w) A (.call (.ref fI) ⟨[.ref x, v], []⟩) R s := by
  obtain ⟨oc, od, doc, pm, an, cdv, ct, osl, p1, p2, q1, q2, q3, q4, sc, ho, hcd, hk, hnames, hge, hco⟩ := T.fn
  obtain ⟨nm', q, N, bs, bm, sn, sub, ab, col, dd, k0, k1, k2, k3, k5, hC, hbm⟩ := T.cls
  have hcl : clsIn K C = some { name := nm', bases := bs, mro := .ref C :: bm, ns := N, qualname := q, hasDict := true, slotNames := sn, subclasses := sub, abstract := ab, collection := col, hasDel := false } := by unfold clsIn; rw [hC] <;> rfl
  have l1 : sc.names.lookup ("self" : Str) = some .local := by rw [hnames]; decide +kernel
  have l2 : sc.names.lookup ("why" : Str) = some .local := by rw [hnames]; decide +kernel
  refine Att.call_fn (binds := [("self", .ref x), ("why", v)]) X hlim ho hcd hroom (BindsTo.of_eq (by first | rfl | with_unfolding_all rfl)) (by rw [List.all_cons, List.all_cons, l1, l2]; rfl) (fun s₁ IC => ?_) hco hge hk
  obtain ⟨h₁, tk₁, rfl⟩ := IC.toInCall.same
  have k : ∀ b o, s.heap.get? b = some o → h₁.get? b = some o := IC.toInCall.keep
  have hn := IC.toInCall.ns
  have X₁ : K.In h₁ := X.keeps k
  have hx₁ := k _ _ hx
  have b1 : (bindL (envOfC "BadTest.__init__" sc s.heap.objs.size fI cdv).kindOf [("self", .ref x), ("why", v)] fun _ => none) ("self" : Str) = some (.ref x) :=
    L2.bindL_get (P := ["self", "why"]) (vs := [.ref x, v]) (i := 0) (by decide +kernel) rfl rfl l1
  have b2 : (bindL (envOfC "BadTest.__init__" sc s.heap.objs.size fI cdv).kindOf [("self", .ref x), ("why", v)] fun _ => none) ("why" : Str) = some v :=
    L2.bindL_get (P := ["self", "why"]) (vs := [.ref x, v]) (i := 1) (by decide +kernel) rfl rfl l2
  show wpAny _ _ (execs _ _) _ _ _
  refine wpAny_execs_cons (plainObj_wpAny_Assign_Attribute ?_)
  refine read_local (v := v) hn b2 (read_local (v := .ref x) hn b1 ?_ hk l1) hk l2
  refine set_plain X₁ (ox := excO C t0) (od := none) ⟨hx₁, rfl, rfl, trivial⟩ T.sa ?_
  refine setattr_first X₁ hx₁ hcl (.own C hbm) rfl T.noF (fun h₃ tk₃ dx k₃ dn dne hx₃ hn₃ => ?_)
  show wpAny _ _ (execs _ _) _ _ _
  have z : s.heap.objs.size < h₁.objs.size := hn.lt
  exact wpAny_execs_nil (hq h₃ tk₃ dx ⟨fun b o hb e => k₃ b o hb (k b o e), hx₃, Nat.le_of_lt (Nat.lt_of_lt_of_le z dn), dne, hn₃⟩)
theorem err_made (T : Err K mg C fI) {v : Value} (X : K.In s.heap) (hlim : s.heap.NoLimit) (hroom : A.depth + 1 < recursionLimit)
    (hq : ∀ h2 tk e d, ErrMade s.heap h2 e C d v → R (.ok (.ret (.ref e))) { s with heap := h2, toks := tk }) :
    codeAny (model prog w) A (.call (.ref C) ⟨[v], []⟩) R s := by
  obtain ⟨nm', q, N, bs, bm, sn, sub, ab, col, dd, k0, k1, k2, k3, k5, hC, hbm⟩ := T.cls
  obtain ⟨hp, g, dr, tk, os⟩ := s
  have k : ∀ b o, hp.get? b = some o → ((hp.push (kdv_tup [v])).push (excO C hp.objs.size)).get? b = some o := fun b o e => Heap.get?_push_of_some _ (Heap.get?_push_of_some _ e)
  have hget : ((hp.push (kdv_tup [v])).push (excO C hp.objs.size)).get? (hp.objs.size + 1) = some (excO C hp.objs.size) := by heap_get
  refine call_own F.excBase_Exception (fun X => hbm.has X) (X _ _ hC) (looks_findIn X T.ini) (fun self => bind_fn X self T.tyI) (one_ok v) ?_
  refine err_init (s := ⟨(hp.push (kdv_tup [v])).push (excO C hp.objs.size), g, dr, tk, os⟩) T (X.keeps k) (hlim.keeps k) hget ?_ fun h2 tk2 dx ⟨k', hx, dn, dne, hns⟩ => ?_
  · show A.depth + 1 < recursionLimit
    exact hroom
  · have old : ∀ b o, hp.get? b = some o → h2.get? b = some o := fun b o e => k' b o (Nat.ne_of_lt (Nat.lt_succ_of_lt (Heap.lt_size e))) (k b o e)
    have z : hp.objs.size + 1 + 1 ≤ dx := by
      first
        | (simpa only [Heap.size_push] using dn)
        | exact dn
        | (have q := dn; rw [Heap.size_push, Heap.size_push] at q; exact q)
    exact ⟨rfl, hq h2 tk2 (hp.objs.size + 1) dx ⟨old, Nat.le_succ _, ⟨_, _, hx, rfl, rfl, rfl, rfl⟩, Nat.le_trans (Nat.le_trans (Nat.le_succ _) (Nat.le_succ _)) z, dne, hns⟩⟩
end
end ErBadTest
end PySem
namespace Tw
open PySem L2
theorem relO_BadTest {v : V} {v' : Value} (r : RelV v v') (f : Str) : RelO (List.lookup f [(("why" : Str), v)]) (if f = "why" then some v' else none) := by
  by_cases hw : f = "why"
  · subst hw
    rw [if_pos rfl]
    have q : List.lookup ("why" : Str) [(("why" : Str), v)] = some v := by simp [List.lookup]
    rw [q]
    exact r
  · rw [if_neg hw]
    have qw : (f == ("why" : Str)) = false := by simpa using hw
    have q2 : List.lookup f [(("why" : Str), v)] = none := by simp [List.lookup, qw]
    rw [q2]
    trivial
section
variable {X : Cx} {C fI : Addr}
def tMkBadTest (C : Addr) (ta : TA) : L2.St → Hp → XK → Prop := fun σ H Q => ta σ H fun vs H1 => ∃ v, vs = [v] ∧ ∀ d, H1 d = none → Q (.ref C) (some d) (upd H1 d (.xd [(("why" : Str), v)]))
theorem pmk_BadTest {a : Expr} {ta : TA} {p pos : Pos} {k : Nat} (T : PySem.ErBadTest.Err X.K X.mg C fI) (hr : Room k X.A) (ha : PA X [a] ta) (hg : Gl X "BadTest" := by rfl)
    (he : starEach (a :: []) X.env = (false, eval a X.env) :: starEach [] X.env := by rfl) (hpl : (backTo pos (starEach [] X.env)).any (·.1) = false := by rfl) :
    PMk X (.Call (.Name "BadTest" p) [a] [] pos) (tMkBadTest C ta) := by
  intro pins s σ H Q I h
  refine wpAny_Call_Name_kw (ld_glob I hg T.gC ?_)
  refine PySem.W.callWith_K (h₀ := X.base) I.ok.mod.kin T.kC (thn (ha.run pos pins s σ H _ I h) fun us s1 hh => ?_) he hpl
  obtain ⟨vs, H1, I1, r1, v, ev, q1⟩ := hh
  subst ev
  refine ⟨I1.kIn, ?_⟩
  cases r1 with
  | cons rv rn =>
    rename_i v' us'
    cases rn
    show wpAny _ _ (call (.ref C) [v']) _ _ _
    have hlim := I1.nolimit
    obtain ⟨hp, g, dr, tk, os⟩ := s1
    refine wpAny_call (PySem.ErBadTest.err_made T I1.kIn hlim (by have := hr.dp; omega) fun h' tk' e d M => ?_)
    show MkP X pins σ Q (.ref e) ⟨h', g, dr, tk', os⟩
    obtain ⟨oe, fv, hoe, hc, hd, hdat, h1⟩ := M.obj
    have hns := M.ns
    obtain ⟨G', g1, g2⟩ := restrict h' fun b => decide (b ≠ e)
    have gk : ∀ b, b ≠ e → G'.get? b = h'.get? b := fun b hb => g1 b (decide_eq_true hb)
    have ge : G'.get? e = none := g2 e (by simp)
    have old : ∀ b o, hp.get? b = some o → G'.get? b = some o := fun b o q => (gk b (Nat.ne_of_lt (Nat.lt_of_lt_of_le (Heap.lt_size q) M.new))).trans (M.keep b o q)
    have ob : ObjOk X.prog X.w (upd H1 d (.xd [(("why" : Str), v)])) G' d (.xd [(("why" : Str), v)]) :=
      ⟨_, hns.at (fun o q => (gk d M.dne).trans q), fun f => relO_BadTest rv f⟩
    have J : Inv X pins σ (upd H1 d (.xd [(("why" : Str), v)])) ⟨G', g, dr, tk', os⟩ := I1.laid (t' := tk') old M.dbig ob
    refine ⟨e, oe, fv, ⟨G', g, dr, tk', os⟩, _, .ref C, some d, rfl, J, fun b o q => ?_, ge, hoe, ⟨hc, hd⟩, hdat, h1, ?_, rfl, I1.bare, raises_own T.exC T.tyC, q1 d (I1.hok.fresh M.dbig)⟩
    · by_cases hb : b = e
      · have q' : G'.get? b = some o := q
        rw [hb, ge] at q'; cases q'
      · exact (gk b hb).symm.trans q
    · rw [upd_ne (Ne.symm M.dne)]
      exact I1.hok.fresh M.new
def tRaiseBadTest (C : Addr) (W : WX) (ta : TA) : TS := fun _ σ H => tMkBadTest C ta σ H fun cls d H' => W cls d σ H'
theorem ps_raiseBadTest {a : Expr} {ta : TA} {W : WX} {p pos pos2 : Pos} {k : Nat} (hc : X.calm = true) (T : PySem.ErBadTest.Err X.K X.mg C fI) (hr : Room k X.A) (tk : Takes X W) (ha : PA X [a] ta) (hg : Gl X "BadTest" := by rfl)
    (he : starEach (a :: []) X.env = (false, eval a X.env) :: starEach [] X.env := by rfl) (hpl : (backTo pos (starEach [] X.env)).any (·.1) = false := by rfl) :
    PS X (.Raise (some (.Call (.Name "BadTest" p) [a] [] pos)) none pos2) (tRaiseBadTest C W ta) := ps_raise hc tk (pmk_BadTest T hr ha hg he hpl)
def tByBadTest (C : Addr) (a : Addr) (cls : Value) (d : Option Addr) (te : TE) : TE := fun σ H Q => te σ H fun x H1 => x = .ref a ∧ cls = .ref C ∧ ∃ (dd : Addr) (v : V), d = some dd ∧ H1 dd = some (.xd [(("why" : Str), v)]) ∧ Q v H1
theorem pe_byBadTest {a : Addr} {oe : Obj} {cls : Value} {d : Option Addr} {pn : List (Addr × Obj)} {e : Expr} {te : TE} {pos : Pos} (T : PySem.ErBadTest.Err X.K X.mg C fI) (hz : Zc cls d oe) (hf : ∃ vs, oe.data = .fields vs) (he : PE (X.suite a ((a, oe) :: pn)) e te)
    (hb : attributeBase e "why" X.env (eval e X.env) = eval e X.env := by rfl) :
    PE (X.suite a ((a, oe) :: pn)) (.Attribute e "why" pos) (tByBadTest C a cls d te) := by
  refine ⟨fun pins s σ H Q I h => ?_⟩
  refine attr_of hb (thn (he.run pins s σ H _ I h) fun u s1 hh => ?_)
  obtain ⟨x, H1, I1, rx, ex, ec, dd, v, ed, ea, q⟩ := hh
  subst ex
  obtain rfl : u = Value.ref a := rx
  subst ec
  subst ed
  obtain ⟨ha, _⟩ := I1.pin (a, oe) (List.mem_append_left _ List.mem_cons_self)
  obtain ⟨vs, hd⟩ := hf
  have hx : ObjOk X.prog X.w H1 s1.heap dd (.xd [(("why" : Str), v)]) := I1.hok dd _ ea
  obtain ⟨mA, hns, hr⟩ := hx
  obtain ⟨od, ho, hl⟩ := lookIn_ns hns
  have l : List.lookup ("why" : Str) [(("why" : Str), v)] = some v := by simp [List.lookup]
  obtain ⟨u, hu, ru⟩ := RelO.some_of (v := v) (o := mA "why") (by rw [← l]; exact hr "why")
  have J : PySem.W.InstAt s1.heap a oe C (some od) := ⟨ha, hz.1, by unfold PySem.W.notCls; rw [hd] <;> rfl, by rw [hz.2]; exact ho⟩
  exact HandSPX.exc_get I1.kIn J T.ga T.gg T.exC (PySem.W.findObj_own T.hdC T.noF rfl (by rw [hl, hu])) (handed_of ru) ⟨v, H1, I1.tok _, ru, q⟩
end
end Tw

set_option Elab.async false
set_option linter.all false
set_option maxRecDepth 100000
set_option maxHeartbeats 4000000
namespace PySem
namespace ErBadOrder
open PySem.W PySem.Calls PyProof.Rows PySem.HandSPX PySem.TwX
def inA (p1 p2 : Pos) : Arguments := { posonlyargs := [], args := [{ arg := "self", annotation := none, pos := p1 }, { arg := "at", annotation := none, pos := p2 }], vararg := none, kwonlyargs := [], kw_defaults := [], kwarg := none, defaults := [] }
def inB (q1 q2 q3 q4 : Pos) : List Stmt := [.Assign [.Attribute (.Name "self" q1) "at" q2] (.Name "at" q3) q4]
/-- what the written part says of the class at C, and of its __init__ at fI -/
structure Err (K : Frag) (mg : Str → Option Value) (C fI : Addr) : Prop where
  gC : mg "BadOrder" = some (.ref C)
  cls : ∃ nm q N bs bm sn sub ab col dd k0 k1 k2 k3 k5, K.lookup C = some (excClassObj nm q C N bs bm true sn sub ab col dd k0 k1 k2 k3 k5 "Exception.__new__") ∧ OwnEx bm
  sa : findIn K (.ref C) "__setattr__" = some (some (.builtin "object.__setattr__"))
  ga : findIn K (.ref C) "__getattribute__" = some (some (.builtin "BaseException.__getattribute__"))
  gg : findIn K (.ref C) "__getattr__" = some none
  noF : findIn K (.ref C) "at" = some none
  ini : findIn K (.ref C) "__init__" = some (some (.ref fI))
  tyI : typeIn K (.ref fI) = some (.type "function")
  kC : keepIn K (.ref C) = true
  exC : subIn K (.ref C) (.type "BaseException") = some true
  tyC : typeIn K (.ref C) = some (.type "type")
  hdC : hasDictIn K C = true
  te : exmOne K (.ref C) (.ref C) = some true
  fn : ∃ (oc : Value) (od : Option Addr) (doc pm : Value) (an : Option Addr) (cdv ct : Value) (osl : Array (Option Value)) (p1 p2 q1 q2 q3 q4 : Pos) (sc : Scope),
    K.lookup fI = some ⟨oc, od, .func (fnOf "__init__" "BadOrder.__init__" (inA p1 p2) (inB q1 q2 q3 q4) sc .none .none doc pm an cdv ct), osl⟩ ∧ codeIn K cdv "BadOrder.__init__" = true ∧ sc.kind = .function ∧ sc.names = [(PySem.Str.ofString "self", .local), (PySem.Str.ofString "at", .local)] ∧ sc.isGenerator = false ∧ sc.isCoroutine = false
theorem one_ok (v : Value) : [v].length ≤ sizeLine := by rw [sizeLine_eq]; exact (by decide : 1 ≤ 16777216)
theorem read_local {M : Model} {s : Shared} {name : Str} {scope : Scope} {L a : Addr} {cd : Value} {m : Str → Option Value} {x : Str} {pos : Pos} {v : Value} {Q : Value → Shared → Prop} {A : Around} {E : Value → Shared → Prop} (hn : s.heap.Ns L m) (hv : m x = some v) (h : Q v s) (hk : scope.kind = .function)
    (hl : scope.names.lookup x = some .local) (hd : (x == ("__debug__" : Str)) = false := by decide) : wpAny M A (eval (.Name x pos) (envOfC name scope L a cd)) Q E s := wpAny_Name (wpAny_loadName_local hk hl hn hv h) hd
structure InitLeft (h h2 : Heap) (x C dx t1 : Addr) (v : Value) : Prop where
  keep : ∀ b o, b ≠ x → h.get? b = some o → h2.get? b = some o
  obj : h2.get? x = some { cls := .ref C, dict := some dx, data := .fields #[.ref t1, .none, .none, .none, .bool false, .none] }
  dbig : h.objs.size ≤ dx
  dne : dx ≠ x
  ns : h2.Ns1 dx (fun y => if y = "at" then some v else none)
structure ErrMade (h h2 : Heap) (e C d : Addr) (v : Value) : Prop where
  keep : ∀ b o, h.get? b = some o → h2.get? b = some o
  new : h.objs.size ≤ e
  obj : ∃ oe vs, h2.get? e = some oe ∧ oe.cls = .ref C ∧ oe.dict = some d ∧ oe.data = .fields vs ∧ vs[1]? = some .none
  dbig : h.objs.size ≤ d
  dne : d ≠ e
  ns : h2.Ns1 d (fun y => if y = "at" then some v else none)
section
variable {prog : Program} {w : World} {A : Around} {E : Value → Shared → Prop} {R : Result → Shared → Prop} {s : Shared} {K : Frag} {mg : Str → Option Value} {C fI : Addr}
theorem err_init (T : Err K mg C fI) {x t0 : Addr} {v : Value} (X : K.In s.heap) (hlim : s.heap.NoLimit) (hx : s.heap.get? x = some (excO C t0)) (hroom : A.depth < recursionLimit)
    (hq : ∀ h2 tk dx, InitLeft s.heap h2 x C dx t0 v → R (.ok (.ret .none)) { s with heap := h2, toks := tk }) :
    codeAny (model prog w) A (.call (.ref fI) ⟨[.ref x, v], []⟩) R s := by
  obtain ⟨oc, od, doc, pm, an, cdv, ct, osl, p1, p2, q1, q2, q3, q4, sc, ho, hcd, hk, hnames, hge, hco⟩ := T.fn
  obtain ⟨nm', q, N, bs, bm, sn, sub, ab, col, dd, k0, k1, k2, k3, k5, hC, hbm⟩ := T.cls
  have hcl : clsIn K C = some { name := nm', bases := bs, mro := .ref C :: bm, ns := N, qualname := q, hasDict := true, slotNames := sn, subclasses := sub, abstract := ab, collection := col, hasDel := false } := by unfold clsIn; rw [hC] <;> rfl
  have l1 : sc.names.lookup ("self" : Str) = some .local := by rw [hnames]; decide +kernel
  have l2 : sc.names.lookup ("at" : Str) = some .local := by rw [hnames]; decide +kernel
  refine Att.call_fn (binds := [("self", .ref x), ("at", v)]) X hlim ho hcd hroom (BindsTo.of_eq (by first | rfl | with_unfolding_all rfl)) (by rw [List.all_cons, List.all_cons, l1, l2]; rfl) (fun s₁ IC => ?_) hco hge hk
  obtain ⟨h₁, tk₁, rfl⟩ := IC.toInCall.same
  have k : ∀ b o, s.heap.get? b = some o → h₁.get? b = some o := IC.toInCall.keep
  have hn := IC.toInCall.ns
  have X₁ : K.In h₁ := X.keeps k
  have hx₁ := k _ _ hx
  have b1 : (bindL (envOfC "BadOrder.__init__" sc s.heap.objs.size fI cdv).kindOf [("self", .ref x), ("at", v)] fun _ => none) ("self" : Str) = some (.ref x) :=
    L2.bindL_get (P := ["self", "at"]) (vs := [.ref x, v]) (i := 0) (by decide +kernel) rfl rfl l1
  have b2 : (bindL (envOfC "BadOrder.__init__" sc s.heap.objs.size fI cdv).kindOf [("self", .ref x), ("at", v)] fun _ => none) ("at" : Str) = some v :=
    L2.bindL_get (P := ["self", "at"]) (vs := [.ref x, v]) (i := 1) (by decide +kernel) rfl rfl l2
  show wpAny _ _ (execs _ _) _ _ _
  refine wpAny_execs_cons (plainObj_wpAny_Assign_Attribute ?_)
  refine read_local (v := v) hn b2 (read_local (v := .ref x) hn b1 ?_ hk l1) hk l2
  refine set_plain X₁ (ox := excO C t0) (od := none) ⟨hx₁, rfl, rfl, trivial⟩ T.sa ?_
  refine setattr_first X₁ hx₁ hcl (.own C hbm) rfl T.noF (fun h₃ tk₃ dx k₃ dn dne hx₃ hn₃ => ?_)
  show wpAny _ _ (execs _ _) _ _ _
  have z : s.heap.objs.size < h₁.objs.size := hn.lt
  exact wpAny_execs_nil (hq h₃ tk₃ dx ⟨fun b o hb e => k₃ b o hb (k b o e), hx₃, Nat.le_of_lt (Nat.lt_of_lt_of_le z dn), dne, hn₃⟩)
theorem err_made (T : Err K mg C fI) {v : Value} (X : K.In s.heap) (hlim : s.heap.NoLimit) (hroom : A.depth + 1 < recursionLimit)
    (hq : ∀ h2 tk e d, ErrMade s.heap h2 e C d v → R (.ok (.ret (.ref e))) { s with heap := h2, toks := tk }) :
    codeAny (model prog w) A (.call (.ref C) ⟨[v], []⟩) R s := by
  obtain ⟨nm', q, N, bs, bm, sn, sub, ab, col, dd, k0, k1, k2, k3, k5, hC, hbm⟩ := T.cls
  obtain ⟨hp, g, dr, tk, os⟩ := s
  have k : ∀ b o, hp.get? b = some o → ((hp.push (kdv_tup [v])).push (excO C hp.objs.size)).get? b = some o := fun b o e => Heap.get?_push_of_some _ (Heap.get?_push_of_some _ e)
  have hget : ((hp.push (kdv_tup [v])).push (excO C hp.objs.size)).get? (hp.objs.size + 1) = some (excO C hp.objs.size) := by heap_get
  refine call_own F.excBase_Exception (fun X => hbm.has X) (X _ _ hC) (looks_findIn X T.ini) (fun self => bind_fn X self T.tyI) (one_ok v) ?_
  refine err_init (s := ⟨(hp.push (kdv_tup [v])).push (excO C hp.objs.size), g, dr, tk, os⟩) T (X.keeps k) (hlim.keeps k) hget ?_ fun h2 tk2 dx ⟨k', hx, dn, dne, hns⟩ => ?_
  · show A.depth + 1 < recursionLimit
    exact hroom
  · have old : ∀ b o, hp.get? b = some o → h2.get? b = some o := fun b o e => k' b o (Nat.ne_of_lt (Nat.lt_succ_of_lt (Heap.lt_size e))) (k b o e)
    have z : hp.objs.size + 1 + 1 ≤ dx := by
      first
        | (simpa only [Heap.size_push] using dn)
        | exact dn
        | (have q := dn; rw [Heap.size_push, Heap.size_push] at q; exact q)
    exact ⟨rfl, hq h2 tk2 (hp.objs.size + 1) dx ⟨old, Nat.le_succ _, ⟨_, _, hx, rfl, rfl, rfl, rfl⟩, Nat.le_trans (Nat.le_trans (Nat.le_succ _) (Nat.le_succ _)) z, dne, hns⟩⟩
end
end ErBadOrder
end PySem
namespace Tw
open PySem L2
theorem relO_BadOrder {v : V} {v' : Value} (r : RelV v v') (f : Str) : RelO (List.lookup f [(("at" : Str), v)]) (if f = "at" then some v' else none) := by
  by_cases hw : f = "at"
  · subst hw
    rw [if_pos rfl]
    have q : List.lookup ("at" : Str) [(("at" : Str), v)] = some v := by simp [List.lookup]
    rw [q]
    exact r
  · rw [if_neg hw]
    have qw : (f == ("at" : Str)) = false := by simpa using hw
    have q2 : List.lookup f [(("at" : Str), v)] = none := by simp [List.lookup, qw]
    rw [q2]
    trivial
section
variable {X : Cx} {C fI : Addr}
def tMkBadOrder (C : Addr) (ta : TA) : L2.St → Hp → XK → Prop := fun σ H Q => ta σ H fun vs H1 => ∃ v, vs = [v] ∧ ∀ d, H1 d = none → Q (.ref C) (some d) (upd H1 d (.xd [(("at" : Str), v)]))
theorem pmk_BadOrder {a : Expr} {ta : TA} {p pos : Pos} {k : Nat} (T : PySem.ErBadOrder.Err X.K X.mg C fI) (hr : Room k X.A) (ha : PA X [a] ta) (hg : Gl X "BadOrder" := by rfl)
    (he : starEach (a :: []) X.env = (false, eval a X.env) :: starEach [] X.env := by rfl) (hpl : (backTo pos (starEach [] X.env)).any (·.1) = false := by rfl) :
    PMk X (.Call (.Name "BadOrder" p) [a] [] pos) (tMkBadOrder C ta) := by
  intro pins s σ H Q I h
  refine wpAny_Call_Name_kw (ld_glob I hg T.gC ?_)
  refine PySem.W.callWith_K (h₀ := X.base) I.ok.mod.kin T.kC (thn (ha.run pos pins s σ H _ I h) fun us s1 hh => ?_) he hpl
  obtain ⟨vs, H1, I1, r1, v, ev, q1⟩ := hh
  subst ev
  refine ⟨I1.kIn, ?_⟩
  cases r1 with
  | cons rv rn =>
    rename_i v' us'
    cases rn
    show wpAny _ _ (call (.ref C) [v']) _ _ _
    have hlim := I1.nolimit
    obtain ⟨hp, g, dr, tk, os⟩ := s1
    refine wpAny_call (PySem.ErBadOrder.err_made T I1.kIn hlim (by have := hr.dp; omega) fun h' tk' e d M => ?_)
    show MkP X pins σ Q (.ref e) ⟨h', g, dr, tk', os⟩
    obtain ⟨oe, fv, hoe, hc, hd, hdat, h1⟩ := M.obj
    have hns := M.ns
    obtain ⟨G', g1, g2⟩ := restrict h' fun b => decide (b ≠ e)
    have gk : ∀ b, b ≠ e → G'.get? b = h'.get? b := fun b hb => g1 b (decide_eq_true hb)
    have ge : G'.get? e = none := g2 e (by simp)
    have old : ∀ b o, hp.get? b = some o → G'.get? b = some o := fun b o q => (gk b (Nat.ne_of_lt (Nat.lt_of_lt_of_le (Heap.lt_size q) M.new))).trans (M.keep b o q)
    have ob : ObjOk X.prog X.w (upd H1 d (.xd [(("at" : Str), v)])) G' d (.xd [(("at" : Str), v)]) :=
      ⟨_, hns.at (fun o q => (gk d M.dne).trans q), fun f => relO_BadOrder rv f⟩
    have J : Inv X pins σ (upd H1 d (.xd [(("at" : Str), v)])) ⟨G', g, dr, tk', os⟩ := I1.laid (t' := tk') old M.dbig ob
    refine ⟨e, oe, fv, ⟨G', g, dr, tk', os⟩, _, .ref C, some d, rfl, J, fun b o q => ?_, ge, hoe, ⟨hc, hd⟩, hdat, h1, ?_, rfl, I1.bare, raises_own T.exC T.tyC, q1 d (I1.hok.fresh M.dbig)⟩
    · by_cases hb : b = e
      · have q' : G'.get? b = some o := q
        rw [hb, ge] at q'; cases q'
      · exact (gk b hb).symm.trans q
    · rw [upd_ne (Ne.symm M.dne)]
      exact I1.hok.fresh M.new
def tRaiseBadOrder (C : Addr) (W : WX) (ta : TA) : TS := fun _ σ H => tMkBadOrder C ta σ H fun cls d H' => W cls d σ H'
theorem ps_raiseBadOrder {a : Expr} {ta : TA} {W : WX} {p pos pos2 : Pos} {k : Nat} (hc : X.calm = true) (T : PySem.ErBadOrder.Err X.K X.mg C fI) (hr : Room k X.A) (tk : Takes X W) (ha : PA X [a] ta) (hg : Gl X "BadOrder" := by rfl)
    (he : starEach (a :: []) X.env = (false, eval a X.env) :: starEach [] X.env := by rfl) (hpl : (backTo pos (starEach [] X.env)).any (·.1) = false := by rfl) :
    PS X (.Raise (some (.Call (.Name "BadOrder" p) [a] [] pos)) none pos2) (tRaiseBadOrder C W ta) := ps_raise hc tk (pmk_BadOrder T hr ha hg he hpl)
def tByBadOrder (C : Addr) (a : Addr) (cls : Value) (d : Option Addr) (te : TE) : TE := fun σ H Q => te σ H fun x H1 => x = .ref a ∧ cls = .ref C ∧ ∃ (dd : Addr) (v : V), d = some dd ∧ H1 dd = some (.xd [(("at" : Str), v)]) ∧ Q v H1
theorem pe_byBadOrder {a : Addr} {oe : Obj} {cls : Value} {d : Option Addr} {pn : List (Addr × Obj)} {e : Expr} {te : TE} {pos : Pos} (T : PySem.ErBadOrder.Err X.K X.mg C fI) (hz : Zc cls d oe) (hf : ∃ vs, oe.data = .fields vs) (he : PE (X.suite a ((a, oe) :: pn)) e te)
    (hb : attributeBase e "at" X.env (eval e X.env) = eval e X.env := by rfl) :
    PE (X.suite a ((a, oe) :: pn)) (.Attribute e "at" pos) (tByBadOrder C a cls d te) := by
  refine ⟨fun pins s σ H Q I h => ?_⟩
  refine attr_of hb (thn (he.run pins s σ H _ I h) fun u s1 hh => ?_)
  obtain ⟨x, H1, I1, rx, ex, ec, dd, v, ed, ea, q⟩ := hh
  subst ex
  obtain rfl : u = Value.ref a := rx
  subst ec
  subst ed
  obtain ⟨ha, _⟩ := I1.pin (a, oe) (List.mem_append_left _ List.mem_cons_self)
  obtain ⟨vs, hd⟩ := hf
  have hx : ObjOk X.prog X.w H1 s1.heap dd (.xd [(("at" : Str), v)]) := I1.hok dd _ ea
  obtain ⟨mA, hns, hr⟩ := hx
  obtain ⟨od, ho, hl⟩ := lookIn_ns hns
  have l : List.lookup ("at" : Str) [(("at" : Str), v)] = some v := by simp [List.lookup]
  obtain ⟨u, hu, ru⟩ := RelO.some_of (v := v) (o := mA "at") (by rw [← l]; exact hr "at")
  have J : PySem.W.InstAt s1.heap a oe C (some od) := ⟨ha, hz.1, by unfold PySem.W.notCls; rw [hd] <;> rfl, by rw [hz.2]; exact ho⟩
  exact HandSPX.exc_get I1.kIn J T.ga T.gg T.exC (PySem.W.findObj_own T.hdC T.noF rfl (by rw [hl, hu])) (handed_of ru) ⟨v, H1, I1.tok _, ru, q⟩
end
end Tw

set_option Elab.async false
set_option linter.all false
set_option maxRecDepth 100000
set_option maxHeartbeats 4000000
/-! enumerate over a list or a tuple; a walk over either; a maker with two keyword-only parameters whose defaults are empty tuples -/
namespace PySem
namespace TwE
open Sem (wp)
theorem fresh_enum {v : Value} {o : Obj} {Hc : Heap → Prop} (B : Begins v o Hc) :
    Meets (Builtin.«enumerate.__new__» ⟨[.type "enumerate", v], []⟩) (fun _ R s => Hc s.heap ∧ R (.ok (.ret (.ref (s.heap.push o).objs.size)))
      { s with heap := (s.heap.push o).push { cls := .type "enumerate", data := .fields #[.none, .bool false, .ref s.heap.objs.size, rawInt 0, .none, .none] } }) :=
  .of_wp fun pr wd Ar Rr st hyp => by
    obtain ⟨hp, gg, dr, tc, os⟩ := st
    obtain ⟨hb, hr⟩ := hyp
    have sub0 := sub_enumerate
    have start : ∀ {A2 : Around} {E2 Q2 : Value → Shared → Prop}, Q2 (.ref hp.objs.size) ⟨hp.push o, gg, dr, tc, os⟩ → wpAny (model pr wd) A2 (pyIter v) Q2 E2 ⟨hp, gg, dr, tc, os⟩ := fun q => B.iter pr wd _ _ ⟨hp, gg, dr, tc, os⟩ _ hb q
    wp_walk using start
    refine wpAny_stack_any fun stk => wpAny_pure ?_
    split
    · rename_i cc _ _ _ _ _
      rcases (cc == Value.type "enumerate") with _ | _
      all_goals wp_walk using start
      all_goals exact ⟨_, rfl, hr⟩
    · wp_walk using start
      exact ⟨_, rfl, hr⟩
section
variable {prog : Program} {w : World} {A : Around} {E : Value → Shared → Prop} {s : Shared}
theorem enum_call {v : Value} {o : Obj} {Hc : Heap → Prop} {Q : Value → Shared → Prop} (B : Begins v o Hc) (h1 : Hc s.heap)
    (hq : ∀ h2, IsEnum h2 (s.heap.objs.size + 1) s.heap.objs.size 0 .none → h2.get? s.heap.objs.size = some o → h2.objs.size = s.heap.objs.size + 2 → (∀ b u, s.heap.get? b = some u → h2.get? b = some u) → Q (.ref (s.heap.objs.size + 1)) { s with heap := h2 }) :
    wpAny (model prog w) A (call (.type "enumerate") [v]) Q E s := by
  refine callType_new F.called_enumerate (by decide) (F.typeCall_enumerate_1 _) (F.newCall_enumerate_1 _) (fun x => F.args_object_init_2 x _) F.entry_enumerate_new (fresh_enum B) ⟨h1, ?_⟩
  have sz : (s.heap.push o).objs.size = s.heap.objs.size + 1 := Heap.size_push ..
  have en := Heap.get?_push_size (s.heap.push o) (o := { cls := .type "enumerate", data := .fields #[.none, .bool false, .ref s.heap.objs.size, rawInt 0, .none, .none] }) rfl
  rw [sz] at en
  show _ ∧ _
  rw [sz]
  exact ⟨⟨_, en, rfl⟩, hq _ en (Heap.get?_push_of_some _ (Heap.get?_push_size _ B.free)) (by rw [Heap.size_push, sz]) fun b u e => Heap.get?_push_of_some _ (Heap.get?_push_of_some _ e)⟩
end
end TwE
end PySem
namespace L2
open PySem PySem.Spec PyProof.Rows
/-- the tuple at a, each item in a new pair -/
def Itet (K : PySem.W.Frag) (a : Addr) : It :=
  ⟨fun i H => ∃ (xs : List V) (x : V), SqT K H a xs ∧ xs[i]? = some x, fun i H v H2 => ∃ T x, v = .ref T ∧ H T = none ∧ H2 = upd H T (.tup [.int (i : Nat), x]) ∧ ∀ xs, SqT K H a xs → xs[i]? = some x, fun i H => ∃ xs : List V, SqT K H a xs ∧ xs.length = i⟩
theorem tw_apart {h : Heap} {a it : Addr} {i : Nat} {its : Array Value} (p : h.IsTuple a its) (q : h.IsTupleIter it a i) : a ≠ it := by
  intro e
  obtain ⟨o, ho, hc, n, hd⟩ := p
  obtain ⟨o2, ho2, hc2, hd2⟩ := q
  rw [e, ho2] at ho
  cases ho
  rw [hd] at hd2
  cases hd2
theorem tw_apart2 {h : Heap} {a e it : Addr} {c : Int} {old : Value} {its : Array Value} (p : h.IsTuple a its) (q : IsEnum h e it c old) : e ≠ a := by
  intro z
  obtain ⟨o, ho, hc, n, hd⟩ := p
  have ho2 := q
  unfold IsEnum at ho2
  rw [z, ho] at ho2
  cases ho2
  cases hd
theorem turn_enumT {P : Program} {w : World} {K : PySem.W.Frag} {elts : List Expr} {kk : Nat} {tpos : Pos} (a e it : Addr) :
    Turn P w K (.Tuple elts kk tpos) (Itet K a) [e, it] e (fun i h => (∃ old, IsEnum h e it ((i : Nat) : Int) old) ∧ h.IsTupleIter it a i ∧ e ≠ it) where
  mem := by simp
  obj := fun i h st b hb => by
    obtain ⟨⟨old, he⟩, ⟨o, ho, hc, hd⟩, _⟩ := st
    rcases (show b = e ∨ b = it by simpa using hb) with rfl | rfl
    · exact ⟨_, he, fun v q => nomatch q⟩
    · exact ⟨o, ho, fun v q => by rw [hd] at q; cases q⟩
  keep := fun i h h2 st k => ⟨st.1.elim fun old he => ⟨old, k e (by simp) _ he⟩, st.2.1.at fun o q => k it (by simp) o q, st.2.2⟩
  item := by
    intro X hP hw hK hc i pins s σ H E I hf st hg
    subst hP hw hK
    obtain ⟨⟨old, he⟩, hit, hne⟩ := st
    obtain ⟨xs, x, hq, hx⟩ := hg
    obtain ⟨its, rv, p, hz⟩ := I.tuple hq
    have pt : s.heap.IsTuple a its.toArray := p
    obtain ⟨u, hu, ru⟩ := rv.get hx
    have hel : e < s.heap.objs.size := Heap.lt_size he
    have hil : it < s.heap.objs.size := by
      obtain ⟨_, q, _⟩ := hit
      exact Heap.lt_size q
    have hai := tw_apart pt hit
    have hea := tw_apart2 pt he
    have D := Draws.tuple (prog := X.prog) (w := X.w) (A := X.A.in1) (I.ok.hd hc) it a hai its.toArray
    have hlt : i < its.toArray.size := by
      have := (List.getElem?_eq_some_iff.mp hu).1
      simpa using this
    refine wpAny_pyNext_enum_itemD D he ⟨hit, pt⟩ hlt hne (by simp [hne, hea]) fun y h2 tk py ho st2 hT hsz hk => ?_
    obtain rfl : u = y := by
      rw [List.getElem?_toArray, hu] at py
      injection py
    refine ⟨_, rfl, wpAny_letOwnedTupleGo_enum (s := { s with heap := h2, toks := tk + 1 }) ho fun h3 he3 sb => ?_⟩
    have hT3 : h3.get? s.heap.objs.size = some { cls := .type "tuple", data := .seq #[.int i tk, u] } := (sb.2 _ (Nat.ne_of_gt hel)).trans hT
    have new : ObjOk X.prog X.w (upd H s.heap.objs.size (.tup [.int (i : Nat), x])) h3 s.heap.objs.size (.tup [.int (i : Nat), x]) :=
      ⟨by show 2 ≤ sizeLine; decide, [.int i tk, u], .cons ⟨_, rfl⟩ (.cons ru .nil), ⟨_, hT3, rfl, _, rfl⟩⟩
    have I3 : Inv X pins σ (upd H s.heap.objs.size (.tup [.int (i : Nat), x])) { s with heap := h3, toks := tk + 1 } :=
      I.turnedNew (ch := [e, it]) (fun b ob hb q => by
        have n1 : b ≠ e := fun z => hb (by simp [z])
        have n2 : b ≠ it := fun z => hb (by simp [z])
        exact (sb.2 b n1).trans (hk b ob n1 n2 q)) hf (Nat.le_refl _) new
    have e1 : ((i + 1 : Nat) : Int) = (i : Int) + 1 := by omega
    refine ⟨.ref s.heap.objs.size, _, I3, rfl, ⟨_, x, rfl, I.hok.fresh (Nat.le_refl _), rfl, fun ys hy => by rw [I.tuple_inj hy hq]; exact hx⟩, ⟨⟨u, by rw [e1]; exact he3⟩, st2.1.at fun o q => (sb.2 it (Ne.symm hne)).trans q, hne⟩, fun b hb => ?_⟩
    have hb2 : b < s.heap.objs.size := by
      rcases (show b = e ∨ b = it by simpa using hb) with rfl | rfl
      · exact hel
      · exact hil
    rw [upd_ne (Nat.ne_of_lt hb2)]
    exact (hf b hb).1
  done := by
    intro X hP hw hK hc i pins s σ H E I hf st hg
    subst hP hw hK
    obtain ⟨⟨old, he⟩, hit, hne⟩ := st
    obtain ⟨xs, hq, hx⟩ := hg
    obtain ⟨its, rv, p, hz⟩ := I.tuple hq
    have pt : s.heap.IsTuple a its.toArray := p
    obtain ⟨f0, f1, f2, f3, f4, f5⟩ := hf it (by simp)
    have D := Draws.tuple (prog := X.prog) (w := X.w) (A := X.A.in1) (I.ok.hd hc) it a (tw_apart pt hit) its.toArray
    have hl : its.toArray.size = i := by
      rw [List.size_toArray, ← rv.length, hx]
    exact wpAny_pyNext_enum_endD D he (by rw [hl]; exact ⟨hit, pt⟩) fun h2 eb => ⟨rfl, I.turned (t' := s.toks) (fun b o hb q => eb b o hb q) f0 f1 f3 f4 f5⟩
  self := fun A i s Q E st h => st.1.elim fun _ he => wpAny_pyIter_enum he h
/-- what enumerate gives of the items xs -/
structure EFits (J : It) (xs : List V) (H : Hp) : Prop where
  go : ∀ i, i < xs.length → J.go i H
  stop : J.stop xs.length H
  yld : ∀ i x H', J.yld i H x H' → ∃ T v, x = .ref T ∧ H T = none ∧ H' = upd H T (.tup [.int (i : Nat), v]) ∧ xs[i]? = some v
/-- a list or a tuple -/
def SqA (K : PySem.W.Frag) (H : Hp) (a : Addr) (xs : List V) : Prop := SqL K H a xs ∨ SqT K H a xs
theorem same_l {K : PySem.W.Frag} {H H' : Hp} {a : Addr} {xs : List V} (h : SqL K H a xs) (e : H' a = H a) : SqL K H' a xs := by
  rcases h with h | h
  · exact .inl (by unfold Rd at h ⊢; rw [e]; exact h)
  · exact .inr h
theorem same_t {K : PySem.W.Frag} {H H' : Hp} {a : Addr} {xs : List V} (h : SqT K H a xs) (e : H' a = H a) : SqT K H' a xs := by
  rcases h with h | h
  · exact .inl (by unfold Rd at h ⊢; rw [e]; exact h)
  · exact .inr h
theorem efits_l {K : PySem.W.Frag} {H : Hp} {a : Addr} {xs : List V} (h : SqL K H a xs) : EFits (Ite K a) xs H :=
  ⟨fun i hi => ⟨xs, xs[i], h, List.getElem?_eq_getElem hi⟩, ⟨xs, h, Nat.le_refl _⟩, fun i x H' ⟨T, v, e1, e2, e3, e4⟩ => ⟨T, v, e1, e2, e3, e4 xs h⟩⟩
theorem efits_t {K : PySem.W.Frag} {H : Hp} {a : Addr} {xs : List V} (h : SqT K H a xs) : EFits (Itet K a) xs H :=
  ⟨fun i hi => ⟨xs, xs[i], h, List.getElem?_eq_getElem hi⟩, ⟨xs, h, rfl⟩, fun i x H' ⟨T, v, e1, e2, e3, e4⟩ => ⟨T, v, e1, e2, e3, e4 xs h⟩⟩
def iEnumG (K : PySem.W.Frag) (ta : TA) : TI := fun σ H R => ta σ H fun vs H1 => ∃ a xs, vs = [.ref a] ∧ SqA K H1 a xs ∧ ∀ J, (∀ H', H' a = H1 a → EFits J xs H') → R J H1
theorem pi_enumG {X : Cx} {K : PySem.W.Frag} {e : Expr} {ta : TA} {p pos tpos : Pos} {elts : List Expr} {kk : Nat} (hK : X.K = K) (hg : Gl X "enumerate") (hm : X.mg "enumerate" = none) (ha : PA X [e] ta) (hs : starEach [e] X.env = [(false, eval e X.env)] := by rfl) :
    PI X (.Tuple elts kk tpos) (.Call (.Name "enumerate" p) [e] [] pos) (iEnumG K ta) := by
  subst hK
  refine ⟨fun pins s σ H R I h => ?_⟩
  refine Call_ (ld_blt I hg hm boot_enumerate (PyProof.Rows.callWith_type1 (thn (ha.run pos pins s σ H _ I h) fun us s1 ⟨vs, H1, I1, r1, q1⟩ => ?_) hs rfl))
  obtain ⟨a, xs, rfl, hs2, q⟩ := q1
  cases r1 with
  | cons r rr =>
    cases rr
    cases r
    have fp : ∀ b ∈ [s1.heap.objs.size + 1, s1.heap.objs.size], FpOk X pins H1 b := fun b hb => by
      have hle : s1.heap.objs.size ≤ b := by
        rcases (show b = s1.heap.objs.size + 1 ∨ b = s1.heap.objs.size by simpa using hb) with rfl | rfl
        · exact Nat.le_add_right _ _
        · exact Nat.le_refl _
      exact I1.fpOk hle (I1.hok.fresh hle)
    rcases hs2 with hq | hq
    · replace q := q (Ite X.K a) fun H' e => efits_l (same_l hq e)
      obtain ⟨its, rv, p2, hz⟩ := I1.list hq
      refine call_enumerate_list p2.isList fun h2 he hit hsz hk => wpAny_pyIter_enum he ?_
      exact ⟨s1.heap.objs.size + 1, [s1.heap.objs.size + 1, s1.heap.objs.size], _, _, H1, rfl, I1.kept (t' := s1.toks) hk, turn_enum a (s1.heap.objs.size + 1) s1.heap.objs.size, ⟨⟨.none, he⟩, hit, Nat.succ_ne_self _⟩, fp, q⟩
    · replace q := q (Itet X.K a) fun H' e => efits_t (same_t hq e)
      obtain ⟨its, rv, p2, hz⟩ := I1.tuple hq
      have pt : s1.heap.IsTuple a its.toArray := p2
      refine TwE.enum_call (begins_tuple a its.toArray) pt fun h2 he hit hsz hk => wpAny_pyIter_enum he ?_
      exact ⟨s1.heap.objs.size + 1, [s1.heap.objs.size + 1, s1.heap.objs.size], _, _, H1, rfl, I1.kept (t' := s1.toks) hk, turn_enumT a (s1.heap.objs.size + 1) s1.heap.objs.size, ⟨⟨.none, he⟩, ⟨_, hit, rfl, rfl⟩, Nat.succ_ne_self _⟩, fp, q⟩
def iSeq (K : PySem.W.Frag) (tl : TE) : TI := fun σ H R => tl σ H fun x H1 => ∃ a xs, x = .ref a ∧ SqA K H1 a xs ∧ ∀ J, (∀ H', H' a = H1 a → Tw.Fits J xs H') → R J H1
theorem pi_seqG {X : Cx} {K : PySem.W.Frag} {tg : Expr} {l : Expr} {tl : TE} (hK : X.K = K) (hl : PE X l tl) : PI X tg l (iSeq K tl) := by
  subst hK
  refine ⟨fun pins s σ H R I h => ?_⟩
  refine thn (hl.run pins s σ H _ I h) fun v s1 ⟨x, H1, I1, r1, q1⟩ => ?_
  obtain ⟨a, xs, rfl, hs2, q⟩ := q1
  cases r1
  have fp : ∀ b ∈ [s1.heap.objs.size], FpOk X pins H1 b := fun b hb => by
    obtain rfl : b = s1.heap.objs.size := by simpa using hb
    exact I1.fpOk (Nat.le_refl _) (I1.hok.fresh (Nat.le_refl _))
  rcases hs2 with hq | hq
  · replace q := q (Itl X.K a) fun H' e => Tw.fits_l (same_l hq e)
    obtain ⟨its, rv, p, hz⟩ := I1.list hq
    refine wpAny_pyIter_list p.isList ?_
    exact ⟨s1.heap.objs.size, [s1.heap.objs.size], _, _, H1, rfl, I1.kept (t' := s1.toks) fun b o e => Heap.get?_push_of_some _ e, turn_list a _, ⟨_, Heap.get?_push_size _ rfl, rfl, rfl⟩, fp, q⟩
  · replace q := q (Itt X.K a) fun H' e => Tw.fits_t (same_t hq e)
    obtain ⟨its, rv, p, hz⟩ := I1.tuple hq
    refine wpAny_pyIter_tuple (show s1.heap.IsTuple a its.toArray from p) ?_
    exact ⟨s1.heap.objs.size, [s1.heap.objs.size], _, _, H1, rfl, I1.kept (t' := s1.toks) fun b o e => Heap.get?_push_of_some _ e, turn_tuple a _, ⟨_, Heap.get?_push_size _ rfl, rfl, rfl⟩, fp, q⟩
end L2
namespace Tw
open PySem L2
section
variable {K : PySem.W.Frag} {σ : L2.St} {H : Hp} {D : Ends} {ta : TA} {te : TE} {a : Addr} {xs : List V}
theorem g_enumG {R : It → Hp → Prop} (q : ta σ H fun vs H1 => ∃ a xs, vs = [.ref a] ∧ SqA K H1 a xs ∧ ∀ J, (∀ H', H' a = H1 a → EFits J xs H') → R J H1) : iEnumG K ta σ H R := q
theorem g_seqG {R : It → Hp → Prop} (q : te σ H fun x H1 => ∃ a xs, x = .ref a ∧ SqA K H1 a xs ∧ ∀ J, (∀ H', H' a = H1 a → Fits J xs H') → R J H1) : iSeq K te σ H R := q
theorem for_enumA {J : It} {g : TG} {tb : TS} (Pv : Nat → L2.St → Hp → Prop) (h0 : Pv 0 σ H) (hl : ∀ i σ H, i ≤ xs.length → Pv i σ H → EFits J xs H)
    (hs : ∀ i v T σ H (D' : Ends), xs[i]? = some v → Pv i σ H → H T = none → (∀ σ H, Pv (i + 1) σ H → D'.nx σ H) → (∀ σ H, Pv (i + 1) σ H → D'.ct σ H) → (∀ σ H, D.nx σ H → D'.bk σ H) → D'.rt = D.rt → g (.ref T) σ (upd H T (.tup [.int (i : Nat), v])) fun σ2 H2 => tb D' σ2 H2)
    (hd : ∀ σ H, Pv xs.length σ H → D.nx σ H) :
    ∃ W : Nat → Nat → L2.St → Hp → Prop, (∃ m, W 0 m σ H) ∧ ∀ i m σ H, W i m σ H →
      (J.stop i H ∧ D.nx σ H) ∨ (J.go i H ∧ ∃ N : L2.St → Hp → Prop, (∀ σ' H', N σ' H' → ∃ m', m' < m ∧ W (i + 1) m' σ' H') ∧ ∀ x H', J.yld i H x H' → g x σ H' fun σ2 H2 => tb { D with nx := N, ct := N, bk := D.nx } σ2 H2) := by
  refine ⟨fun i m σ H => m = xs.length - i ∧ i ≤ xs.length ∧ Pv i σ H, ⟨xs.length, by simp, Nat.zero_le _, h0⟩, ?_⟩
  rintro i m σ H ⟨rfl, hi, p⟩
  have fi := hl i σ H hi p
  by_cases hlt : i < xs.length
  · refine .inr ⟨fi.go i hlt, Pv (i + 1), fun σ' H' q => ⟨xs.length - (i + 1), by omega, rfl, hlt, q⟩, fun x H' y => ?_⟩
    obtain ⟨T, v, rfl, hT, rfl, hv⟩ := fi.yld i x H' y
    exact hs i v T σ H { D with nx := Pv (i + 1), ct := Pv (i + 1), bk := D.nx } hv p hT (fun _ _ h => h) (fun _ _ h => h) (fun _ _ h => h) rfl
  · obtain rfl : i = xs.length := by omega
    exact .inl ⟨fi.stop, hd σ H p⟩
end
/-- a maker with two keyword-only parameters whose defaults are empty tuples -/
structure HereCD (K : PySem.W.Frag) (C : Addr) (qual : Str) (st : Stmt) (ps : List Str) (f : Addr) (fd : FuncData) : Prop where
  fn : Fun K "__init__" qual st f fd
  mkr : Mk K C f
  bd : ∃ d1 d2 : Addr, (∀ H, SqT K H d1 []) ∧ (∀ H, SqT K H d2 []) ∧ ∃ ds, Vals [.ref d1, .ref d2] ds ∧ Binds K fd ps ds
structure DefCD (P : Program) (w : World) (K : PySem.W.Frag) (mg : Str → Option Value) (base : Heap) (k : Nat) (C : Addr) (ps : List Str) (sp : Sp) : Prop where
  ex : ∃ (f : Addr) (fd : FuncData), FnOk P w K mg base CX0 k f fd ps sp ∧ Mk K C f ∧ ∃ d1 d2 : Addr, (∀ H, SqT K H d1 []) ∧ (∀ H, SqT K H d2 []) ∧ ∃ ds, Vals [.ref d1, .ref d2] ds ∧ Binds K fd ps ds
theorem HereCD.def {P : Program} {w : World} {K : PySem.W.Frag} {mg : Str → Option Value} {base : Heap} {k : Nat} {C : Addr} {qual : Str} {st : Stmt} {ps : List Str} {sp : Sp} {f : Addr} {fd : FuncData} (h : HereCD K C qual st ps f fd) (F : FnOk P w K mg base CX0 k f fd ps sp) : DefCD P w K mg base k C ps sp :=
  ⟨f, fd, F, h.mkr, h.bd⟩
def tNewD (K : PySem.W.Frag) (C : Addr) (sp : Sp) (t : TA) : TE := fun σ H Q => ∀ d1 d2 : Addr, (∀ H, SqT K H d1 []) → (∀ H, SqT K H d2 []) → t σ H fun vs H1 => ∀ x dx, H1 x = none → H1 dx = none → dx ≠ x →
  sp (.ref x :: (vs ++ [.ref d1, .ref d2])) (upd (upd H1 dx (.own x)) x (.ins C dx [])) (fun v H2 => v = .non ∧ Q (.ref x) H2) E0
theorem g_newD {K : PySem.W.Frag} {C : Addr} {sp : Sp} {t : TA} {σ : L2.St} {H : Hp} {Q : VK} (q : ∀ d1 d2 : Addr, (∀ H, SqT K H d1 []) → (∀ H, SqT K H d2 []) → t σ H fun vs H1 => ∀ x dx, H1 x = none → H1 dx = none → dx ≠ x →
  sp (.ref x :: (vs ++ [.ref d1, .ref d2])) (upd (upd H1 dx (.own x)) x (.ins C dx [])) (fun v H2 => v = .non ∧ Q (.ref x) H2) E0) : tNewD K C sp t σ H Q := q
theorem pe_newD {X : Cx} {K : PySem.W.Frag} {k j : Nat} {C : Addr} {x : Str} {p pos : Pos} {e : Expr} {es : List Expr} {ps : List Str} {sp : Sp} {t : TA} (hK : X.K = K)
    (D : DefCD X.prog X.w K X.mg X.base k C ps sp) (hr : Room j X.A) (hg : Gl X x) (hm : X.mg x = some (.ref C)) (ha : PA X (e :: es) t) (hk : k + 1 ≤ j := by decide) (hdb : (x == ("__debug__" : Str)) = false := by decide)
    (he : starEach (e :: es) X.env = (false, eval e X.env) :: starEach es X.env := by rfl) (hpl : (backTo pos (starEach es X.env)).any (·.1) = false := by rfl) : PE X (.Call (.Name x p) (e :: es) [] pos) (tNewD K C sp t) := by
  subst hK
  obtain ⟨f, fd, F, mk, d1, d2, e1, e2, ds, hv, hb⟩ := D.ex
  exact ⟨fun pins s σ H Q I h => (pe_make mk F (hr.mono hk) hg hm hb hv pass0 ha hdb he hpl).run pins s σ H Q I (h d1 d2 e1 e2)⟩
theorem kw_bd2 {K : PySem.W.Frag} {fd : FuncData} {D : Addr} {k1 k2 : Str} {ps : List Str} {n : Nat} {a1 a2 : Addr} {o1 o2 : Obj} {i1 i2 : Array Value} {n1 n2 : Nat} (hps : ps.length = n + 2) (h1 : PySem.W.nsIn K D k1 = some (some (.ref a1))) (h2 : PySem.W.nsIn K D k2 = some (some (.ref a2)))
    (l1 : K.lookup a1 = some o1) (c1 : o1.cls = .type "tuple") (g1 : o1.data = .seq i1 n1) (z1 : i1.size = 0) (l2 : K.lookup a2 = some o2) (c2 : o2.cls = .type "tuple") (g2 : o2.data = .seq i2 n2) (z2 : i2.size = 0)
    (h : ∀ us : List Value, us.length = n → ∀ u v : Value, KwChain D [(k1, u), (k2, v)] (bindArgs fd ⟨us, []⟩) (ps.zip (us ++ [u, v]))) :
    ∃ d1 d2 : Addr, (∀ H, SqT K H d1 []) ∧ (∀ H, SqT K H d2 []) ∧ ∃ ds, Vals [.ref d1, .ref d2] ds ∧ Binds K fd ps ds := by
  have nil : ∀ {i : Array Value}, i.size = 0 → Vals [] i.toList := fun {i} z => by
    have : i.toList = [] := List.length_eq_zero_iff.mp (by simpa using z)
    rw [this]
    exact .nil
  refine ⟨a1, a2, fun H => .inr ⟨o1, i1, n1, l1, c1, g1, by rw [z1]; exact Nat.zero_le _, nil z1⟩, fun H => .inr ⟨o2, i2, n2, l2, c2, g2, by rw [z2]; exact Nat.zero_le _, nil z2⟩, [.ref a1, .ref a2], .cons rfl (.cons rfl .nil), fun s us X hlen => BindsTo.of_looks fun M => KwChain.looks X (fun q hq => ?_) (h us ?_ (.ref a1) (.ref a2))⟩
  · rcases List.mem_cons.mp hq with rfl | hq
    · exact h1
    · obtain rfl := List.mem_singleton.mp hq
      exact h2
  · simp at hlen
    omega

def rTupG (K : PySem.W.Frag) : List V → Hp → VK → Prop := fun xs H Q => ∃ p ys, xs = [.ref p] ∧ ((SqL K H p ys ∧ ∀ l, H l = none → Q (.ref l) (upd H l (.tup ys))) ∨ (SqT K H p ys ∧ Q (.ref p) H))
theorem call_tupleG {X : Cx} {K : PySem.W.Frag} (h : X.K = K) : CallR X (.type "tuple") (rTupG K) := by subst h; exact call_tuple_of
section
variable {K : PySem.W.Frag} {σ : L2.St} {H : Hp} {Q : VK} {a : Addr} {xs : List V}
theorem g_tupL (h : SqL K H a xs) (q : ∀ l, H l = none → Q (.ref l) (upd H l (.tup xs))) : rTupG K [.ref a] H Q := ⟨a, xs, rfl, .inl ⟨h, q⟩⟩
theorem g_tupT (h : SqT K H a xs) (q : Q (.ref a) H) : rTupG K [.ref a] H Q := ⟨a, xs, rfl, .inr ⟨h, q⟩⟩
theorem g_dc {wi : TI} {g : TG} {tt : TT} {tk tv : TE} {vs : List Nat} (q : wi σ H fun J H1 => ∀ D, H1 D = none → ∃ W : Nat → Nat → Hp → Prop, (∃ m, W 0 m (upd H1 D (.dK []))) ∧ ∀ i m H, W i m H →
  (J.stop i H ∧ Q (.ref D) H) ∨ (J.go i H ∧ ∃ Nx : Hp → Prop, (∀ H', Nx H' → ∃ m', m' < m ∧ W (i + 1) m' H') ∧ ∀ x H', J.yld i H x H' → g x (wipe σ vs) H' fun σ2 H2 => wipe σ2 vs = wipe σ vs ∧ tt σ2 H2 fun b H3 =>
    if b = true then tk σ2 H3 fun y H4 => tv σ2 H4 fun z H5 => ∃ kvs k, y = kV k ∧ H5 D = some (.dK kvs) ∧ kvs.length < sizeLine ∧ Nx (upd H5 D (.dK (putK kvs k z))) else Nx H3)) : tDc wi g tt tk tv vs σ H Q := q
/-- a tuple, a list in the heap, a tuple of the written part: what isinstance sees -/
theorem tyx_t (h : SqT K H a xs) : TyX K H (.ref a) (.type "tuple") := by
  rcases h with h | ⟨o, its, n, h1, h2, _⟩
  · rcases h with h | ⟨o, h⟩
    · exact .base (.tup h)
    · exact .fTuple h
  · exact .kTuple h1 h2
end
end Tw

set_option Elab.async false
set_option linter.all false
set_option maxRecDepth 100000
set_option maxHeartbeats 4000000
/-! makers with two keyword-only parameters, that are given -/
namespace Tw
open PySem PySem.Spec PyProof.Rows L2
structure HereCK (K : PySem.W.Frag) (C : Addr) (qual : Str) (st : Stmt) (ps : List Str) (n : Nat) (k1 k2 : Str) (f : Addr) (fd : FuncData) : Prop where
  cd : HereCD K C qual st ps f fd
  kb : KBn K fd ps (n + 1) [k1, k2] (fun us ws => us ++ ws) (fun vs zs => vs ++ zs)
theorem HereCK.fn {K : PySem.W.Frag} {C : Addr} {qual : Str} {st : Stmt} {ps : List Str} {n : Nat} {k1 k2 : Str} {f : Addr} {fd : FuncData} (h : HereCK K C qual st ps n k1 k2 f fd) : Fun K "__init__" qual st f fd := h.cd.fn
structure DefCK (P : Program) (w : World) (K : PySem.W.Frag) (mg : Str → Option Value) (base : Heap) (k : Nat) (C : Addr) (ps : List Str) (n : Nat) (k1 k2 : Str) (sp : Sp) : Prop where
  cd : DefCD P w K mg base k C ps sp
  kb : ∃ (f : Addr) (fd : FuncData), FnOk P w K mg base CX0 k f fd ps sp ∧ Mk K C f ∧ KBn K fd ps (n + 1) [k1, k2] (fun us ws => us ++ ws) (fun vs zs => vs ++ zs)
theorem HereCK.def {P : Program} {w : World} {K : PySem.W.Frag} {mg : Str → Option Value} {base : Heap} {k n : Nat} {C : Addr} {qual : Str} {st : Stmt} {ps : List Str} {k1 k2 : Str} {sp : Sp} {f : Addr} {fd : FuncData} (h : HereCK K C qual st ps n k1 k2 f fd) (F : FnOk P w K mg base CX0 k f fd ps sp) : DefCK P w K mg base k C ps n k1 k2 sp :=
  ⟨h.cd.def F, f, fd, F, h.cd.mkr, h.kb⟩
section
variable {X : Cx} {K : PySem.W.Frag} {k j n : Nat} {C : Addr} {x k1 k2 : Str} {p pos p1 p2 : Pos} {e e1 e2 : Expr} {es : List Expr} {ps : List Str} {sp : Sp} {t : TA} {t1 t2 : TE}
theorem pe_newK (D : DefCK X.prog X.w X.K X.mg X.base k C ps n k1 k2 sp) (hr : Room j X.A) (hg : Gl X x) (hm : X.mg x = some (.ref C)) (ha : PA X (e :: es) t) (h1 : PE X e1 t1) (h2 : PE X e2 t2) (hk : k + 1 ≤ j := by decide)
    (hall : (backToKw pos (keywordEach [⟨some k1, e1, p1⟩, ⟨some k2, e2, p2⟩] X.env)).all (·.1.isSome) = true := by rfl) (hks : (backToKw pos (keywordEach [⟨some k1, e1, p1⟩, ⟨some k2, e2, p2⟩] X.env)).filterMap (·.1) = [k1, k2] := by rfl)
    (hdb : (x == ("__debug__" : Str)) = false := by decide) (he : starEach (e :: es) X.env = (false, eval e X.env) :: starEach es X.env := by rfl)
    (hpl : ((backTo pos (starEach (e :: es) X.env)).any (·.1) || (backToKw pos (keywordEach [⟨some k1, e1, p1⟩, ⟨some k2, e2, p2⟩] X.env)).any (·.1.isNone)) = false := by rfl) :
    PE X (.Call (.Name x p) (e :: es) [⟨some k1, e1, p1⟩, ⟨some k2, e2, p2⟩] pos) (tMakeN C n 2 sp (fun vs zs => vs ++ zs) E0 t (tCons t1 (tCons t2 tNil))) := by
  obtain ⟨f, fd, F, mk, kb⟩ := D.kb
  exact pe_makeN mk F (hr.mono hk) hg hm kb pass0 ha (pk_cons h1 (pk_cons h2 pk_nil)) hall hks hdb he hpl
theorem g_newK {σ : L2.St} {H : Hp} {Q : VK} (q : t σ H fun vs H1 => t1 σ H1 fun z1 H2 => t2 σ H2 fun z2 H3 => vs.length = n ∧ 2 = 2 ∧ ∀ x dx, H3 x = none → H3 dx = none → dx ≠ x → sp ((.ref x :: vs) ++ [z1, z2]) (upd (upd H3 dx (.own x)) x (.ins C dx [])) (fun v H4 => v = .non ∧ Q (.ref x) H4) E0) :
    tMakeN C n 2 sp (fun vs zs => vs ++ zs) E0 t (tCons t1 (tCons t2 tNil)) σ H Q := q
end
theorem kw_kb2 {K : PySem.W.Frag} {fd : FuncData} {k1 k2 : Str} {ps : List Str} {n : Nat} (h : ∀ us : List Value, us.length = n → ∀ u v : Value, bindArgs fd ⟨us, [(k1, u), (k2, v)]⟩ = pure (ps.zip (us ++ [u, v]))) : KBn K fd ps n [k1, k2] (fun us ws => us ++ ws) (fun vs zs => vs ++ zs) := by
  refine ⟨fun s us ws X l1 l2 => ?_, fun r1 r2 => r1.append r2⟩
  match ws, l2 with
  | [u, v], _ => exact .of_eq (h us l1 u v)
end Tw

set_option Elab.async false
set_option linter.all false
set_option maxRecDepth 100000
set_option maxHeartbeats 4000000
/-! written dicts from texts to numbers -/
namespace Tw
open PySem PySem.Spec PyProof.Rows L2
structure KDic (K : PySem.W.Frag) (w : World) (a : Addr) (ks : List (Str × Int)) : Prop where
  ex : ∃ es n, KDict K w a es n
  at' : ∀ p ∈ ks, ∃ t, PySem.W.nsIn K a p.1 = some (some (.int p.2 t))
def rIxKD (K : PySem.W.Frag) (w : World) : R2 := fun x y H Q => ∃ (p : Addr) (z : Str) (i : Int) (ks : List (Str × Int)), x = .ref p ∧ y = .str z ∧ KDic K w p ks ∧ (z, i) ∈ ks ∧ Q (.int i) H
def rNotKD (K : PySem.W.Frag) (w : World) : R2 := fun y x H Q => ∃ (p : Addr) (z : Str) (i : Int) (ks : List (Str × Int)), x = .ref p ∧ y = .str z ∧ KDic K w p ks ∧ (z, i) ∈ ks ∧ Q (.bl false) H
section
variable {X : Cx} {K : PySem.W.Frag} {w : World}
theorem ix_KD (hK : X.K = K) (hw : X.w = w) : IxR X (rIxKD K w) := by
  subst hK; subst hw
  intro value slice pins s σ H x y v u Q I rx ry h hs
  obtain ⟨p, z, i, ks, rfl, rfl, D, hm, q⟩ := h
  obtain ⟨es, n, D1⟩ := D.ex
  obtain ⟨t, e⟩ := D.at' _ hm
  exact ix_kdict value slice pins s σ H (.ref p) (.str z) v u Q I rx ry ⟨p, z, .int i, rfl, rfl, ⟨es, n, _, D1.at_, D1.lit, e, ⟨t, rfl⟩⟩, q⟩ hs
theorem op_notKD (hK : X.K = K) (hw : X.w = w) : OpR X (compareOp .NotIn) (rNotKD K w) := by
  subst hK; subst hw
  intro pins s σ H y x u v Q I ry rx h
  obtain ⟨p, z, i, ks, rfl, rfl, D, hm, q⟩ := h
  obtain ⟨es, n, D1⟩ := D.ex
  obtain ⟨t, e⟩ := D.at' _ hm
  exact op_notIn_kd D1 pins s σ H (.str z) (.ref p) u v Q I ry rx ⟨z, some (.int i t), rfl, rfl, e, q⟩
end
theorem kdic_of {K : PySem.W.Frag} {w : World} {a : Addr} {es : Array DictEntry} {n : Nat} {ks : List Str} {kvs : List (Str × Int)} (h1 : K.lookup a = some ⟨.type "dict", none, .dict es n, #[]⟩) (h2 : es.toList.map He.keyOf = He.keysIn w.params ks) (h3 : (a == sysModules) = false)
    (h4 : ∀ p ∈ kvs, ∃ t, PySem.W.nsIn K a p.1 = some (some (.int p.2 t))) : KDic K w a kvs := ⟨⟨es, n, h1, He.keysLit_of h2, h3⟩, h4⟩
end Tw


set_option Elab.async false
set_option linter.all false
set_option maxRecDepth 100000
set_option maxHeartbeats 4000000
namespace L
open PySem L2 Tw
local macro_rules | `(tactic| walk_at "hp") => `(tactic| first
  | assumption
  | exact upd_same
  | (refine Eq.trans (upd_ne ?hn) ?hr; (case hn => first | assumption | exact Ne.symm (by assumption)); (case hr => walk_at "hp")))
local macro_rules | `(tactic| walk_at "g1") => `(tactic| first
  | with_reducible refine g_nx ?_
  | with_reducible refine g_rt ?_
  | with_reducible refine g_seq ?_
  | with_reducible refine g_ret ?_
  | with_reducible refine g_if ?_
  | with_reducible refine g_asg ?_
  | with_reducible refine g_drop ?_
  | with_reducible refine g_asgSub ?_
  | with_reducible refine g_next ?_
  | with_reducible refine g_op ?_
  | ((with_reducible refine g_var0 ?_); refine ⟨_, rfl, ?_⟩)
  | with_reducible refine g_c ?_
  | with_reducible refine g_cons ?_
  | with_reducible refine g_nil ?_
  | with_reducible refine g_def ?_
  | with_reducible refine g_cb ?_
  | with_reducible refine g_test ?_
  | with_reducible refine g_B ?_
  | with_reducible refine g_bl ?_
  | with_reducible refine g_sl ?_
  | with_reducible refine g_name ?_
  | with_reducible refine g_lc ?_
  | with_reducible refine g_rng1 ?_
  | with_reducible refine g_for ?_
  | with_reducible refine g_yes ?_
  | with_reducible refine g_ilist ?_
  | ((with_reducible refine g_m1 ?_))
  | with_reducible refine g_m0 ?_
  | with_reducible refine g_noPart ?_
  | with_reducible refine g_part ?_
  | with_reducible refine g_int ?_
  | with_reducible refine g_tand ?_
  | with_reducible refine g_tor ?_
  | with_reducible refine g_tnot ?_
  | with_reducible refine g_vand ?_
  | with_reducible refine g_vor ?_
  | with_reducible refine g_vnot ?_
  | with_reducible refine g_eif ?_
  | with_reducible refine g_un ?_
  | with_reducible refine g_addI ?_
  | with_reducible refine g_subI ?_
  | with_reducible refine g_negI ?_
  | with_reducible refine g_ltI ?_
  | with_reducible refine g_ltS ?_
  | with_reducible refine g_leI ?_
  | with_reducible refine g_geS ?_
  | with_reducible refine g_inS ?_
  | with_reducible refine g_notInS ?_
  | with_reducible refine g_max2 ?_
  | with_reducible refine g_isiR (by assumption) (by decide) ?_
  | with_reducible refine g_isBl_tt ?_
  | with_reducible refine g_notBl_tt ?_
  | with_reducible refine g_isBl_tf ?_
  | with_reducible refine g_notBl_tf ?_
  | with_reducible refine g_isBl_ft ?_
  | with_reducible refine g_notBl_ft ?_
  | with_reducible refine g_isBl_ff ?_
  | with_reducible refine g_notBl_ff ?_
  | with_reducible refine g_isBl ?_
  | with_reducible refine g_notBl ?_
  | with_reducible refine g_istr ?_
  | with_reducible refine g_str1 ?_
  | with_reducible refine g_strE ?_
  | with_reducible refine g_gtI ?_
  | with_reducible refine g_geI ?_
  | with_reducible refine g_isN_non ?_
  | with_reducible refine g_isN_int ?_
  | with_reducible refine g_isN_str ?_
  | with_reducible refine g_isN_bl ?_
  | with_reducible refine g_isN_ref ?_
  | with_reducible refine g_notN_non ?_
  | with_reducible refine g_notN_int ?_
  | with_reducible refine g_notN_str ?_
  | with_reducible refine g_notN_bl ?_
  | with_reducible refine g_notN_ref ?_
  | with_reducible refine g_isN ?_
  | with_reducible refine g_notN ?_
  | with_reducible refine g_isiI kb_ii ?_
  | with_reducible refine g_isiI kb_is ?_
  | with_reducible refine g_isiI kb_ib ?_
  | with_reducible refine g_isiS kb_si ?_
  | with_reducible refine g_isiS kb_ss ?_
  | with_reducible refine g_isiS kb_sb ?_
  | with_reducible refine g_isiB kb_bi ?_
  | with_reducible refine g_isiB kb_bs ?_
  | with_reducible refine g_isiB kb_bb ?_
  | with_reducible refine g_isiN kb_ni ?_
  | with_reducible refine g_isiN kb_ns ?_
  | with_reducible refine g_isiN kb_nb ?_
  | with_reducible refine g_eqI ?_
  | with_reducible refine g_eqS ?_
  | with_reducible refine g_eqB ?_
  | with_reducible refine g_neI ?_
  | with_reducible refine g_neS ?_
  | with_reducible refine g_int1 ?_
  | with_reducible refine g_int1B ?_
  | with_reducible refine g_bool1B ?_
  | with_reducible refine g_bool1I ?_
  | ((with_reducible refine g_modI ?gm ?_); (case gm => first | assumption | decide | omega))
  | ((with_reducible refine g_mulI ?gm ?_); (case gm => first | exact Or.inl ⟨by decide, by decide⟩ | exact Or.inr ⟨by decide, by decide⟩ | (unfold CMul; omega)))
  | with_reducible refine g_tup ?_
  | with_reducible refine g_lst ?_
  | with_reducible refine g_bm ?_
  | ((with_reducible refine g_tyL ?_); refine ⟨⟨_, by walk_at "hp"⟩, ?_⟩)
  | (with_reducible refine g_app (by walk_at "hp") (by first | assumption | (simp only [List.length_map, List.length_append, List.length_cons, List.length_nil]; omega) | omega) ?_)
  | ((with_reducible refine g_ixL0 ?_); (refine' ⟨_, _, ?ga, ?gb, ?_⟩; (case ga => walk_at "hp"); (case gb => exact rfl)))
  | ((with_reducible refine g_ixL0 ?_); (refine' ⟨_, _, ?ga, atI_map ?gb, ?_⟩; (case ga => walk_at "hp"); (case gb => omega)))
  | ((with_reducible refine g_powI ?gm ?_); (case gm => first | exact ⟨by decide, by decide +kernel⟩ | exact cpow_small (by decide) (by decide) (by omega) (by omega)))
  | ((with_reducible refine g_fdI ?gm ?_); (case gm => first | exact ⟨by assumption, by assumption⟩ | exact ⟨by decide, by decide +kernel⟩))
  | ((with_reducible refine g_lenL0 ?_); (refine' ⟨_, ?ga, ?_⟩; (case ga => walk_at "hp")))
  | ((with_reducible refine g_setL0 ?_); (refine' ⟨_, _, ?ga, ?gb, ?_⟩; (case ga => walk_at "hp"); (case gb => exact rfl)))
  | with_reducible refine g_itup ?_
  | with_reducible refine g_lc2 ?_
  | with_reducible refine g_sortedSet ?_
  | with_reducible refine g_dget ?_
  | with_reducible refine g_din ?_
  | with_reducible refine g_dnotin ?_
  | with_reducible refine g_neB ?_
  | with_reducible refine g_opW ?_
  | with_reducible refine g_unW ?_
  | with_reducible refine g_callS ?_
  | with_reducible refine g_meX ?_
  | with_reducible refine g_me ?_
  | with_reducible refine g_new ?_
  | with_reducible refine g_sfld ?_
  | with_reducible refine g_fld ?_
  | with_reducible refine g_T ?_
  | with_reducible refine g_F ?_
  | with_reducible refine g_Tn ?_
  | with_reducible refine g_Fn ?_
  | with_reducible refine g_bk ?_
  | with_reducible refine g_ct ?_
  | with_reducible refine g_ctS ?_
  | with_reducible refine g_bkS ?_)
local macro_rules | `(tactic| walk_at "g") => `(tactic| repeat walk_at "g1")
local macro_rules | `(tactic| walk_at "G") => `(tactic| (walk_at "g"; try ((first | with_reducible refine g_dec (fun _ => ?_) (fun _ => ?_) | with_reducible refine g_ndec (fun _ => ?_) (fun _ => ?_)) <;> walk_at "G")))
def C_SIGNS : Str := Str.ofString " !\"#$&'()*+,-./0123456789:;<=>?@ABCDEFGHIJKLMNOPQRSTUVWXYZ[\\]^_`abcdefghijklmnopqrstuvwxyz{|}~"
def C_LETTERS : Str := Str.ofString "abcdefghijklmnopqrstuvwxyz"
def C_WORDS : List V := [.str "and", .str "or", .str "not", .str "sure", .str "in", .str "is", .str "empty", .str "begins", .str "always", .str "never"]
def C_NAME_SIGNS : Str := Str.ofString "abcdefghijklmnopqrstuvwxyz0123456789"
def C_OPS : List V := [.str "<", .str "<=", .str "==", .str "!=", .str ">", .str ">="]
def C_DIRECTIONS : List V := [.str "up", .str "down"]
def top (i : Nat) : Stmt := PySem.Challenge.pw_tworows_k58_standing_orders.main.body.getD i (.Pass ⟨0, 0, 0, 0⟩)
abbrev S_is_integer : Stmt := top 12
abbrev N_is_integer : List Str := ["thing"]
theorem sc_is_integer : FnScope N_is_integer ["thing"] (defScope S_is_integer) := ⟨rfl, rfl, rfl, by decide +kernel, rfl, by decide +kernel, by decide +kernel⟩
abbrev S_is_sequence : Stmt := top 13
abbrev N_is_sequence : List Str := ["thing"]
theorem sc_is_sequence : FnScope N_is_sequence ["thing"] (defScope S_is_sequence) := ⟨rfl, rfl, rfl, by decide +kernel, rfl, by decide +kernel, by decide +kernel⟩
abbrev S_is_worded : Stmt := top 14
abbrev N_is_worded : List Str := ["thing"]
theorem sc_is_worded : FnScope N_is_worded ["thing"] (defScope S_is_worded) := ⟨rfl, rfl, rfl, by decide +kernel, rfl, by decide +kernel, by decide +kernel⟩
abbrev S_is_text : Stmt := top 15
abbrev N_is_text : List Str := ["thing", "sign"]
theorem sc_is_text : FnScope N_is_text ["thing"] (defScope S_is_text) := ⟨rfl, rfl, rfl, by decide +kernel, rfl, by decide +kernel, by decide +kernel⟩
abbrev S_is_name : Stmt := top 16
abbrev N_is_name : List Str := ["thing", "sign"]
theorem sc_is_name : FnScope N_is_name ["thing"] (defScope S_is_name) := ⟨rfl, rfl, rfl, by decide +kernel, rfl, by decide +kernel, by decide +kernel⟩
abbrev S_kind_of : Stmt := top 17
abbrev N_kind_of : List Str := ["value"]
theorem sc_kind_of : FnScope N_kind_of ["value"] (defScope S_kind_of) := ⟨rfl, rfl, rfl, by decide +kernel, rfl, by decide +kernel, by decide +kernel⟩
abbrev S_Test_init : Stmt := inClass (top 23) 0
abbrev N_Test_init : List Str := ["self", "word", "inner", "fields", "terms"]
theorem sc_Test_init : FnScope N_Test_init ["self", "word", "inner", "fields", "terms"] (defScope S_Test_init) := ⟨rfl, rfl, rfl, by decide +kernel, rfl, by decide +kernel, by decide +kernel⟩
abbrev S_Test_and : Stmt := inClass (top 23) 8
abbrev N_Test_and : List Str := ["self", "other"]
theorem sc_Test_and : FnScope N_Test_and ["self", "other"] (defScope S_Test_and) := ⟨rfl, rfl, rfl, by decide +kernel, rfl, by decide +kernel, by decide +kernel⟩
abbrev S_Test_or : Stmt := inClass (top 23) 9
abbrev N_Test_or : List Str := ["self", "other"]
theorem sc_Test_or : FnScope N_Test_or ["self", "other"] (defScope S_Test_or) := ⟨rfl, rfl, rfl, by decide +kernel, rfl, by decide +kernel, by decide +kernel⟩
abbrev S_Test_invert : Stmt := inClass (top 23) 10
abbrev N_Test_invert : List Str := ["self"]
theorem sc_Test_invert : FnScope N_Test_invert ["self"] (defScope S_Test_invert) := ⟨rfl, rfl, rfl, by decide +kernel, rfl, by decide +kernel, by decide +kernel⟩
abbrev S_size_of : Stmt := top 24
abbrev N_size_of : List Str := ["inner", "part"]
theorem sc_size_of : FnScope N_size_of ["inner"] (defScope S_size_of) := ⟨rfl, rfl, rfl, by decide +kernel, rfl, by decide +kernel, by decide +kernel⟩
abbrev S_depth_of : Stmt := top 25
abbrev N_depth_of : List Str := ["inner", "depth", "part"]
theorem sc_depth_of : FnScope N_depth_of ["inner"] (defScope S_depth_of) := ⟨rfl, rfl, rfl, by decide +kernel, rfl, by decide +kernel, by decide +kernel⟩
abbrev S_combined : Stmt := top 26
abbrev N_combined : List Str := ["word", "inner", "test"]
theorem sc_combined : FnScope N_combined ["word", "inner"] (defScope S_combined) := ⟨rfl, rfl, rfl, by decide +kernel, rfl, by decide +kernel, by decide +kernel⟩
abbrev S_need_column : Stmt := top 27
abbrev N_need_column : List Str := ["thing"]
theorem sc_need_column : FnScope N_need_column ["thing"] (defScope S_need_column) := ⟨rfl, rfl, rfl, by decide +kernel, rfl, by decide +kernel, by decide +kernel⟩
abbrev S_need_op : Stmt := top 28
abbrev N_need_op : List Str := ["thing"]
theorem sc_need_op : FnScope N_need_op ["thing"] (defScope S_need_op) := ⟨rfl, rfl, rfl, by decide +kernel, rfl, by decide +kernel, by decide +kernel⟩
abbrev S_need_values : Stmt := top 29
abbrev N_need_values : List Str := ["thing", "value"]
theorem sc_need_values : FnScope N_need_values ["thing"] (defScope S_need_values) := ⟨rfl, rfl, rfl, by decide +kernel, rfl, by decide +kernel, by decide +kernel⟩
abbrev S_compare : Stmt := top 30
abbrev N_compare : List Str := ["column", "op", "value"]
theorem sc_compare : FnScope N_compare ["column", "op", "value"] (defScope S_compare) := ⟨rfl, rfl, rfl, by decide +kernel, rfl, by decide +kernel, by decide +kernel⟩
abbrev S_against : Stmt := top 31
abbrev N_against : List Str := ["column", "op", "other", "more"]
theorem sc_against : FnScope N_against ["column", "op", "other", "more"] (defScope S_against) := ⟨rfl, rfl, rfl, by decide +kernel, rfl, by decide +kernel, by decide +kernel⟩
abbrev S_among : Stmt := top 32
abbrev N_among : List Str := ["column", "values"]
theorem sc_among : FnScope N_among ["column", "values"] (defScope S_among) := ⟨rfl, rfl, rfl, by decide +kernel, rfl, by decide +kernel, by decide +kernel⟩
abbrev S_begins : Stmt := top 33
abbrev N_begins : List Str := ["column", "prefix"]
theorem sc_begins : FnScope N_begins ["column", "prefix"] (defScope S_begins) := ⟨rfl, rfl, rfl, by decide +kernel, rfl, by decide +kernel, by decide +kernel⟩
abbrev S_empty : Stmt := top 34
abbrev N_empty : List Str := ["column"]
theorem sc_empty : FnScope N_empty ["column"] (defScope S_empty) := ⟨rfl, rfl, rfl, by decide +kernel, rfl, by decide +kernel, by decide +kernel⟩
abbrev S_always : Stmt := top 35
abbrev N_always : List Str := []
theorem sc_always : FnScope N_always [] (defScope S_always) := ⟨rfl, rfl, rfl, by decide +kernel, rfl, by decide +kernel, by decide +kernel⟩
abbrev S_never : Stmt := top 36
abbrev N_never : List Str := []
theorem sc_never : FnScope N_never [] (defScope S_never) := ⟨rfl, rfl, rfl, by decide +kernel, rfl, by decide +kernel, by decide +kernel⟩
abbrev S_sure : Stmt := top 37
abbrev N_sure : List Str := ["test"]
theorem sc_sure : FnScope N_sure ["test"] (defScope S_sure) := ⟨rfl, rfl, rfl, by decide +kernel, rfl, by decide +kernel, by decide +kernel⟩
abbrev S_is_short : Stmt := top 45
abbrev N_is_short : List Str := ["thing", "least", "most"]
theorem sc_is_short : FnScope N_is_short ["thing", "least", "most"] (defScope S_is_short) := ⟨rfl, rfl, rfl, by decide +kernel, rfl, by decide +kernel, by decide +kernel⟩
abbrev S_are_names : Stmt := top 46
abbrev N_are_names : List Str := ["thing", "least", "most", "name"]
theorem sc_are_names : FnScope N_are_names ["thing", "least", "most"] (defScope S_are_names) := ⟨rfl, rfl, rfl, by decide +kernel, rfl, by decide +kernel, by decide +kernel⟩
abbrev S_is_part : Stmt := top 50
abbrev N_is_part : List Str := ["thing"]
theorem sc_is_part : FnScope N_is_part ["thing"] (defScope S_is_part) := ⟨rfl, rfl, rfl, by decide +kernel, rfl, by decide +kernel, by decide +kernel⟩
abbrev S_need_order : Stmt := top 51
abbrev N_need_order : List Str := ["thing", "names", "at", "part"]
theorem sc_need_order : FnScope N_need_order ["thing"] (defScope S_need_order) := ⟨rfl, rfl, rfl, by decide +kernel, rfl, by decide +kernel, by decide +kernel⟩
abbrev S_turned : Stmt := top 52
abbrev N_turned : List Str := ["order", "name", "direction"]
theorem sc_turned : FnScope N_turned ["order"] (defScope S_turned) := ⟨rfl, rfl, rfl, by decide +kernel, rfl, by decide +kernel, by decide +kernel⟩
abbrev S_Plan_init : Stmt := inClass (top 56) 0
abbrev N_Plan_init : List Str := ["self", "steps", "at", "step"]
theorem sc_Plan_init : FnScope N_Plan_init ["self", "steps"] (defScope S_Plan_init) := ⟨rfl, rfl, rfl, by decide +kernel, rfl, by decide +kernel, by decide +kernel⟩
abbrev S_Plan_steps : Stmt := inClass (top 56) 1
abbrev N_Plan_steps : List Str := ["self"]
theorem sc_Plan_steps : FnScope N_Plan_steps ["self"] (defScope S_Plan_steps) := ⟨rfl, rfl, rfl, by decide +kernel, rfl, by decide +kernel, by decide +kernel⟩
abbrev S_is_step : Stmt := top 57
abbrev N_is_step : List Str := ["thing"]
theorem sc_is_step : FnScope N_is_step ["thing"] (defScope S_is_step) := ⟨rfl, rfl, rfl, by decide +kernel, rfl, by decide +kernel, by decide +kernel⟩
abbrev S_is_order : Stmt := top 58
abbrev N_is_order : List Str := ["thing"]
theorem sc_is_order : FnScope N_is_order ["thing"] (defScope S_is_order) := ⟨rfl, rfl, rfl, by decide +kernel, rfl, by decide +kernel, by decide +kernel⟩
abbrev S_step_of : Stmt := top 59
abbrev N_step_of : List Str := ["step"]
theorem sc_step_of : FnScope N_step_of ["step"] (defScope S_step_of) := ⟨rfl, rfl, rfl, by decide +kernel, rfl, by decide +kernel, by decide +kernel⟩
abbrev S_columns_of_order : Stmt := top 60
abbrev N_columns_of_order : List Str := ["order", "name", "_"]
theorem sc_columns_of_order : FnScope N_columns_of_order ["order"] (defScope S_columns_of_order) := ⟨rfl, rfl, rfl, by decide +kernel, rfl, by decide +kernel, by decide +kernel⟩
abbrev S_standing_order : Stmt := top 61
abbrev N_standing_order : List Str := ["plan", "i", "order", "step", "names", "part"]
theorem sc_standing_order : FnScope N_standing_order ["plan", "i"] (defScope S_standing_order) := ⟨rfl, rfl, rfl, by decide +kernel, rfl, by decide +kernel, by decide +kernel⟩
abbrev S__law_pool : Stmt := top 63
abbrev N__law_pool : List Str := ["_law_script", "_law_place", "_law_cell"]
theorem sc__law_pool : FnScope N__law_pool ["_law_script", "_law_place"] (defScope S__law_pool) := ⟨rfl, rfl, rfl, by decide +kernel, rfl, by decide +kernel, by decide +kernel⟩
abbrev S__law_draw : Stmt := top 64
abbrev N__law_draw : List Str := ["_law_pool_here", "_law_many", "_law_digit", "_law_one"]
theorem sc__law_draw : FnScope N__law_draw ["_law_pool_here", "_law_many"] (defScope S__law_draw) := ⟨rfl, rfl, rfl, by decide +kernel, rfl, by decide +kernel, by decide +kernel⟩
abbrev S__law_value : Stmt := top 65
abbrev N__law_value : List Str := ["_law_pool_here", "_law_kind", "_law_wide", "_law_chars", "_law_many", "_law_text", "_law_k"]
theorem sc__law_value : FnScope N__law_value ["_law_pool_here", "_law_kind"] (defScope S__law_value) := ⟨rfl, rfl, rfl, by decide +kernel, rfl, by decide +kernel, by decide +kernel⟩
abbrev S__law_name : Stmt := top 66
abbrev N__law_name : List Str := ["_law_pool_here", "_law_taken", "_law_letters", "_law_name_here", "_law_many", "_law_k"]
theorem sc__law_name : FnScope N__law_name ["_law_pool_here", "_law_taken"] (defScope S__law_name) := ⟨rfl, rfl, rfl, by decide +kernel, rfl, by decide +kernel, by decide +kernel⟩
abbrev S__law_columns : Stmt := top 67
abbrev N__law_columns : List Str := ["_law_pool_here", "_law_most", "_law_columns_here", "_law_k", "_law_name_here", "_law_column"]
theorem sc__law_columns : FnScope N__law_columns ["_law_pool_here", "_law_most"] (defScope S__law_columns) := ⟨rfl, rfl, rfl, by decide +kernel, rfl, by decide +kernel, by decide +kernel⟩
abbrev S__law_atom : Stmt := top 68
abbrev N__law_atom : List Str := ["_law_pool_here", "_law_columns_here", "_law_picked", "_law_name_here", "_law_kind", "_law_pick", "_law_op", "_law_others", "_law_extra", "_law_column", "_law_k"]
theorem sc__law_atom : FnScope N__law_atom ["_law_pool_here", "_law_columns_here"] (defScope S__law_atom) := ⟨rfl, rfl, rfl, by decide +kernel, rfl, by decide +kernel, by decide +kernel⟩
abbrev S__law_make : Stmt := top 70
abbrev N__law_make : List Str := ["_law_term", "_law_word"]
theorem sc__law_make : FnScope N__law_make ["_law_term"] (defScope S__law_make) := ⟨rfl, rfl, rfl, by decide +kernel, rfl, by decide +kernel, by decide +kernel⟩
abbrev S__law_order : Stmt := top 74
abbrev N__law_order : List Str := ["_law_pool_here", "_law_columns_here", "_law_parts", "_law_k", "_law_name_here", "_law_part"]
theorem sc__law_order : FnScope N__law_order ["_law_pool_here", "_law_columns_here"] (defScope S__law_order) := ⟨rfl, rfl, rfl, by decide +kernel, rfl, by decide +kernel, by decide +kernel⟩
abbrev S__law_step : Stmt := top 78
abbrev N__law_step : List Str := ["_law_pool_here", "_law_columns_here", "_law_word", "_law_names", "_law_k", "_law_name_here"]
theorem sc__law_step : FnScope N__law_step ["_law_pool_here", "_law_columns_here"] (defScope S__law_step) := ⟨rfl, rfl, rfl, by decide +kernel, rfl, by decide +kernel, by decide +kernel⟩
abbrev S__law_made_step : Stmt := top 79
abbrev N__law_made_step : List Str := ["_law_step_here"]
theorem sc__law_made_step : FnScope N__law_made_step ["_law_step_here"] (defScope S__law_made_step) := ⟨rfl, rfl, rfl, by decide +kernel, rfl, by decide +kernel, by decide +kernel⟩
abbrev S__law_planned : Stmt := top 80
abbrev N__law_planned : List Str := ["_law_steps", "_law_step_here"]
theorem sc__law_planned : FnScope N__law_planned ["_law_steps"] (defScope S__law_planned) := ⟨rfl, rfl, rfl, by decide +kernel, rfl, by decide +kernel, by decide +kernel⟩
abbrev S__law_standing : Stmt := top 83
abbrev N__law_standing : List Str := ["_law_steps", "_law_i", "_law_parts", "_law_turns", "_law_k", "_law_step_here", "_law_part", "_law_way", "_law_old"]
theorem sc__law_standing : FnScope N__law_standing ["_law_steps", "_law_i"] (defScope S__law_standing) := ⟨rfl, rfl, rfl, by decide +kernel, rfl, by decide +kernel, by decide +kernel⟩
abbrev S_law : Stmt := top 85
abbrev N_law : List Str := ["_law_script", "_law_columns_here", "_law_steps", "_law_k", "_law_pool_here", "_law_pick", "_law_plan", "_law_i", "_law_told"]
theorem sc_law : FnScope N_law ["_law_script"] (defScope S_law) := ⟨rfl, rfl, rfl, by decide +kernel, rfl, by decide +kernel, by decide +kernel⟩
structure TxtW (w : World) (K : PySem.W.Frag) (mg : Str → Option Value) : Prop where
  h_isinstance : mg "isinstance" = none
  h_int : mg "int" = none
  h_bool : mg "bool" = none
  h_list : mg "list" = none
  h_tuple : mg "tuple" = none
  h_str : mg "str" = none
  h_len : mg "len" = none
  h_all : mg "all" = none
  h_sum : mg "sum" = none
  h_set : mg "set" = none
  h_enumerate : mg "enumerate" = none
  h_range : mg "range" = none
  d_is_integer : ∃ f fd, Here K mg "is_integer" S_is_integer ["thing"] f fd
  d_is_sequence : ∃ f fd, Here K mg "is_sequence" S_is_sequence ["thing"] f fd
  d_is_worded : ∃ f fd, Here K mg "is_worded" S_is_worded ["thing"] f fd
  d_is_text : ∃ f fd, Here K mg "is_text" S_is_text ["thing"] f fd
  d_is_name : ∃ f fd, Here K mg "is_name" S_is_name ["thing"] f fd
  d_kind_of : ∃ f fd, Here K mg "kind_of" S_kind_of ["value"] f fd
  d_Test_init : ∃ f fd, HereC K (cadr mg "Test") "Test.__init__" S_Test_init ["self", "word", "inner", "fields", "terms"] f fd
  d_Test_and : ∃ f fd, HereM K (cadr mg "Test") "__and__" "Test.__and__" S_Test_and ["self", "other"] f fd
  d_Test_or : ∃ f fd, HereM K (cadr mg "Test") "__or__" "Test.__or__" S_Test_or ["self", "other"] f fd
  d_Test_invert : ∃ f fd, HereM K (cadr mg "Test") "__invert__" "Test.__invert__" S_Test_invert ["self"] f fd
  d_size_of : ∃ f fd, Here K mg "size_of" S_size_of ["inner"] f fd
  d_depth_of : ∃ f fd, Here K mg "depth_of" S_depth_of ["inner"] f fd
  d_combined : ∃ f fd, Here K mg "combined" S_combined ["word", "inner"] f fd
  d_need_column : ∃ f fd, Here K mg "need_column" S_need_column ["thing"] f fd
  d_need_op : ∃ f fd, Here K mg "need_op" S_need_op ["thing"] f fd
  d_need_values : ∃ f fd, Here K mg "need_values" S_need_values ["thing"] f fd
  d_compare : ∃ f fd, Here K mg "compare" S_compare ["column", "op", "value"] f fd
  d_against : ∃ f fd, HereKw K mg "against" S_against ["column", "op", "other", "more"] 3 "more" (.int 0) f fd
  d_among : ∃ f fd, Here K mg "among" S_among ["column", "values"] f fd
  d_begins : ∃ f fd, Here K mg "begins" S_begins ["column", "prefix"] f fd
  d_empty : ∃ f fd, Here K mg "empty" S_empty ["column"] f fd
  d_always : ∃ f fd, Here K mg "always" S_always [] f fd
  d_never : ∃ f fd, Here K mg "never" S_never [] f fd
  d_sure : ∃ f fd, Here K mg "sure" S_sure ["test"] f fd
  d_is_short : ∃ f fd, Here K mg "is_short" S_is_short ["thing", "least", "most"] f fd
  d_are_names : ∃ f fd, Here K mg "are_names" S_are_names ["thing", "least", "most"] f fd
  d_is_part : ∃ f fd, Here K mg "is_part" S_is_part ["thing"] f fd
  d_need_order : ∃ f fd, Here K mg "need_order" S_need_order ["thing"] f fd
  d_turned : ∃ f fd, Here K mg "turned" S_turned ["order"] f fd
  d_Plan_init : ∃ f fd, HereC K (cadr mg "Plan") "Plan.__init__" S_Plan_init ["self", "steps"] f fd
  d_Plan_steps : ∃ f fd, HereM K (cadr mg "Plan") "steps" "Plan.steps" S_Plan_steps ["self"] f fd
  d_is_step : ∃ f fd, Here K mg "is_step" S_is_step ["thing"] f fd
  d_is_order : ∃ f fd, Here K mg "is_order" S_is_order ["thing"] f fd
  d_step_of : ∃ f fd, Here K mg "step_of" S_step_of ["step"] f fd
  d_columns_of_order : ∃ f fd, Here K mg "columns_of_order" S_columns_of_order ["order"] f fd
  d_standing_order : ∃ f fd, Here K mg "standing_order" S_standing_order ["plan", "i"] f fd
  d__law_pool : ∃ f fd, Here K mg "_law_pool" S__law_pool ["_law_script", "_law_place"] f fd
  d__law_draw : ∃ f fd, Here K mg "_law_draw" S__law_draw ["_law_pool_here", "_law_many"] f fd
  d__law_value : ∃ f fd, Here K mg "_law_value" S__law_value ["_law_pool_here", "_law_kind"] f fd
  d__law_name : ∃ f fd, Here K mg "_law_name" S__law_name ["_law_pool_here", "_law_taken"] f fd
  d__law_columns : ∃ f fd, Here K mg "_law_columns" S__law_columns ["_law_pool_here", "_law_most"] f fd
  d__law_atom : ∃ f fd, Here K mg "_law_atom" S__law_atom ["_law_pool_here", "_law_columns_here"] f fd
  d__law_make : ∃ f fd, Here K mg "_law_make" S__law_make ["_law_term"] f fd
  d__law_order : ∃ f fd, Here K mg "_law_order" S__law_order ["_law_pool_here", "_law_columns_here"] f fd
  d__law_step : ∃ f fd, Here K mg "_law_step" S__law_step ["_law_pool_here", "_law_columns_here"] f fd
  d__law_made_step : ∃ f fd, Here K mg "_law_made_step" S__law_made_step ["_law_step_here"] f fd
  d__law_planned : ∃ f fd, Here K mg "_law_planned" S__law_planned ["_law_steps"] f fd
  d__law_standing : ∃ f fd, Here K mg "_law_standing" S__law_standing ["_law_steps", "_law_i"] f fd
  x_BadTest : ∃ fI, PySem.ErBadTest.Err K mg (cadr mg "BadTest") fI
  x_BadOrder : ∃ fI, PySem.ErBadOrder.Err K mg (cadr mg "BadOrder") fI
  is_Test : OwnIs K (cadr mg "Test")
  sf_Test : PySem.W.selfFirst K (cadr mg "Test") = true
  nr_Test_and : PySem.W.findIn K (.ref (cadr mg "Test")) (dunderR "and") = some none
  nr_Test_or : PySem.W.findIn K (.ref (cadr mg "Test")) (dunderR "or") = some none
  e_Test : mg "Test" = some (.ref (cadr mg "Test"))
  cl_Test : Cls K (cadr mg "Test")
  n_Test_word : NoAttr K (cadr mg "Test") "word"
  n_Test_inner : NoAttr K (cadr mg "Test") "inner"
  n_Test_fields : NoAttr K (cadr mg "Test") "fields"
  n_Test_terms : NoAttr K (cadr mg "Test") "terms"
  n_Test_size : NoAttr K (cadr mg "Test") "size"
  n_Test_depth : NoAttr K (cadr mg "Test") "depth"
  is_Plan : OwnIs K (cadr mg "Plan")
  sf_Plan : PySem.W.selfFirst K (cadr mg "Plan") = true
  nr_Plan_and : PySem.W.findIn K (.ref (cadr mg "Plan")) (dunderR "and") = some none
  nr_Plan_or : PySem.W.findIn K (.ref (cadr mg "Plan")) (dunderR "or") = some none
  e_Plan : mg "Plan" = some (.ref (cadr mg "Plan"))
  cl_Plan : Cls K (cadr mg "Plan")
  n_Plan_course : NoAttr K (cadr mg "Plan") "course"
  k_SIGNS : ∃ t, mg "SIGNS" = some (.str C_SIGNS t)
  k_LONGEST_NAME : ∃ t, mg "LONGEST_NAME" = some (.int 8 t)
  k_LETTERS : ∃ t, mg "LETTERS" = some (.str C_LETTERS t)
  k_WORDS : ∃ a, mg "WORDS" = some (.ref a) ∧ ∀ H : Hp, SqT K H a C_WORDS
  k_NAME_SIGNS : ∃ t, mg "NAME_SIGNS" = some (.str C_NAME_SIGNS t)
  k_MOST_ATOMS : ∃ t, mg "MOST_ATOMS" = some (.int 24 t)
  k_MOST_LEVELS : ∃ t, mg "MOST_LEVELS" = some (.int 12 t)
  k_OPS : ∃ a, mg "OPS" = some (.ref a) ∧ ∀ H : Hp, SqT K H a C_OPS
  k_MOST_VALUES : ∃ t, mg "MOST_VALUES" = some (.int 8 t)
  k_DIRECTIONS : ∃ a, mg "DIRECTIONS" = some (.ref a) ∧ ∀ H : Hp, SqT K H a C_DIRECTIONS
  k_MOST_PARTS : ∃ t, mg "MOST_PARTS" = some (.int 3 t)
  k_MOST_STEPS : ∃ t, mg "MOST_STEPS" = some (.int 5 t)
  k_STEP_SIZES : ∃ a, mg "STEP_SIZES" = some (.ref a) ∧ KDic K w a [("keep", 2), ("sort", 2), ("distinct", 2), ("first", 1), ("flip", 1)]
def signs : Str := Str.ofString " !\"#$&'()*+,-./0123456789:;<=>?@ABCDEFGHIJKLMNOPQRSTUVWXYZ[\\]^_`abcdefghijklmnopqrstuvwxyz{|}~"
/-! an atomic test -/
/-- what stands in a test, in the order in which it was put there -/
def tf (w : Str) (i f t : Addr) (n d : Int) : List (Str × V) := [("word", .str w), ("inner", .ref i), ("fields", .ref f), ("terms", .ref t), ("size", .int n), ("depth", .int d)]
theorem putF_new : ∀ {l : List (Str × V)} {k : Str} {v : V} (ks : List Str), l.map (·.1) = ks → k ∉ ks → putF k v l = l ++ [(k, v)]
  | [], k, v, _, _, _ => rfl
  | (a, b) :: r, k, v, _, rfl, hk => by
    have h1 : ¬ a = k := fun e => hk (by rw [e]; exact List.mem_cons_self)
    have h2 := putF_new (l := r) (k := k) (v := v) _ rfl (fun e => hk (List.mem_cons_of_mem _ e))
    show (if a = k then (a, v) :: r else (a, b) :: putF k v r) = _
    rw [if_neg h1, h2]
    rfl
theorem lt_put : ∀ {l : List (Str × V)} {k : Str} {v : V} {n : Nat}, l.length < n → (putF k v l).length < n + 1
  | [], k, v, n, h => Nat.succ_lt_succ h
  | (a, b) :: r, k, v, n, h => by
    show (if a = k then (a, v) :: r else (a, b) :: putF k v r).length < n + 1
    split
    · exact Nat.lt_succ_of_lt h
    · cases n with
      | zero => exact absurd h (Nat.not_lt_zero _)
      | succ n => exact Nat.succ_lt_succ (lt_put (Nat.lt_of_succ_lt_succ h))
structure AtomAt (C : Addr) (H : Hp) (p : Addr) (w : Str) (fs : List Str) (ts : List V) : Prop where
  ex : ∃ dx i f t, H p = some (.ins C dx (tf w i f t 1 0)) ∧ H i = some (.tup []) ∧ H f = some (.tup (fs.map V.str)) ∧ H t = some (.tup ts)
theorem AtomAt.keep {C : Addr} {H H' : Hp} {p : Addr} {w : Str} {fs : List Str} {ts : List V} (A : AtomAt C H p w fs ts) (k : ∀ q o, H q = some o → H' q = some o) : AtomAt C H' p w fs ts := by
  obtain ⟨dx, i, f, t, a, b, c, d⟩ := A.ex
  exact ⟨dx, i, f, t, k _ _ a, k _ _ b, k _ _ c, k _ _ d⟩
theorem tf_word {w : Str} {i f t : Addr} {n d : Int} : (tf w i f t n d).lookup ("word" : Str) = some (.str w) := by rfl
theorem tf_inner {w : Str} {i f t : Addr} {n d : Int} : (tf w i f t n d).lookup ("inner" : Str) = some (.ref i) := by rfl
theorem tf_fields {w : Str} {i f t : Addr} {n d : Int} : (tf w i f t n d).lookup ("fields" : Str) = some (.ref f) := by rfl
theorem tf_terms {w : Str} {i f t : Addr} {n d : Int} : (tf w i f t n d).lookup ("terms" : Str) = some (.ref t) := by rfl
theorem tf_size {w : Str} {i f t : Addr} {n d : Int} : (tf w i f t n d).lookup ("size" : Str) = some (.int n) := by rfl
theorem tf_depth {w : Str} {i f t : Addr} {n d : Int} : (tf w i f t n d).lookup ("depth" : Str) = some (.int d) := by rfl
theorem tf_atoms {w : Str} {i f t : Addr} {n d : Int} : (tf w i f t n d).lookup ("atoms" : Str) = none := by rfl
theorem tf_names {w : Str} {i f t : Addr} {n d : Int} : (tf w i f t n d).lookup ("names" : Str) = none := by rfl
theorem tf_truth {w : Str} {i f t : Addr} {n d : Int} : (tf w i f t n d).lookup ("truth" : Str) = none := by rfl
theorem upd2 {H : Hp} {p : Addr} {a b : HO} : upd (upd H p a) p b = upd H p b := by
  funext q
  by_cases h : q = p
  · subst h; rw [upd_same, upd_same]
  · rw [upd_ne h, upd_ne h, upd_ne h]
/-! tests as trees -/
inductive Ts where
  | at (w : Str) (fs : List Str) (ts : List V)
  | un (w : Str) (a : Ts)
  | bi (w : Str) (a b : Ts)
namespace Ts
def word : Ts → Str
  | .at w _ _ => w
  | .un w _ => w
  | .bi w _ _ => w
def kids : Ts → List Ts
  | .at _ _ _ => []
  | .un _ a => [a]
  | .bi _ a b => [a, b]
def flds : Ts → List Str
  | .at _ fs _ => fs
  | _ => []
def trms : Ts → List V
  | .at _ _ ts => ts
  | _ => []
def size : Ts → Nat
  | .at _ _ _ => 1
  | .un _ a => a.size
  | .bi _ a b => a.size + b.size
def depth : Ts → Nat
  | .at _ _ _ => 0
  | .un _ a => a.depth + 1
  | .bi _ a b => max a.depth b.depth + 1
def atoms : Ts → List Ts
  | .at w fs ts => [.at w fs ts]
  | .un _ a => a.atoms
  | .bi _ a b => a.atoms ++ b.atoms
theorem size_pos : ∀ t : Ts, 0 < t.size
  | .at _ _ _ => Nat.one_pos
  | .un _ a => a.size_pos
  | .bi _ a b => Nat.add_pos_left a.size_pos _
theorem atoms_len : ∀ t : Ts, t.atoms.length = t.size
  | .at _ _ _ => rfl
  | .un _ a => a.atoms_len
  | .bi _ a b => by
    show (a.atoms ++ b.atoms).length = a.size + b.size
    rw [List.length_append, a.atoms_len, b.atoms_len]
theorem kids_depth {t k : Ts} (h : k ∈ t.kids) : k.depth < t.depth := by
  cases t with
  | «at» w fs ts => exact nomatch h
  | un w a =>
    obtain rfl : k = a := by simpa [kids] using h
    exact Nat.lt_succ_self _
  | bi w a b =>
    have h : k = a ∨ k = b := by simpa [kids] using h
    show k.depth < max a.depth b.depth + 1
    rcases h with rfl | rfl <;> omega
theorem atoms_kids {t : Ts} (h : t.kids ≠ []) : t.atoms = t.kids.flatMap atoms := by
  cases t with
  | «at» w fs ts => exact absurd rfl h
  | un w a => simp [kids, atoms]
  | bi w a b => simp [kids, atoms]
theorem size_kids {t : Ts} (h : t.kids ≠ []) : t.size = (t.kids.map size).sum := by
  cases t with
  | «at» w fs ts => exact absurd rfl h
  | un w a => simp [kids, size]
  | bi w a b => simp [kids, size]
theorem kids_len (t : Ts) : t.kids.length ≤ 2 := by cases t <;> simp [kids]
end Ts
/-- the tests ts stand at the places qs, one by one -/
inductive Row (R : Ts → Addr → Prop) : List Ts → List Addr → Prop
  | nil : Row R [] []
  | cons {t : Ts} {q : Addr} {ts : List Ts} {qs : List Addr} (h : R t q) (r : Row R ts qs) : Row R (t :: ts) (q :: qs)
theorem Row.mono {R S : Ts → Addr → Prop} (h : ∀ t q, R t q → S t q) : ∀ {ts : List Ts} {qs : List Addr}, Row R ts qs → Row S ts qs
  | _, _, .nil => .nil
  | _, _, .cons a r => .cons (h _ _ a) (r.mono h)
theorem Row.len {R : Ts → Addr → Prop} : ∀ {ts : List Ts} {qs : List Addr}, Row R ts qs → qs.length = ts.length
  | _, _, .nil => rfl
  | _, _, .cons _ r => congrArg (· + 1) r.len
theorem Row.app {R : Ts → Addr → Prop} : ∀ {ts us : List Ts} {qs ps : List Addr}, Row R ts qs → Row R us ps → Row R (ts ++ us) (qs ++ ps)
  | _, _, _, _, .nil, s => s
  | _, _, _, _, .cons a r, s => .cons a (r.app s)
theorem Row.get {R : Ts → Addr → Prop} : ∀ {ts : List Ts} {qs : List Addr} {i : Nat} {q : Addr}, Row R ts qs → qs[i]? = some q → ∃ t, ts[i]? = some t ∧ R t q
  | _, _, i, _, .nil, h => by simp at h
  | _, _, 0, _, .cons a r, h => by
    simp at h
    subst h
    exact ⟨_, rfl, a⟩
  | _, _, i + 1, _, .cons a r, h => by
    simp at h
    obtain ⟨t, e, x⟩ := r.get h
    exact ⟨t, by simpa using e, x⟩
/-- a test stands at p -/
def TestAt (C : Addr) (H : Hp) : Ts → Addr → Prop
  | .at w fs ts, p => AtomAt C H p w fs ts
  | .un w a, p => ∃ dx i f t q, H p = some (.ins C dx (tf w i f t a.size (a.depth + 1 : Nat))) ∧ H i = some (.tup [.ref q]) ∧ H f = some (.tup []) ∧ H t = some (.tup []) ∧ TestAt C H a q
  | .bi w a b, p => ∃ dx i f t q r, H p = some (.ins C dx (tf w i f t (a.size + b.size : Nat) (max a.depth b.depth + 1 : Nat))) ∧ H i = some (.tup [.ref q, .ref r]) ∧ H f = some (.tup []) ∧ H t = some (.tup []) ∧ TestAt C H a q ∧ TestAt C H b r
theorem TestAt.keep {C : Addr} {H H' : Hp} (k : ∀ q o, H q = some o → H' q = some o) : ∀ {t : Ts} {p : Addr}, TestAt C H t p → TestAt C H' t p
  | .at _ _ _, _, h => AtomAt.keep h k
  | .un _ a, _, ⟨dx, i, f, t, q, h1, h2, h3, h4, h5⟩ => ⟨dx, i, f, t, q, k _ _ h1, k _ _ h2, k _ _ h3, k _ _ h4, TestAt.keep k h5⟩
  | .bi _ a b, _, ⟨dx, i, f, t, q, r, h1, h2, h3, h4, h5, h6⟩ => ⟨dx, i, f, t, q, r, k _ _ h1, k _ _ h2, k _ _ h3, k _ _ h4, TestAt.keep k h5, TestAt.keep k h6⟩
theorem tf_ne {w : Str} {i f t : Addr} {n d : Int} : tf w i f t n d ≠ [] := by unfold tf; exact List.cons_ne_nil _ _
theorem AtomAt.keepN {C : Addr} {H H' : Hp} {p q : Addr} {w : Str} {fs : List Str} {ts : List V} (k : ∀ b o, b ≠ p → H b = some o → H' b = some o) (n : ∀ o, H p = some o → (∀ dx l, o = .ins C dx l → l = []) ∧ ∀ l, o ≠ .tup l) (A : AtomAt C H q w fs ts) : AtomAt C H' q w fs ts := by
  obtain ⟨dx, i, f, t, a, b, c, d⟩ := A.ex
  have nt : ∀ {b : Addr} {l : List V}, H b = some (.tup l) → b ≠ p := fun h z => (n _ (by rw [← z]; exact h)).2 _ rfl
  exact ⟨dx, i, f, t, k _ _ (fun z => tf_ne ((n _ (by rw [← z]; exact a)).1 _ _ rfl)) a, k _ _ (nt b) b, k _ _ (nt c) c, k _ _ (nt d) d⟩
/-- a change at a place at which no test and no tuple stands -/
theorem TestAt.keepN {C : Addr} {H H' : Hp} {p : Addr} (k : ∀ b o, b ≠ p → H b = some o → H' b = some o) (n : ∀ o, H p = some o → (∀ dx l, o = .ins C dx l → l = []) ∧ ∀ l, o ≠ .tup l) : ∀ {t : Ts} {q : Addr}, TestAt C H t q → TestAt C H' t q
  | .at _ _ _, _, h => AtomAt.keepN k n h
  | .un _ a, _, ⟨dx, i, f, t, q, h1, h2, h3, h4, h5⟩ =>
    have nt : ∀ {b : Addr} {l : List V}, H b = some (.tup l) → b ≠ p := fun h z => (n _ (by rw [← z]; exact h)).2 _ rfl
    ⟨dx, i, f, t, q, k _ _ (fun z => tf_ne ((n _ (by rw [← z]; exact h1)).1 _ _ rfl)) h1, k _ _ (nt h2) h2, k _ _ (nt h3) h3, k _ _ (nt h4) h4, TestAt.keepN k n h5⟩
  | .bi _ a b, _, ⟨dx, i, f, t, q, r, h1, h2, h3, h4, h5, h6⟩ =>
    have nt : ∀ {b : Addr} {l : List V}, H b = some (.tup l) → b ≠ p := fun h z => (n _ (by rw [← z]; exact h)).2 _ rfl
    ⟨dx, i, f, t, q, r, k _ _ (fun z => tf_ne ((n _ (by rw [← z]; exact h1)).1 _ _ rfl)) h1, k _ _ (nt h2) h2, k _ _ (nt h3) h3, k _ _ (nt h4) h4, TestAt.keepN k n h5, TestAt.keepN k n h6⟩
/-- what stands at a test, of whatever form it is -/
theorem TestAt.node {C : Addr} {H : Hp} : ∀ {t : Ts} {p : Addr}, TestAt C H t p → ∃ dx i f u qs, H p = some (.ins C dx (tf t.word i f u t.size t.depth)) ∧ H i = some (.tup (qs.map V.ref)) ∧ H f = some (.tup (t.flds.map V.str)) ∧ H u = some (.tup t.trms) ∧ Row (TestAt C H) t.kids qs
  | .at _ _ _, _, h => by
    obtain ⟨dx, i, f, u, h1, h2, h3, h4⟩ := AtomAt.ex h
    exact ⟨dx, i, f, u, [], h1, h2, h3, h4, .nil⟩
  | .un _ a, _, ⟨dx, i, f, u, q, h1, h2, h3, h4, h5⟩ => ⟨dx, i, f, u, [q], h1, h2, h3, h4, .cons h5 .nil⟩
  | .bi _ a b, _, ⟨dx, i, f, u, q, r, h1, h2, h3, h4, h5, h6⟩ => ⟨dx, i, f, u, [q, r], h1, h2, h3, h4, .cons h5 (.cons h6 .nil)⟩
/-- the test of a word and its parts -/
def mkT (w : Str) (fs : List Str) (ts : List V) : List Ts → Ts
  | [] => .at w fs ts
  | [a] => .un w a
  | a :: b :: _ => .bi w a b
def sizeK (ks : List Ts) : Nat := if ks = [] then 1 else (ks.map Ts.size).sum
def depthK (ks : List Ts) : Nat := ks.foldl (fun d k => if d ≤ k.depth then k.depth + 1 else d) 0
def spSizeK (C : Addr) : Sp := fun vs H Q _ => ∃ (i : Addr) (ks : List Ts) (qs : List Addr), vs = [.ref i] ∧ H i = some (.tup (qs.map V.ref)) ∧ Row (TestAt C H) ks qs ∧ ks.length ≤ 1000 ∧ ∀ H', (∀ q o, H q = some o → H' q = some o) → Q (.int (sizeK ks : Nat)) H'
def spDepthK (C : Addr) : Sp := fun vs H Q _ => ∃ (i : Addr) (ks : List Ts) (qs : List Addr), vs = [.ref i] ∧ H i = some (.tup (qs.map V.ref)) ∧ Row (TestAt C H) ks qs ∧ Q (.int (depthK ks : Nat)) H
section
variable {P : Program} {w : World} {K : PySem.W.Frag} {mg : Str → Option Value} {base : Heap}
theorem ok_size_of (T : TxtW w K mg) : Def P w K mg base 1 "size_of" ["inner"] (spSizeK (cadr mg "Test")) := by
  obtain ⟨f, fd, h⟩ := T.d_size_of
  refine h.def (Fun.okM h.fn sc_size_of (fun vs H Q E h => ?_) (fun cdv A outer s H vs Q E hr h => ?_))
  · obtain ⟨i, ks, qs, rfl, _⟩ := h
    rfl
  · obtain ⟨i, ks, qs, rfl, hi, hR, hl, k⟩ := h
    refine ⟨_, (pss_cons (ps_if (pt_cmpR op_eq (pe_callB (call_lenG (K := K) rfl) (by rfl) T.h_len (by decide +kernel) (pa_cons (pv 0) pa_nil)) pe_int (nomark _))
  (pss_one (ps_ret pe_int))
  pss_nil)
  (pss_one (ps_ret (pe_callB (cr_sum rfl) (by rfl) T.h_sum (by decide +kernel) (pa_cons (pe_lc (own := [("part", 1)]) rfl sc_size_of.nd (pi_tupG (K := K) rfl (pv 0)) (blkOk_by (N := N_size_of) (sc := defScope S_size_of) (by decide +kernel)) (fun _ _ _ _ _ => pg_name (i := 1) sc_size_of.nd rfl (Or.inl rfl)) (fun _ _ _ _ _ => pts_nil) (fun _ _ _ _ _ => (pe_fldG (K := K) rfl (pv 1) rfl))) pa_nil))))), ?_⟩
    have hlen := hR.len
    walk_at "g"
    refine g_lenT (SqT.of hi) ?_
    walk_at "g"
    refine g_dec (fun h0 => ?_) (fun h0 => ?_)
    · walk_at "g"
      have e : ks = [] := List.length_eq_zero_iff.mp (by rw [List.length_map] at h0; omega)
      have := k H fun _ _ h => h
      rw [show (sizeK ks : Nat) = 1 by unfold sizeK; rw [if_pos e]] at this
      exact this
    · walk_at "g"
      have ne : ks ≠ [] := fun e => h0 (by rw [e] at hlen; rw [List.length_map, hlen]; rfl)
      refine ⟨i, rfl, ⟨_, SqT.of hi⟩, fun D hD => ?_⟩
      refine lc_tup (K := K) (a := i) (xs := qs.map V.ref) (fun j H' => H' D = some (.lst ((((ks.take j).map Ts.size).map fun n : Nat => (n : Int)).map V.int)) ∧ ∀ q o, H q = some o → H' q = some o) ⟨upd_same, fun q o h => by rw [upd_ne (ne_of_none h hD)]; exact h⟩ (fun j H' _ p => SqT.of (p.2 _ _ hi)) ?_ ?_
      · rintro j x H2 hj ⟨hD2, k2⟩
        have hj2 : j < ks.length := by
          have := (List.getElem?_eq_some_iff.mp hj).1
          rw [List.length_map] at this; omega
        rw [List.getElem?_map] at hj
        obtain ⟨q, hq, rfl⟩ := Option.map_eq_some_iff.mp hj
        obtain ⟨t, ht, A⟩ := hR.get hq
        obtain ⟨dx, i1, f1, u1, qs1, hp, _⟩ := A.node
        walk_at "g"
        refine ⟨rfl, ?_⟩
        walk_at "g"
        refine ⟨q, _, dx, _, _, rfl, k2 _ _ hp, T.cl_Test, T.n_Test_size, tf_size, ?_⟩
        refine ⟨_, hD2, ?_, ?_, fun q o h => by rw [upd_ne (ne_of_none h hD)]; exact k2 q o h⟩
        · rw [List.length_map, List.length_map, List.length_map, List.length_take, sizeLine_eq]; omega
        · rw [upd_same, List.take_succ, ht, List.map_append, List.map_append, List.map_append]; rfl
      · rintro H2 ⟨hD2, k2⟩
        walk_at "g"
        rw [List.length_map, hlen, List.take_length] at hD2
        refine ⟨D, _, rfl, SqL.of hD2, ?_⟩
        have hsum : (((ks.map Ts.size).map fun n : Nat => (n : Int))).sum = ((sizeK ks : Nat) : Int) := by
          unfold sizeK
          rw [if_neg ne]
          generalize ks.map Ts.size = l
          induction l with
          | nil => rfl
          | cons a l ih => rw [List.map_cons, List.sum_cons, List.sum_cons, ih]; omega
        rw [hsum]
        walk_at "g"
        exact k _ k2
theorem ok_depth_of (T : TxtW w K mg) : Def P w K mg base 1 "depth_of" ["inner"] (spDepthK (cadr mg "Test")) := by
  obtain ⟨f, fd, h⟩ := T.d_depth_of
  refine h.def (Fun.okM h.fn sc_depth_of (fun vs H Q E h => ?_) (fun cdv A outer s H vs Q E hr h => ?_))
  · obtain ⟨i, ks, qs, rfl, _⟩ := h
    rfl
  · obtain ⟨i, ks, qs, rfl, hi, hR, k⟩ := h
    refine ⟨_, (pss_cons (ps_set (i := 1) sc_depth_of.nd rfl (Or.inl rfl) pe_int)
  (pss_cons (ps_for PassesOwn.never rfl (pi_tupG (K := K) rfl (pv 0)) (pg_name (i := 2) sc_depth_of.nd rfl (Or.inl rfl))
  (pss_one (ps_if (pt_cmpR op_geG (pe_fldG (K := K) rfl (pv 2) rfl) (pv 1) (nomark _))
  (pss_one (ps_set (i := 1) sc_depth_of.nd rfl (Or.inl rfl) (pe_op op_addG (pe_fldG (K := K) rfl (pv 2) rfl) pe_int)))
  pss_nil)))
  (pss_one (ps_ret (pv 1))))), ?_⟩
    have hlen := hR.len
    walk_at "g"
    refine ⟨i, rfl, ⟨_, SqT.of hi⟩, for_tupA (xs := qs.map V.ref) (fun j σ' H' => H' = H ∧ ∃ v, σ' = [some (.ref i), some (.int (depthK (ks.take j) : Nat)), v]) ⟨rfl, none, rfl⟩ (fun _ _ _ _ e => by rw [e.1]; exact SqT.of hi) ?_ ?_⟩
    · rintro j x σ' H2 D' hj ⟨rfl, v, rfl⟩ hnx hct hbk hrt
      rw [List.getElem?_map] at hj
      obtain ⟨q, hq, rfl⟩ := Option.map_eq_some_iff.mp hj
      obtain ⟨t, ht, A⟩ := hR.get hq
      obtain ⟨dx, i1, f1, u1, qs1, hp, _⟩ := A.node
      have e1 : depthK (ks.take (j + 1)) = if depthK (ks.take j) ≤ t.depth then t.depth + 1 else depthK (ks.take j) := by
        unfold depthK
        rw [List.take_succ, ht, List.foldl_append]
        rfl
      walk_at "g"
      refine ⟨q, _, dx, _, _, rfl, hp, T.cl_Test, T.n_Test_depth, tf_depth, ?_⟩
      walk_at "g"
      refine g_dec (fun hle => ?_) (fun hle => ?_)
      · walk_at "g"
        refine ⟨q, _, dx, _, _, rfl, hp, T.cl_Test, T.n_Test_depth, tf_depth, ?_⟩
        walk_at "g"
        refine hnx _ _ ⟨rfl, some (.ref q), ?_⟩
        rw [e1, if_pos (by omega)]
        rfl
      · walk_at "g"
        refine hnx _ _ ⟨rfl, some (.ref q), ?_⟩
        rw [e1, if_neg (by omega)]
        rfl
    · rintro σ' H2 ⟨rfl, v, rfl⟩
      walk_at "g"
      rw [List.length_map, hlen, List.take_length]
      exact k
/-- the maker of a test: word, parts, columns, terms -/
theorem ok_Test_init (T : TxtW w K mg) : DefC P w K mg base 2 (cadr mg "Test") ["self", "word", "inner", "fields", "terms"] (fun vs H Q _ => ∃ (p dx i f t : Addr) (w : Str) (ks : List Ts) (qs : List Addr), vs = [.ref p, .str w, .ref i, .ref f, .ref t] ∧ H p = some (.ins (cadr mg "Test") dx []) ∧
    H i = some (.tup (qs.map V.ref)) ∧ Row (TestAt (cadr mg "Test") H) ks qs ∧ ks.length ≤ 1000 ∧
    ∀ H', (∀ q o, q ≠ p → H q = some o → H' q = some o) → H' p = some (.ins (cadr mg "Test") dx (tf w i f t (sizeK ks : Nat) (depthK ks : Nat))) → Q .non H') := by
  obtain ⟨f, fd, h⟩ := T.d_Test_init
  refine h.def (Fun.okM h.fn sc_Test_init (fun vs H Q E h => ?_) (fun cdv A outer s H vs Q E hr h => ?_))
  · obtain ⟨p, dx, i, f, t, w, ks, qs, rfl, _⟩ := h
    rfl
  · obtain ⟨p, dx, i, f, t, w, ks, qs, rfl, hp, hi, hR, hl, k⟩ := h
    refine ⟨_, (pss_cons (ps_fld (pv 0) (pv 1) rfl)
  (pss_cons (ps_fld (pv 0) (pv 2) rfl)
  (pss_cons (ps_fld (pv 0) (pv 3) rfl)
  (pss_cons (ps_fld (pv 0) (pv 4) rfl)
  (pss_cons (ps_fld (pv 0) (pe_def (ok_size_of T) hr rfl (pa_cons (pv 2) pa_nil)) rfl)
  (pss_one (ps_fld (pv 0) (pe_def (ok_depth_of T) hr rfl (pa_cons (pv 2) pa_nil)) rfl))))))), ?_⟩
    have hip : i ≠ p := ne_of hi hp (by intro z; cases z)
    -- none of the tests that stand is the one that is made
    have other : ∀ {l : List (Str × V)} {u : Ts} {q : Addr}, TestAt (cadr mg "Test") H u q → TestAt (cadr mg "Test") (upd H p (.ins (cadr mg "Test") dx l)) u q := fun {l u q} h => by
      refine TestAt.keepN (p := p) (fun b o hb e => by rw [upd_ne hb]; exact e) (fun o e => ?_) h
      rw [hp] at e
      injection e with e
      subst e
      exact ⟨fun _ l z => by injection z with _ _ z; exact z.symm, fun l z => nomatch z⟩
    walk_at "g"
    refine ⟨p, _, dx, _, rfl, hp, T.cl_Test, T.n_Test_word, (by repeat (first | (with_reducible refine lt_put ?_) | decide)), ?_⟩
    walk_at "g"
    refine ⟨p, _, dx, _, rfl, upd_same, T.cl_Test, T.n_Test_inner, (by repeat (first | (with_reducible refine lt_put ?_) | decide)), ?_⟩
    rw [upd2]
    walk_at "g"
    refine ⟨p, _, dx, _, rfl, upd_same, T.cl_Test, T.n_Test_fields, (by repeat (first | (with_reducible refine lt_put ?_) | decide)), ?_⟩
    rw [upd2]
    walk_at "g"
    refine ⟨p, _, dx, _, rfl, upd_same, T.cl_Test, T.n_Test_terms, (by repeat (first | (with_reducible refine lt_put ?_) | decide)), ?_⟩
    rw [upd2]
    walk_at "g"
    refine ⟨i, ks, qs, rfl, by rw [upd_ne hip]; exact hi, hR.mono fun _ _ h => other h, hl, fun H2 k2 => ?_⟩
    have hp2 := k2 _ _ upd_same
    walk_at "g"
    refine ⟨p, _, dx, _, rfl, hp2, T.cl_Test, T.n_Test_size, (by repeat (first | (with_reducible refine lt_put ?_) | decide)), ?_⟩
    walk_at "g"
    have keepP : ∀ {l : List (Str × V)} {u : Ts} {q : Addr}, TestAt (cadr mg "Test") H u q → TestAt (cadr mg "Test") (upd H2 p (.ins (cadr mg "Test") dx l)) u q := fun {l u q} h => by
      refine TestAt.keepN (p := p) (fun b o hb e => by rw [upd_ne hb]; exact k2 _ _ (by rw [upd_ne hb]; exact e)) (fun o e => ?_) h
      rw [hp] at e
      injection e with e
      subst e
      exact ⟨fun _ l z => by injection z with _ _ z; exact z.symm, fun l z => nomatch z⟩
    refine ⟨i, ks, qs, rfl, ?_, hR.mono fun _ _ h => keepP h, ?_⟩
    · rw [upd_ne hip]
      exact k2 _ _ (by rw [upd_ne hip]; exact hi)
    walk_at "g"
    refine ⟨p, _, dx, _, rfl, upd_same, T.cl_Test, T.n_Test_depth, (by repeat (first | (with_reducible refine lt_put ?_) | decide)), ?_⟩
    rw [upd2]
    walk_at "g"
    refine k _ (fun q o hq e => ?_) upd_same
    rw [upd_ne hq]
    exact k2 _ _ (by rw [upd_ne hq]; exact e)
end
/-- the places of the atomic tests of a test, from the left -/
def TestAs (C : Addr) (H : Hp) : Ts → Addr → List Addr → Prop
  | .at w fs ts, p, as => AtomAt C H p w fs ts ∧ as = [p]
  | .un w a, p, as => ∃ dx i f t q, H p = some (.ins C dx (tf w i f t a.size (a.depth + 1 : Nat))) ∧ H i = some (.tup [.ref q]) ∧ H f = some (.tup []) ∧ H t = some (.tup []) ∧ TestAs C H a q as
  | .bi w a b, p, as => ∃ dx i f t q r xs ys, H p = some (.ins C dx (tf w i f t (a.size + b.size : Nat) (max a.depth b.depth + 1 : Nat))) ∧ H i = some (.tup [.ref q, .ref r]) ∧ H f = some (.tup []) ∧ H t = some (.tup []) ∧ TestAs C H a q xs ∧ TestAs C H b r ys ∧ as = xs ++ ys
theorem TestAs.keep {C : Addr} {H H' : Hp} (k : ∀ q o, H q = some o → H' q = some o) : ∀ {t : Ts} {p : Addr} {as : List Addr}, TestAs C H t p as → TestAs C H' t p as
  | .at _ _ _, _, _, h => ⟨AtomAt.keep h.1 k, h.2⟩
  | .un _ a, _, _, ⟨dx, i, f, t, q, h1, h2, h3, h4, h5⟩ => ⟨dx, i, f, t, q, k _ _ h1, k _ _ h2, k _ _ h3, k _ _ h4, TestAs.keep k h5⟩
  | .bi _ a b, _, _, ⟨dx, i, f, t, q, r, xs, ys, h1, h2, h3, h4, h5, h6, e⟩ => ⟨dx, i, f, t, q, r, xs, ys, k _ _ h1, k _ _ h2, k _ _ h3, k _ _ h4, TestAs.keep k h5, TestAs.keep k h6, e⟩
theorem TestAt.as {C : Addr} {H : Hp} : ∀ {t : Ts} {p : Addr}, TestAt C H t p → ∃ as, TestAs C H t p as
  | .at _ _ _, p, h => ⟨[p], h, rfl⟩
  | .un _ a, _, ⟨dx, i, f, t, q, h1, h2, h3, h4, h5⟩ =>
    let ⟨as, h⟩ := TestAt.as h5
    ⟨as, dx, i, f, t, q, h1, h2, h3, h4, h⟩
  | .bi _ a b, _, ⟨dx, i, f, t, q, r, h1, h2, h3, h4, h5, h6⟩ =>
    let ⟨xs, x⟩ := TestAt.as h5
    let ⟨ys, y⟩ := TestAt.as h6
    ⟨xs ++ ys, dx, i, f, t, q, r, xs, ys, h1, h2, h3, h4, x, y, rfl⟩
theorem TestAs.row {C : Addr} {H : Hp} : ∀ {t : Ts} {p : Addr} {as : List Addr}, TestAs C H t p as → Row (TestAt C H) t.atoms as
  | .at _ _ _, _, _, ⟨h, e⟩ => by subst e; exact .cons h .nil
  | .un _ a, _, _, h => by
    obtain ⟨_, _, _, _, _, _, _, _, _, h5⟩ := h
    exact TestAs.row (t := a) h5
  | .bi _ a b, _, _, h => by
    obtain ⟨_, _, _, _, _, _, _, _, _, _, _, _, h5, h6, e⟩ := h
    subst e
    exact (TestAs.row (t := a) h5).app (TestAs.row (t := b) h6)
/-- parts, their places, the places of their atomic tests -/
inductive Row3 (R : Ts → Addr → List Addr → Prop) : List Ts → List Addr → List (List Addr) → Prop
  | nil : Row3 R [] [] []
  | cons {t : Ts} {q : Addr} {as : List Addr} {ts : List Ts} {qs : List Addr} {ass : List (List Addr)} (h : R t q as) (r : Row3 R ts qs ass) : Row3 R (t :: ts) (q :: qs) (as :: ass)
theorem Row3.len {R : Ts → Addr → List Addr → Prop} : ∀ {ts : List Ts} {qs : List Addr} {ass : List (List Addr)}, Row3 R ts qs ass → qs.length = ts.length ∧ ass.length = ts.length
  | _, _, _, .nil => ⟨rfl, rfl⟩
  | _, _, _, .cons _ r => ⟨congrArg (· + 1) r.len.1, congrArg (· + 1) r.len.2⟩
theorem Row3.get {R : Ts → Addr → List Addr → Prop} : ∀ {ts : List Ts} {qs : List Addr} {ass : List (List Addr)} {i : Nat} {q : Addr}, Row3 R ts qs ass → qs[i]? = some q → ∃ t as, ts[i]? = some t ∧ ass[i]? = some as ∧ R t q as
  | _, _, _, i, _, .nil, h => by simp at h
  | _, _, _, 0, _, .cons a r, h => by
    simp at h
    subst h
    exact ⟨_, _, rfl, rfl, a⟩
  | _, _, _, i + 1, _, .cons a r, h => by
    simp at h
    obtain ⟨t, as, e1, e2, x⟩ := r.get h
    exact ⟨t, as, by simpa using e1, by simpa using e2, x⟩
theorem TestAs.node {C : Addr} {H : Hp} : ∀ {t : Ts} {p : Addr} {as : List Addr}, TestAs C H t p as → ∃ dx i f u qs ass, H p = some (.ins C dx (tf t.word i f u t.size t.depth)) ∧ H i = some (.tup (qs.map V.ref)) ∧ H f = some (.tup (t.flds.map V.str)) ∧ H u = some (.tup t.trms) ∧
    Row3 (TestAs C H) t.kids qs ass ∧ (t.kids = [] → as = [p]) ∧ (t.kids ≠ [] → as = ass.flatten)
  | .at _ _ _, _, _, ⟨h, e⟩ => by
    obtain ⟨dx, i, f, u, h1, h2, h3, h4⟩ := h.ex
    exact ⟨dx, i, f, u, [], [], h1, h2, h3, h4, .nil, fun _ => e, fun n => absurd rfl n⟩
  | .un _ a, _, as, ⟨dx, i, f, u, q, h1, h2, h3, h4, h5⟩ => ⟨dx, i, f, u, [q], [as], h1, h2, h3, h4, .cons h5 .nil, (fun e => nomatch e), fun _ => by simp⟩
  | .bi _ a b, _, as, ⟨dx, i, f, u, q, r, xs, ys, h1, h2, h3, h4, h5, h6, e⟩ => ⟨dx, i, f, u, [q, r], [xs, ys], h1, h2, h3, h4, .cons h5 (.cons h6 .nil), (fun e => nomatch e), fun _ => by simp [e]⟩
def spAtoms (C : Addr) (n : Nat) : Sp := fun vs H Q _ => ∃ (p : Addr) (t : Ts) (as : List Addr), vs = [.ref p] ∧ TestAs C H t p as ∧ t.depth ≤ n ∧ t.size ≤ 1000 ∧ ∀ l H', H l = none → (∀ q o, H q = some o → H' q = some o) → H' l = some (.lst (as.map V.ref)) → Q (.ref l) H'
theorem kid_size {t k : Ts} (h : k ∈ t.kids) : k.size ≤ t.size := by
  cases t with
  | «at» w fs ts => exact nomatch h
  | un w a =>
    obtain rfl : k = a := by simpa [Ts.kids] using h
    exact Nat.le_refl _
  | bi w a b =>
    have h : k = a ∨ k = b := by simpa [Ts.kids] using h
    show k.size ≤ a.size + b.size
    rcases h with rfl | rfl <;> omega
section
variable {P : Program} {w : World} {K : PySem.W.Frag} {mg : Str → Option Value} {base : Heap}
end
theorem mkT_size {w : Str} {ks : List Ts} (h : ks.length ≤ 2) : (mkT w [] [] ks).size = sizeK ks := by
  match ks, h with
  | [], _ => rfl
  | [a], _ => simp [mkT, sizeK, Ts.size]
  | [a, b], _ => simp [mkT, sizeK, Ts.size]
theorem mkT_depth {w : Str} {ks : List Ts} (h : ks.length ≤ 2) : (mkT w [] [] ks).depth = depthK ks := by
  match ks, h with
  | [], _ => rfl
  | [a], _ => simp [mkT, depthK, Ts.depth]
  | [a, b], _ =>
    show max a.depth b.depth + 1 = _
    simp only [depthK, List.foldl_cons, List.foldl_nil, Nat.zero_le, if_true]
    split <;> omega
/-- a test stands where its word, its parts and their places do -/
theorem TestAt.made {C : Addr} {H : Hp} {p dx i f u : Addr} {w : Str} {ks : List Ts} {qs : List Addr} (hl : ks.length ≤ 2) (hp : H p = some (.ins C dx (tf w i f u (sizeK ks : Nat) (depthK ks : Nat)))) (hi : H i = some (.tup (qs.map V.ref))) (hf : H f = some (.tup [])) (hu : H u = some (.tup [])) (hR : Row (TestAt C H) ks qs) : TestAt C H (mkT w [] [] ks) p := by
  match ks, qs, hl, hR with
  | [], [], _, _ => exact ⟨dx, i, f, u, hp, hi, hf, hu⟩
  | [a], [q], _, .cons ha .nil => exact ⟨dx, i, f, u, q, by rw [hp]; simp [sizeK, depthK], hi, hf, hu, ha⟩
  | [a, b], [q, r], hl, .cons ha (.cons hb .nil) =>
    have e1 := mkT_size (w := w) hl
    have e2 := mkT_depth (w := w) hl
    refine ⟨dx, i, f, u, q, r, ?_, hi, hf, hu, ha, hb⟩
    rw [hp, ← e1, ← e2]
    rfl
/-- a thing's kind -/
inductive TyOf7 (H : Hp) : V → String → Prop
  | non : TyOf7 H .non "NoneType"
  | bl (b : Bool) : TyOf7 H (.bl b) "bool"
  | int (i : Int) : TyOf7 H (.int i) "int"
  | str (z : Str) : TyOf7 H (.str z) "str"
  | lst {p : Addr} {xs : List V} (h : H p = some (.lst xs)) : TyOf7 H (.ref p) "list"
  | tup {p : Addr} {xs : List V} (h : H p = some (.tup xs)) : TyOf7 H (.ref p) "tuple"
  | dct {p : Addr} {kvs : List (Key × V)} (h : H p = some (.dK kvs)) : TyOf7 H (.ref p) "dict"
theorem TyOf7.x {H : Hp} {v : V} {T : String} (h : TyOf7 H v T) (K : PySem.W.Frag) : TyX K H v (.type T) := by
  cases h with
  | non => exact .base .non
  | bl b => exact .base (.bl b)
  | int i => exact .base (.int i)
  | str z => exact .base (.str z)
  | lst h => exact .base (.lst h)
  | tup h => exact .base (.tup h)
  | dct h => exact .base (.dK h)
def xwhy (s : Str) : HO := .xd [(("why" : Str), .str s)]
/-- what combined, and what leads to it, does: a test, or one of two errors -/
def Outc (C CB : Addr) (t : Ts) (H : Hp) (Q : VK) (E : XK) : Prop :=
  (24 < t.size → ∀ d H', (∀ q o, H q = some o → H' q = some o) → H' d = some (xwhy "large") → E (.ref CB) (some d) H') ∧
  (t.size ≤ 24 → 12 < t.depth → ∀ d H', (∀ q o, H q = some o → H' q = some o) → H' d = some (xwhy "deep") → E (.ref CB) (some d) H') ∧
  (t.size ≤ 24 → t.depth ≤ 12 → ∀ p H', (∀ q o, H q = some o → H' q = some o) → TestAt C H' t p → Q (.ref p) H')
def spComb (C CB : Addr) : Sp := fun vs H Q E => ∃ (w : Str) (i : Addr) (ks : List Ts) (qs : List Addr), vs = [.str w, .ref i] ∧ H i = some (.tup (qs.map V.ref)) ∧ Row (TestAt C H) ks qs ∧ ks.length ≤ 2 ∧ Outc C CB (mkT w [] [] ks) H Q E
section
variable {P : Program} {w : World} {K : PySem.W.Frag} {mg : Str → Option Value} {base : Heap}
theorem ok_combined (T : TxtW w K mg) : DefX P w K mg base 4 "combined" ["word", "inner"] (spComb (cadr mg "Test") (cadr mg "BadTest")) := by
  obtain ⟨f, fd, h⟩ := T.d_combined
  obtain ⟨t_MOST_ATOMS, G_MOST_ATOMS⟩ := T.k_MOST_ATOMS
  obtain ⟨t_MOST_LEVELS, G_MOST_LEVELS⟩ := T.k_MOST_LEVELS
  obtain ⟨fE_BadTest, EB_BadTest⟩ := T.x_BadTest
  refine h.defX (Fun.okMX h.fn sc_combined (fun vs H Q E h => ?_) (fun cdv A outer s H vs Q E hr h => ?_))
  · obtain ⟨w, i, ks, qs, rfl, _⟩ := h
    rfl
  · obtain ⟨w, i, ks, qs, rfl, hi, hR, hl, kL, kD, kO⟩ := h
    refine ⟨_, (pss_cons (ps_set (i := 2) sc_combined.nd rfl (Or.inl rfl) (pe_new (ok_Test_init T) hr rfl T.e_Test (pa_cons (pv 0) (pa_cons (pv 1) (pa_cons (pe_tup pa_nil) (pa_cons (pe_tup pa_nil) pa_nil))))))
  (pss_cons (ps_if (pt_cmpR op_gtG (pe_fldG (K := K) rfl (pv 2) rfl) (pe_glob (v := .int 24) rfl G_MOST_ATOMS ⟨_, rfl⟩) (nomark _))
  (pss_one (ps_raiseBadTest rfl EB_BadTest hr (takes_of rfl rfl rfl rfl) (pa_cons pe_str pa_nil)))
  pss_nil)
  (pss_cons (ps_if (pt_cmpR op_gtG (pe_fldG (K := K) rfl (pv 2) rfl) (pe_glob (v := .int 12) rfl G_MOST_LEVELS ⟨_, rfl⟩) (nomark _))
  (pss_one (ps_raiseBadTest rfl EB_BadTest hr (takes_of rfl rfl rfl rfl) (pa_cons pe_str pa_nil)))
  pss_nil)
  (pss_one (ps_ret (pv 2)))))), ?_⟩
    walk_at "g"
    refine ⟨Nat.zero_le _, fun f hf => ?_⟩
    walk_at "g"
    refine ⟨Nat.zero_le _, fun u hu => ?_⟩
    walk_at "g"
    intro x dx hx hdx hne
    have kf : ∀ q o, H q = some o → (upd H f (.tup [])) q = some o := fun q o h => by rw [upd_ne (ne_of_none h hf)]; exact h
    have ku : ∀ q o, (upd H f (.tup [])) q = some o → (upd (upd H f (.tup [])) u (.tup [])) q = some o := fun q o h => by rw [upd_ne (ne_of_none h hu)]; exact h
    have kx : ∀ q o, (upd (upd H f (.tup [])) u (.tup [])) q = some o → (upd (upd (upd (upd H f (.tup [])) u (.tup [])) dx (.own x)) x (.ins (cadr mg "Test") dx [])) q = some o := fun q o h => by
      rw [upd_ne (ne_of_none h hx), upd_ne (ne_of_none h hdx)]; exact h
    have k0 : ∀ q o, H q = some o → (upd (upd (upd (upd H f (.tup [])) u (.tup [])) dx (.own x)) x (.ins (cadr mg "Test") dx [])) q = some o := fun q o h => kx _ _ (ku _ _ (kf _ _ h))
    refine ⟨x, dx, i, f, u, w, ks, qs, rfl, upd_same, k0 _ _ hi, hR.mono fun _ _ h => h.keep k0, by omega, fun H2 k2 h2 => ⟨rfl, ?_⟩⟩
    have hHx : H x = none := by
      cases e : H x with
      | none => rfl
      | some o => rw [ku _ _ (kf _ _ e)] at hx; cases hx
    have kk : ∀ q o, H q = some o → H2 q = some o := fun q o h => k2 _ _ (ne_of_none h hHx) (k0 _ _ h)
    have hf2 : H2 f = some (.tup []) := k2 _ _ (fun z => by rw [← z, ku _ _ upd_same] at hx; cases hx) (kx _ _ (ku _ _ upd_same))
    have hu2 : H2 u = some (.tup []) := k2 _ _ (fun z => by rw [← z, upd_same] at hx; cases hx) (kx _ _ upd_same)
    have A2 : TestAt (cadr mg "Test") H2 (mkT w [] [] ks) x := TestAt.made hl h2 (kk _ _ hi) hf2 hu2 (hR.mono fun _ _ h => h.keep kk)
    have es := mkT_size (w := w) hl
    have ed := mkT_depth (w := w) hl
    walk_at "g"
    refine ⟨x, _, dx, _, _, rfl, h2, T.cl_Test, T.n_Test_size, tf_size, ?_⟩
    walk_at "g"
    refine g_dec (fun h24 => ?_) (fun h24 => ?_)
    · walk_at "g"
      exact ⟨_, rfl, fun d hd => kL (by omega) d _ (fun q o h => by rw [upd_ne (ne_of_none (kk q o h) hd)]; exact kk q o h) upd_same⟩
    · walk_at "g"
      refine ⟨x, _, dx, _, _, rfl, h2, T.cl_Test, T.n_Test_depth, tf_depth, ?_⟩
      walk_at "g"
      refine g_dec (fun h12 => ?_) (fun h12 => ?_)
      · walk_at "g"
        exact ⟨_, rfl, fun d hd => kD (by omega) (by omega) d _ (fun q o h => by rw [upd_ne (ne_of_none (kk q o h) hd)]; exact kk q o h) upd_same⟩
      · walk_at "g"
        exact kO (by omega) (by omega) x H2 kk A2
/-- a & b, a | b: a thing that is no test is refused -/
def spOp (C CB : Addr) (w : Str) : Sp := fun vs H Q E => ∃ (p : Addr) (a : Ts) (y : V), vs = [.ref p, y] ∧ TestAt C H a p ∧
  ((∃ (q : Addr) (b : Ts), y = .ref q ∧ TestAt C H b q ∧ Outc C CB (.bi w a b) H Q E) ∨ ((∃ T, T ∈ kinds7 ∧ TyOf7 H y T) ∧ ∀ d H', (∀ q o, H q = some o → H' q = some o) → H' d = some (xwhy "part") → E (.ref CB) (some d) H'))
theorem ok_Test_and (T : TxtW w K mg) : DefMX P w K mg base 5 (cadr mg "Test") "__and__" ["self", "other"] (spOp (cadr mg "Test") (cadr mg "BadTest") "and") := by
  obtain ⟨f, fd, h⟩ := T.d_Test_and
  obtain ⟨fE_BadTest, EB_BadTest⟩ := T.x_BadTest
  refine h.defX (Fun.okMX h.fn sc_Test_and (fun vs H Q E h => ?_) (fun cdv A outer s H vs Q E hr h => ?_))
  · obtain ⟨p, a, y, rfl, _⟩ := h
    rfl
  · obtain ⟨p, a, y, rfl, ha, h⟩ := h
    obtain ⟨dx, i1, f1, u1, qs1, hp, _⟩ := ha.node
    refine ⟨_, (pss_cons (ps_if (pt_not (pt_val (pe_callB (call_isiG (K := K) rfl) (by rfl) T.h_isinstance (by decide +kernel) (pa_cons (pv 1) (pa_cons (pe_cls rfl T.e_Test) pa_nil)))))
  (pss_one (ps_raiseBadTest rfl EB_BadTest hr (takes_of rfl rfl rfl rfl) (pa_cons pe_str pa_nil)))
  pss_nil)
  (pss_one (ps_ret (pe_defX (takes_of rfl rfl rfl rfl) (ok_combined T) hr rfl (pa_cons pe_str (pa_cons (pe_tup (pa_cons (pv 0) (pa_cons (pv 1) pa_nil))) pa_nil)))))), ?_⟩
    rcases h with ⟨q, b, rfl, hb, hO⟩ | ⟨⟨Tn, hT, ty⟩, hE⟩
    · obtain ⟨dx2, i2, f2, u2, qs2, hq, _⟩ := hb.node
      walk_at "g"
      refine g_isOwn T.is_Test T.cl_Test hq ?_
      walk_at "g"
      refine ⟨by show 2 ≤ sizeLine; decide, fun t ht => ?_⟩
      have kt : ∀ r o, H r = some o → (upd H t (.tup [.ref p, .ref q])) r = some o := fun r o h => by rw [upd_ne (ne_of_none h ht)]; exact h
      walk_at "g"
      refine ⟨"and", t, [a, b], [p, q], rfl, upd_same, .cons (ha.keep kt) (.cons (hb.keep kt) .nil), Nat.le_refl _, fun h d H' k e => hO.1 h d H' (fun r o h => k r o (kt r o h)) e, fun h1 h2 d H' k e => hO.2.1 h1 h2 d H' (fun r o h => k r o (kt r o h)) e, fun h1 h2 r H' k A => ?_⟩
      walk_at "g"
      exact hO.2.2 h1 h2 r H' (fun r o h => k r o (kt r o h)) A
    · walk_at "g"
      refine g_isNot T.is_Test (ty.x K) hT ?_
      walk_at "g"
      exact ⟨_, rfl, fun d hd => hE d _ (fun q o h => by rw [upd_ne (ne_of_none h hd)]; exact h) upd_same⟩
end
section
variable {P : Program} {w : World} {K : PySem.W.Frag} {mg : Str → Option Value} {base : Heap}
theorem ok_Test_or (T : TxtW w K mg) : DefMX P w K mg base 5 (cadr mg "Test") "__or__" ["self", "other"] (spOp (cadr mg "Test") (cadr mg "BadTest") "or") := by
  obtain ⟨f, fd, h⟩ := T.d_Test_or
  obtain ⟨fE_BadTest, EB_BadTest⟩ := T.x_BadTest
  refine h.defX (Fun.okMX h.fn sc_Test_or (fun vs H Q E h => ?_) (fun cdv A outer s H vs Q E hr h => ?_))
  · obtain ⟨p, a, y, rfl, _⟩ := h
    rfl
  · obtain ⟨p, a, y, rfl, ha, h⟩ := h
    obtain ⟨dx, i1, f1, u1, qs1, hp, _⟩ := ha.node
    refine ⟨_, (pss_cons (ps_if (pt_not (pt_val (pe_callB (call_isiG (K := K) rfl) (by rfl) T.h_isinstance (by decide +kernel) (pa_cons (pv 1) (pa_cons (pe_cls rfl T.e_Test) pa_nil)))))
  (pss_one (ps_raiseBadTest rfl EB_BadTest hr (takes_of rfl rfl rfl rfl) (pa_cons pe_str pa_nil)))
  pss_nil)
  (pss_one (ps_ret (pe_defX (takes_of rfl rfl rfl rfl) (ok_combined T) hr rfl (pa_cons pe_str (pa_cons (pe_tup (pa_cons (pv 0) (pa_cons (pv 1) pa_nil))) pa_nil)))))), ?_⟩
    rcases h with ⟨q, b, rfl, hb, hO⟩ | ⟨⟨Tn, hT, ty⟩, hE⟩
    · obtain ⟨dx2, i2, f2, u2, qs2, hq, _⟩ := hb.node
      walk_at "g"
      refine g_isOwn T.is_Test T.cl_Test hq ?_
      walk_at "g"
      refine ⟨by show 2 ≤ sizeLine; decide, fun t ht => ?_⟩
      have kt : ∀ r o, H r = some o → (upd H t (.tup [.ref p, .ref q])) r = some o := fun r o h => by rw [upd_ne (ne_of_none h ht)]; exact h
      walk_at "g"
      refine ⟨"or", t, [a, b], [p, q], rfl, upd_same, .cons (ha.keep kt) (.cons (hb.keep kt) .nil), Nat.le_refl _, fun h d H' k e => hO.1 h d H' (fun r o h => k r o (kt r o h)) e, fun h1 h2 d H' k e => hO.2.1 h1 h2 d H' (fun r o h => k r o (kt r o h)) e, fun h1 h2 r H' k A => ?_⟩
      walk_at "g"
      exact hO.2.2 h1 h2 r H' (fun r o h => k r o (kt r o h)) A
    · walk_at "g"
      refine g_isNot T.is_Test (ty.x K) hT ?_
      walk_at "g"
      exact ⟨_, rfl, fun d hd => hE d _ (fun q o h => by rw [upd_ne (ne_of_none h hd)]; exact h) upd_same⟩
/-- ~a, sure(a) -/
def spUn (C CB : Addr) (w : Str) : Sp := fun vs H Q E => ∃ (p : Addr) (a : Ts), vs = [.ref p] ∧ TestAt C H a p ∧ Outc C CB (.un w a) H Q E
theorem ok_Test_invert (T : TxtW w K mg) : DefMX P w K mg base 5 (cadr mg "Test") "__invert__" ["self"] (spUn (cadr mg "Test") (cadr mg "BadTest") "not") := by
  obtain ⟨f, fd, h⟩ := T.d_Test_invert
  refine h.defX (Fun.okMX h.fn sc_Test_invert (fun vs H Q E h => ?_) (fun cdv A outer s H vs Q E hr h => ?_))
  · obtain ⟨p, a, rfl, _⟩ := h
    rfl
  · obtain ⟨p, a, rfl, ha, hO⟩ := h
    refine ⟨_, (pss_one (ps_ret (pe_defX (takes_of rfl rfl rfl rfl) (ok_combined T) hr rfl (pa_cons pe_str (pa_cons (pe_tup (pa_cons (pv 0) pa_nil)) pa_nil))))), ?_⟩
    walk_at "g"
    refine ⟨by show 1 ≤ sizeLine; decide, fun t ht => ?_⟩
    have kt : ∀ r o, H r = some o → (upd H t (.tup [.ref p])) r = some o := fun r o h => by rw [upd_ne (ne_of_none h ht)]; exact h
    walk_at "g"
    refine ⟨"not", t, [a], [p], rfl, upd_same, .cons (ha.keep kt) .nil, by show 1 ≤ 2; decide, fun h d H' k e => hO.1 h d H' (fun r o h => k r o (kt r o h)) e, fun h1 h2 d H' k e => hO.2.1 h1 h2 d H' (fun r o h => k r o (kt r o h)) e, fun h1 h2 r H' k A => ?_⟩
    walk_at "g"
    exact hO.2.2 h1 h2 r H' (fun r o h => k r o (kt r o h)) A
theorem ok_sure (T : TxtW w K mg) : DefX P w K mg base 5 "sure" ["test"] (spUn (cadr mg "Test") (cadr mg "BadTest") "sure") := by
  obtain ⟨f, fd, h⟩ := T.d_sure
  obtain ⟨fE_BadTest, EB_BadTest⟩ := T.x_BadTest
  refine h.defX (Fun.okMX h.fn sc_sure (fun vs H Q E h => ?_) (fun cdv A outer s H vs Q E hr h => ?_))
  · obtain ⟨p, a, rfl, _⟩ := h
    rfl
  · obtain ⟨p, a, rfl, ha, hO⟩ := h
    obtain ⟨dx, i1, f1, u1, qs1, hp, _⟩ := ha.node
    refine ⟨_, (pss_cons (ps_if (pt_not (pt_val (pe_callB (call_isiG (K := K) rfl) (by rfl) T.h_isinstance (by decide +kernel) (pa_cons (pv 0) (pa_cons (pe_cls rfl T.e_Test) pa_nil)))))
  (pss_one (ps_raiseBadTest rfl EB_BadTest hr (takes_of rfl rfl rfl rfl) (pa_cons pe_str pa_nil)))
  pss_nil)
  (pss_one (ps_ret (pe_defX (takes_of rfl rfl rfl rfl) (ok_combined T) hr rfl (pa_cons pe_str (pa_cons (pe_tup (pa_cons (pv 0) pa_nil)) pa_nil)))))), ?_⟩
    walk_at "g"
    refine g_isOwn T.is_Test T.cl_Test hp ?_
    walk_at "g"
    refine ⟨by show 1 ≤ sizeLine; decide, fun t ht => ?_⟩
    have kt : ∀ r o, H r = some o → (upd H t (.tup [.ref p])) r = some o := fun r o h => by rw [upd_ne (ne_of_none h ht)]; exact h
    walk_at "g"
    refine ⟨"sure", t, [a], [p], rfl, upd_same, .cons (ha.keep kt) .nil, by show 1 ≤ 2; decide, fun h d H' k e => hO.1 h d H' (fun r o h => k r o (kt r o h)) e, fun h1 h2 d H' k e => hO.2.1 h1 h2 d H' (fun r o h => k r o (kt r o h)) e, fun h1 h2 r H' k A => ?_⟩
    walk_at "g"
    exact hO.2.2 h1 h2 r H' (fun r o h => k r o (kt r o h)) A
end
/-! texts of the 94 signs -/
def txtB (z : Str) : Bool := z.cps.toList.all fun c => decide (c ∈ signs.cps.toList)
def isTxtB : V → Bool
  | .str z => txtB z
  | _ => false
theorem none_bad {l : List Nat} {p : Nat → Bool} {f : Nat → V} : decide ((((l.filter fun n => !p n).map f).length : Int) = 0) = l.all p := by
  rw [List.length_map, Bool.eq_iff_iff, decide_eq_true_eq, List.all_eq_true]
  constructor
  · intro h c hc
    have h' : (l.filter fun n => !p n) = [] := List.length_eq_zero_iff.mp (by omega)
    have := (List.filter_eq_nil_iff.mp h') c hc
    simpa using this
  · intro h
    have h' : (l.filter fun n => !p n) = [] := List.filter_eq_nil_iff.mpr fun c hc => by
      have := h c hc
      simpa using this
    rw [h']
    rfl
def spThingB (F : V → Bool) : Sp := fun vs H Q _ => ∃ v, vs = [v] ∧ thing H v ∧ ∀ H', (∀ p o, H p = some o → H' p = some o) → Q (.bl (F v)) H'
def letters : List Nat := (Str.ofString "abcdefghijklmnopqrstuvwxyz").cps.toList
def nameSigns : List Nat := (Str.ofString "abcdefghijklmnopqrstuvwxyz0123456789").cps.toList
def keptWords : List Str := ["and", "or", "not", "sure", "in", "is", "empty", "begins", "always", "never"]
def nameP (z : Str) : Prop := z.length ≠ 0 ∧ z.length ≤ 8 ∧ (∀ c r, z.cps.toList = c :: r → c ∈ letters) ∧ z ∉ keptWords ∧ ∀ c ∈ z.cps.toList, c ∈ nameSigns
noncomputable def nameB : V → Bool
  | .str z => @decide (nameP z) (Classical.propDecidable _)
  | _ => false
theorem nameB_str {z : Str} : nameB (.str z) = true ↔ nameP z := by
  unfold nameB
  exact @decide_eq_true_iff _ (Classical.propDecidable _)
theorem nameB_no {z : Str} (h : ¬ nameP z) : nameB (.str z) = false := by
  cases e : nameB (.str z) with
  | false => rfl
  | true => exact absurd (nameB_str.mp e) h
theorem nameB_is {z : Str} {b : Bool} (h : nameP z ↔ b = true) : nameB (.str z) = b := by
  cases b with
  | true => exact nameB_str.mpr (h.mpr rfl)
  | false => exact nameB_no fun z => absurd (h.mp z) Bool.false_ne_true
def kindV : V → V
  | .int _ => .str (Str.ofString "number")
  | .str z => if txtB z = true then .str (Str.ofString "text") else .non
  | _ => .non
section
variable {P : Program} {w : World} {K : PySem.W.Frag} {mg : Str → Option Value} {base : Heap}
theorem ok_is_integer (T : TxtW w K mg) : Def P w K mg base 1 "is_integer" ["thing"] (spThingB isIntB) := by
  obtain ⟨f, fd, h⟩ := T.d_is_integer
  refine h.def (Fun.okM h.fn sc_is_integer (fun vs H Q E h => ?_) (fun cdv A outer s H vs Q E hr h => ?_))
  · obtain ⟨x, rfl, _⟩ := h
    rfl
  · obtain ⟨x, rfl, hx, k⟩ := h
    have k' := k H fun _ _ h => h
    refine ⟨_, (pss_one (ps_ret (pe_and (pe_callB (call_isiG (K := K) rfl) (by rfl) T.h_isinstance (by decide +kernel) (pa_cons (pv 0) (pa_cons (pe_bltn (v := .ty "int") (by rfl) T.h_int (by decide +kernel) rfl) pa_nil))) (pe_one (pe_not (pe_callB (call_isiG (K := K) rfl) (by rfl) T.h_isinstance (by decide +kernel) (pa_cons (pv 0) (pa_cons (pe_bltn (v := .ty "bool") (by rfl) T.h_bool (by decide +kernel) rfl) pa_nil)))))))), ?_⟩
    rcases hx with rfl | ⟨b, rfl⟩ | ⟨i, rfl⟩ | ⟨z, rfl, hz⟩ | ⟨p, rfl, hp⟩ <;> walk_at "g" <;> exact k'
end
section
variable {P : Program} {w : World} {K : PySem.W.Frag} {mg : Str → Option Value} {base : Heap}
theorem ok_is_text (T : TxtW w K mg) : Def P w K mg base 1 "is_text" ["thing"] (spThingB isTxtB) := by
  obtain ⟨f, fd, h⟩ := T.d_is_text
  obtain ⟨t_SIGNS, G_SIGNS⟩ := T.k_SIGNS
  refine h.def (Fun.okM h.fn sc_is_text (fun vs H Q E h => ?_) (fun cdv A outer s H vs Q E hr h => ?_))
  · obtain ⟨x, rfl, _⟩ := h
    rfl
  · obtain ⟨x, rfl, hx, k⟩ := h
    have k' := k H fun _ _ h => h
    refine ⟨_, (pss_cons (ps_if (pt_not (pt_val (pe_callB (call_isiG (K := K) rfl) (by rfl) T.h_isinstance (by decide +kernel) (pa_cons (pv 0) (pa_cons (pe_bltn (v := .ty "str") (by rfl) T.h_str (by decide +kernel) rfl) pa_nil)))))
  (pss_one (ps_ret pe_bl))
  pss_nil)
  (pss_one (ps_ret (pe_callB (cr_all rfl) (by rfl) T.h_all (by decide +kernel) (pa_cons (pe_lc (own := [("sign", 1)]) rfl sc_is_text.nd (pi_str (pv 0)) (blkOk_by (N := N_is_text) (sc := defScope S_is_text) (by decide +kernel)) (fun _ _ _ _ _ => pg_name (i := 1) sc_is_text.nd rfl (Or.inl rfl)) (fun _ _ _ _ _ => pts_nil) (fun _ _ _ _ _ => (pe_cmpR (op_inG (K := K) rfl) (pv 1) (pe_glob (v := .str C_SIGNS) rfl G_SIGNS ⟨_, rfl⟩) (by rfl)))) pa_nil))))), ?_⟩
    rcases hx with rfl | ⟨b, rfl⟩ | ⟨i, rfl⟩ | ⟨z, rfl, hz⟩ | ⟨p, rfl, hp⟩
    case inr.inr.inr.inl =>
      walk_at "g"
      refine fun L hL => ?_
      refine lc_text (fun _ => true) (fun n => .bl (decide (n ∈ signs.cps.toList))) (by omega) (fun n Hh R S hn hK hR hS => ?_) (fun H2 hK hL2 => ?_)
      · walk_at "g"
        refine ⟨rfl, ?_⟩
        walk_at "g"
        exact hR rfl
      · walk_at "g"
        refine ⟨L, z.cps.toList.map fun n => decide (n ∈ signs.cps.toList), rfl, SqL.of ?_, ?_⟩
        · rw [hL2, List.filter_eq_self.mpr (fun _ _ => rfl), List.map_map]; rfl
        · walk_at "g"
          have e : (z.cps.toList.map fun n => decide (n ∈ signs.cps.toList)).all id = isTxtB (.str z) := by
            show _ = txtB z
            unfold txtB
            rw [List.all_map]; rfl
          rw [e]
          exact k _ fun p o h => hK p o (ne_of_none h hL) h
    all_goals (walk_at "g"; exact k')
end
section
variable {P : Program} {w : World} {K : PySem.W.Frag} {mg : Str → Option Value} {base : Heap}
theorem ok_is_name (T : TxtW w K mg) : Def P w K mg base 1 "is_name" ["thing"] (spThingB nameB) := by
  obtain ⟨f, fd, h⟩ := T.d_is_name
  obtain ⟨t_LONGEST_NAME, G_LONGEST_NAME⟩ := T.k_LONGEST_NAME
  obtain ⟨t_LETTERS, G_LETTERS⟩ := T.k_LETTERS
  obtain ⟨t_WORDS, G_WORDS, Q_WORDS⟩ := T.k_WORDS
  obtain ⟨t_NAME_SIGNS, G_NAME_SIGNS⟩ := T.k_NAME_SIGNS
  refine h.def (Fun.okM h.fn sc_is_name (fun vs H Q E h => ?_) (fun cdv A outer s H vs Q E hr h => ?_))
  · obtain ⟨x, rfl, _⟩ := h
    rfl
  · obtain ⟨x, rfl, hx, k⟩ := h
    have k' := k H fun _ _ h => h
    refine ⟨_, (pss_cons (ps_if (pt_not (pt_val (pe_callB (call_isiG (K := K) rfl) (by rfl) T.h_isinstance (by decide +kernel) (pa_cons (pv 0) (pa_cons (pe_bltn (v := .ty "str") (by rfl) T.h_str (by decide +kernel) rfl) pa_nil)))))
  (pss_one (ps_ret pe_bl))
  pss_nil)
  (pss_cons (ps_if (PW.pt (pw_or (pt_cmpR op_eq (pe_callB (call_lenG (K := K) rfl) (by rfl) T.h_len (by decide +kernel) (pa_cons (pv 0) pa_nil)) pe_int (nomark _)) (pw_or1 (pt_cmpR op_gtG (pe_callB (call_lenG (K := K) rfl) (by rfl) T.h_len (by decide +kernel) (pa_cons (pv 0) pa_nil)) (pe_glob (v := .int 8) rfl G_LONGEST_NAME ⟨_, rfl⟩) (nomark _)))))
  (pss_one (ps_ret pe_bl))
  pss_nil)
  (pss_cons (ps_if (PW.pt (pw_or (pt_cmpR (op_notInG (K := K) rfl) (pe_ix (ix_seqG (K := K) rfl) (pv 0) pe_int (fun _ _ => rfl)) (pe_glob (v := .str C_LETTERS) rfl G_LETTERS ⟨_, rfl⟩) (by rfl)) (pw_or1 (pt_cmpR (op_inG (K := K) rfl) (pv 0) (pe_glob (v := .ref t_WORDS) rfl G_WORDS rfl) (by rfl)))))
  (pss_one (ps_ret pe_bl))
  pss_nil)
  (pss_one (ps_ret (pe_callB (cr_all rfl) (by rfl) T.h_all (by decide +kernel) (pa_cons (pe_lc (own := [("sign", 1)]) rfl sc_is_name.nd (pi_str (pv 0)) (blkOk_by (N := N_is_name) (sc := defScope S_is_name) (by decide +kernel)) (fun _ _ _ _ _ => pg_name (i := 1) sc_is_name.nd rfl (Or.inl rfl)) (fun _ _ _ _ _ => pts_nil) (fun _ _ _ _ _ => (pe_cmpR (op_inG (K := K) rfl) (pv 1) (pe_glob (v := .str C_NAME_SIGNS) rfl G_NAME_SIGNS ⟨_, rfl⟩) (by rfl)))) pa_nil))))))), ?_⟩
    rcases hx with rfl | ⟨b, rfl⟩ | ⟨i, rfl⟩ | ⟨z, rfl, hz⟩ | ⟨p, rfl, hp⟩
    case inr.inr.inr.inl =>
      walk_at "g"
      refine g_lenS (by rw [sizeLine_eq]; omega) ?_
      have no : ¬ nameP z → Q (.bl false) H := fun h => by rw [← nameB_no h]; exact k'
      walk_at "g"
      refine g_dec (fun h0 => ?_) (fun h0 => ?_)
      · walk_at "g"
        exact no fun n => n.1 (by omega)
      walk_at "g"
      refine g_lenS (by rw [sizeLine_eq]; omega) ?_
      walk_at "g"
      refine g_dec (fun h8 => ?_) (fun h8 => ?_)
      · walk_at "g"
        exact no fun n => by have := n.2.1; omega
      walk_at "g"
      obtain ⟨c, r, hcr⟩ : ∃ c r, z.cps.toList = c :: r := by
        cases e : z.cps.toList with
        | nil => exact absurd (by have e2 : z.cps.toList.length = z.length := Array.length_toList
                                  rw [e] at e2; simpa using e2.symm) h0
        | cons c r => exact ⟨c, r, rfl⟩
      refine g_ixS (n := c) (by rw [sizeLine_eq]; omega) (atI_nat (j := 0) (by rw [hcr]; rfl)) ?_
      walk_at "g"
      refine g_ndec (fun hc => ?_) (fun hc => ?_)
      · walk_at "g"
        exact no fun n => hc (n.2.2.1 c r hcr)
      walk_at "g"
      refine .inr ⟨_, keptWords.map V.str, rfl, .inr (Q_WORDS _), rfl, Tw.flat_strs _, ?_⟩
      walk_at "g"
      rw [if_neg Bool.false_ne_true, inV_strs]
      refine g_dec (fun hw => ?_) (fun hw => ?_)
      · walk_at "g"
        exact no fun n => n.2.2.2.1 hw
      walk_at "g"
      refine fun L hL => ?_
      refine lc_text (fun _ => true) (fun n => .bl (decide (n ∈ nameSigns))) (by omega) (fun n Hh R S hn hK hR hS => ?_) (fun H2 hK hL2 => ?_)
      · walk_at "g"
        refine ⟨rfl, ?_⟩
        walk_at "g"
        exact hR rfl
      · walk_at "g"
        refine ⟨L, z.cps.toList.map fun n => decide (n ∈ nameSigns), rfl, SqL.of ?_, ?_⟩
        · rw [hL2, List.filter_eq_self.mpr (fun _ _ => rfl), List.map_map]; rfl
        · walk_at "g"
          have e : nameB (.str z) = (z.cps.toList.map fun n => decide (n ∈ nameSigns)).all id := by
            refine nameB_is ?_
            rw [List.all_map, List.all_eq_true]
            constructor
            · intro n c hc
              exact decide_eq_true (n.2.2.2.2 c hc)
            · intro h
              exact ⟨by omega, by omega, fun c' r' e' => by rw [hcr] at e'; injection e' with e1 _; rw [← e1]; exact hc, hw, fun c hc => of_decide_eq_true (h c hc)⟩
          rw [← e]
          exact k _ fun p o h => hK p o (ne_of_none h hL) h
    all_goals (walk_at "g"; exact k')
end
section
variable {P : Program} {w : World} {K : PySem.W.Frag} {mg : Str → Option Value} {base : Heap}
def spKind : Sp := fun vs H Q _ => ∃ v, vs = [v] ∧ thing H v ∧ ∀ H', (∀ p o, H p = some o → H' p = some o) → Q (kindV v) H'
theorem ok_kind_of (T : TxtW w K mg) : Def P w K mg base 2 "kind_of" ["value"] spKind := by
  obtain ⟨f, fd, h⟩ := T.d_kind_of
  refine h.def (Fun.okM h.fn sc_kind_of (fun vs H Q E h => ?_) (fun cdv A outer s H vs Q E hr h => ?_))
  · obtain ⟨x, rfl, _⟩ := h
    rfl
  · obtain ⟨x, rfl, hx, k⟩ := h
    refine ⟨_, (pss_cons (ps_if (pt_val (pe_def (ok_is_integer T) hr rfl (pa_cons (pv 0) pa_nil)))
  (pss_one (ps_ret pe_str))
  pss_nil)
  (pss_cons (ps_if (pt_val (pe_def (ok_is_text T) hr rfl (pa_cons (pv 0) pa_nil)))
  (pss_one (ps_ret pe_str))
  pss_nil)
  (pss_one (ps_ret pe_non)))), ?_⟩
    walk_at "g"
    refine ⟨_, rfl, hx, fun H1 h1 => ?_⟩
    have hx1 := hx.keep h1
    rcases hx with rfl | ⟨b, rfl⟩ | ⟨i, rfl⟩ | ⟨z, rfl, hz⟩ | ⟨p, rfl, hp⟩
    case inr.inr.inl =>
      rw [show isIntB (.int i) = true from rfl]
      walk_at "g"
      exact k _ h1
    all_goals
      walk_at "g"
      refine g_split (fun z => absurd z Bool.false_ne_true) (fun _ => ?_)
      walk_at "g"
      refine ⟨_, rfl, hx1, fun H2 h2 => ?_⟩
      have k2 := k H2 fun p o h => h2 p o (h1 p o h)
    case inr.inr.inr.inl =>
      walk_at "g"
      refine g_split (fun e => ?_) (fun e => ?_)
      · walk_at "g"
        have e' : txtB z = true := e
        have k2 : Q (if txtB z = true then V.str (Str.ofString "text") else V.non) H2 := k2
        rw [if_pos e'] at k2
        exact k2
      · walk_at "g"
        have e' : txtB z = false := e
        have k2 : Q (if txtB z = true then V.str (Str.ofString "text") else V.non) H2 := k2
        rw [if_neg (by rw [e']; exact Bool.false_ne_true)] at k2
        exact k2
    all_goals
      walk_at "g"
      refine g_split (fun z => absurd z Bool.false_ne_true) (fun _ => ?_)
      walk_at "g"
      exact k2
end
theorem atom_made {C : Addr} {H H2 : Hp} {i f u x dx : Addr} {w : Str} (fs : List Str) (ts : List V) (hi : H i = none) (hf : (upd H i (.tup [])) f = none) (hu : (upd (upd H i (.tup [])) f (.tup (fs.map V.str))) u = none)
    (hx : (upd (upd (upd H i (.tup [])) f (.tup (fs.map V.str))) u (.tup ts)) x = none) (hdx : (upd (upd (upd H i (.tup [])) f (.tup (fs.map V.str))) u (.tup ts)) dx = none)
    (k2 : ∀ q o, q ≠ x → (upd (upd (upd (upd (upd H i (.tup [])) f (.tup (fs.map V.str))) u (.tup ts)) dx (.own x)) x (.ins C dx [])) q = some o → H2 q = some o)
    (h2 : H2 x = some (.ins C dx (tf w i f u (sizeK [] : Nat) (depthK [] : Nat)))) : (∀ q o, H q = some o → H2 q = some o) ∧ TestAt C H2 (.at w fs ts) x := by
  have ki : ∀ q o, H q = some o → (upd H i (.tup [])) q = some o := fun q o h => by rw [upd_ne (ne_of_none h hi)]; exact h
  have kf : ∀ q o, (upd H i (.tup [])) q = some o → (upd (upd H i (.tup [])) f (.tup (fs.map V.str))) q = some o := fun q o h => by rw [upd_ne (ne_of_none h hf)]; exact h
  have ku : ∀ q o, (upd (upd H i (.tup [])) f (.tup (fs.map V.str))) q = some o → (upd (upd (upd H i (.tup [])) f (.tup (fs.map V.str))) u (.tup ts)) q = some o := fun q o h => by rw [upd_ne (ne_of_none h hu)]; exact h
  have kx : ∀ q o, (upd (upd (upd H i (.tup [])) f (.tup (fs.map V.str))) u (.tup ts)) q = some o → H2 q = some o := fun q o h => k2 q o (ne_of_none h hx) (by rw [upd_ne (ne_of_none h hx), upd_ne (ne_of_none h hdx)]; exact h)
  refine ⟨fun q o h => kx _ _ (ku _ _ (kf _ _ (ki _ _ h))), dx, i, f, u, h2, kx _ _ (ku _ _ (kf _ _ upd_same)), kx _ _ (ku _ _ upd_same), kx _ _ upd_same⟩
def spNeed (G : V → Prop) : Sp := fun vs H Q _ => ∃ v, vs = [v] ∧ G v ∧ ∀ H', (∀ q o, H q = some o → H' q = some o) → Q .non H'
section
variable {P : Program} {w : World} {K : PySem.W.Frag} {mg : Str → Option Value} {base : Heap}
theorem ok_need_column (T : TxtW w K mg) : Def P w K mg base 2 "need_column" ["thing"] (spNeed fun v => ∃ c, v = .str c ∧ nameP c) := by
  obtain ⟨f, fd, h⟩ := T.d_need_column
  refine h.def (Fun.okM h.fn sc_need_column (fun vs H Q E h => ?_) (fun cdv A outer s H vs Q E hr h => ?_))
  · obtain ⟨v, rfl, _⟩ := h
    rfl
  · obtain ⟨v, rfl, ⟨c, rfl, hc⟩, k⟩ := h
    refine ⟨_, (pss_one (ps_if (pt_not (pt_val (pe_def (ok_is_name T) hr rfl (pa_cons (pv 0) pa_nil))))
  (pss_one ps_never)
  pss_nil)), ?_⟩
    walk_at "g"
    refine ⟨_, rfl, .inr (.inr (.inr (.inl ⟨c, rfl, Nat.le_trans hc.2.1 (by decide)⟩))), fun H1 k1 => ?_⟩
    rw [nameB_str.mpr hc]
    walk_at "g"
    exact k _ k1
end
/-! draws from a pool -/
def PD (H : Hp) (p : Addr) (n : Nat) : Prop := ∃ a b c : Int, H p = some (.lst [.int a, .int b, .int c]) ∧ 0 ≤ b ∧ b < 2147483648 ∧ 0 ≤ c ∧ c ≤ n
def Keep (d : Addr) (H H' : Hp) : Prop := ∀ p o, p ≠ d → H p = some o → H' p = some o
theorem Keep.refl (d : Addr) (H : Hp) : Keep d H H := fun _ _ _ h => h
theorem Keep.trans {d : Addr} {H H1 H2 : Hp} (a : Keep d H H1) (b : Keep d H1 H2) : Keep d H H2 := fun p o n h => b p o n (a p o n h)
theorem Keep.upd {d : Addr} {H H1 : Hp} {o : HO} (a : Keep d H H1) : Keep d H (L2.upd H1 d o) := fun p u n h => by rw [upd_ne n]; exact a p u n h
theorem Keep.new {d p : Addr} {H H1 : Hp} {o : HO} (a : Keep d H H1) (hp : H p = none) : Keep d H (L2.upd H1 p o) := fun q u n h => by rw [upd_ne (ne_of_none h hp)]; exact a q u n h
theorem Keep.back {d p : Addr} {H H1 : Hp} (a : Keep d H H1) (n : p ≠ d) (h : H1 p = none) : H p = none := by
  cases hh : H p with
  | none => rfl
  | some o => rw [a p o n hh] at h; cases h
theorem PD.other {H : Hp} {p q : Addr} {n : Nat} {o : HO} (D : PD H p n) (h : q ≠ p) : PD (upd H q o) p n := by
  obtain ⟨a, b, c, e, r⟩ := D
  exact ⟨a, b, c, by rw [upd_ne (Ne.symm h)]; exact e, r⟩
theorem PD.ne {H : Hp} {p q : Addr} {n : Nat} (D : PD H p n) (h : H q = none) : q ≠ p := by
  obtain ⟨a, b, c, e, r⟩ := D
  exact Ne.symm (ne_of_none e h)
theorem PD.new {H : Hp} {p q : Addr} {n : Nat} {o : HO} (D : PD H p n) (h : H q = none) : PD (upd H q o) p n := D.other (D.ne h)
theorem PD.mono {H : Hp} {p : Addr} {n m : Nat} (D : PD H p n) (h : n ≤ m) : PD H p m := by
  obtain ⟨a, b, c, e, h1, h2, h3, h4⟩ := D
  exact ⟨a, b, c, e, h1, h2, h3, by omega⟩
theorem PD.at {H : Hp} {p : Addr} {n : Nat} (D : PD H p n) : ∃ xs, H p = some (.lst xs) := by
  obtain ⟨a, b, c, e, r⟩ := D
  exact ⟨_, e⟩
def spPool (K : PySem.W.Frag) : Sp := fun vs H Q _ => ∃ (a : Addr) (ns : List Int) (k : Nat), vs = [.ref a, .int k] ∧ SqL K H a (ns.map V.int) ∧ ns.length ≤ 63 ∧ k < 100 ∧ ∀ p H', H p = none → Same H H' → PD H' p 200000 → Q (.ref p) H'
def spDrawP : Sp := fun vs H Q _ => ∃ (p : Addr) (m : Int) (n : Nat), vs = [.ref p, .int m] ∧ PD H p n ∧ n ≤ 1000000 ∧ 0 < m ∧ m.natAbs.log2 < 9000 ∧ ∀ r H', 0 ≤ r → r < m → PD H' p (n + 1) → Keep p H H' → Q (.int r) H'
section
variable {P : Program} {w : World} {K : PySem.W.Frag} {mg : Str → Option Value} {base : Heap}
theorem ok__law_pool (T : TxtW w K mg) : Def P w K mg base 1 "_law_pool" ["_law_script", "_law_place"] (spPool K) := by
  obtain ⟨f, fd, h⟩ := T.d__law_pool
  refine h.def (Fun.okM h.fn sc__law_pool (fun vs H Q E h => ?_) (fun cdv A outer s H vs Q E hr h => ?_))
  · obtain ⟨a, ns, k, rfl, _⟩ := h
    rfl
  · obtain ⟨a, ns, kk, rfl, hS, hlen, hk, k⟩ := h
    refine ⟨_, (pss_cons (ps_set (i := 2) sc__law_pool.nd rfl (Or.inl rfl) pe_int)
  (Evl.pss_cut (ps_if (pt_cmpR op_ltG (pv 1) (pe_callB (call_lenG (K := K) rfl) (by rfl) T.h_len (by decide +kernel) (pa_cons (pv 0) pa_nil)) (nomark _))
  (pss_one (ps_set (i := 2) sc__law_pool.nd rfl (Or.inl rfl) (pe_callTy call_intG (by rfl) T.h_int (by decide +kernel) (pa_cons (pe_ix (ix_seqG (K := K) rfl) (pv 0) (pv 1) (fun _ _ => rfl)) pa_nil))))
  pss_nil)
  (pss_cons (ps_if (pt_cmpR op_geG (pv 2) (pe_op op_powG' pe_int pe_int) (nomark _))
  (pss_one (ps_ret (pe_lst (pa_cons (pv 2) (pa_cons (pe_op op_modG (pe_callTy call_intG (by rfl) T.h_int (by decide +kernel) (pa_cons (pv 2) pa_nil)) pe_int) (pa_cons (pe_op op_mulG pe_int (pv 1)) pa_nil))))))
  pss_nil)
  (pss_one (ps_ret (pe_lst (pa_cons pe_int (pa_cons (pe_op op_modG (pe_callTy call_intG (by rfl) T.h_int (by decide +kernel) (pa_cons (pv 2) pa_nil)) pe_int) (pa_cons (pe_op op_mulG pe_int (pv 1)) pa_nil))))))))), ?_⟩
    walk_at "g"
    refine g_cutA (M := fun σ' H' => ∃ c : Int, σ' = [some (.ref a), some (.int kk), some (.int c)] ∧ H' = H) (fun D' hn _ _ _ => ?_) ?_
    · walk_at "g"
      refine g_lenL hS ?_
      walk_at "g"
      refine g_dec (fun h0 => ?_) (fun h0 => ?_)
      · walk_at "g"
        have hk2 : kk < ns.length := by rw [List.length_map] at h0; omega
        refine g_ixL hS (v := .int ns[kk]) (atI_nat (j := kk) (by rw [List.getElem?_map, List.getElem?_eq_getElem hk2]; rfl)) ?_
        walk_at "g"
        exact hn _ _ ⟨_, rfl, rfl⟩
      · walk_at "g"
        exact hn _ _ ⟨_, rfl, rfl⟩
    · rintro σ' H' ⟨c, rfl, rfl⟩
      have key : ∀ a' : Int, ∀ p, H' p = none → Q (.ref p) (upd H' p (.lst [.int a', .int (c % 2147483647), .int (1009 * (kk : Int))])) := fun a' p hp =>
        k p _ hp (fun q o h => by rw [upd_ne (ne_of_none h hp)]; exact h) ⟨_, _, _, upd_same, Int.emod_nonneg _ (by decide), by have := Int.emod_lt_of_pos c (b := 2147483647) (by decide); omega, by omega, by omega⟩
      walk_at "G"
      all_goals exact ⟨by show 3 ≤ sizeLine; decide, fun p hp => key _ p hp⟩
theorem ok__law_draw (T : TxtW w K mg) : Def P w K mg base 1 "_law_draw" ["_law_pool_here", "_law_many"] spDrawP := by
  obtain ⟨f, fd, h⟩ := T.d__law_draw
  refine h.def (Fun.okM h.fn sc__law_draw (fun vs H Q E h => ?_) (fun cdv A outer s H vs Q E hr h => ?_))
  · obtain ⟨p, m, n, rfl, _⟩ := h
    rfl
  · obtain ⟨p, m, n, rfl, ⟨a, b, c, e, hb0, hb1, hc0, hc1⟩, hn, hm, hml, k⟩ := h
    refine ⟨_, (pss_cons (ps_if (pt_cmpR op_gtG (pe_ix (ix_seqG (K := K) rfl) (pv 0) pe_int (fun _ _ => rfl)) pe_int (nomark _))
  (pss_cons (ps_set (i := 2) sc__law_draw.nd rfl (Or.inl rfl) (pe_op op_modG (pe_callTy call_intG (by rfl) T.h_int (by decide +kernel) (pa_cons (pe_ix (ix_seqG (K := K) rfl) (pv 0) pe_int (fun _ _ => rfl)) pa_nil)) (pv 1)))
  (pss_cons (ps_asg (pe_op op_fdG (pe_ix (ix_seqG (K := K) rfl) (pv 0) pe_int (fun _ _ => rfl)) (pv 1)) (pg_sub (pv 0) pe_int set_list))
  (pss_one (ps_ret (pv 2)))))
  pss_nil)
  (pss_cons (ps_asg (pe_op op_addG (pe_ix (ix_seqG (K := K) rfl) (pv 0) pe_int (fun _ _ => rfl)) pe_int) (pg_sub (pv 0) pe_int set_list))
  (pss_cons (ps_set (i := 3) sc__law_draw.nd rfl (Or.inl rfl) (pe_op op_modG (pe_callTy call_intG (by rfl) T.h_int (by decide +kernel) (pa_cons (pe_op op_powG' (pe_op op_addG (pe_op op_addG (pe_ix (ix_seqG (K := K) rfl) (pv 0) pe_int (fun _ _ => rfl)) (pe_op op_mulG pe_int (pe_ix (ix_seqG (K := K) rfl) (pv 0) pe_int (fun _ _ => rfl)))) pe_int) pe_int) pa_nil)) pe_int))
  (pss_cons (ps_set (i := 3) sc__law_draw.nd rfl (Or.inl rfl) (pe_op op_modG (pe_callTy call_intG (by rfl) T.h_int (by decide +kernel) (pa_cons (pe_op op_powG' (pe_op op_addG (pe_op op_mulG (pv 3) pe_int) (pe_op op_mulG pe_int (pe_ix (ix_seqG (K := K) rfl) (pv 0) pe_int (fun _ _ => rfl)))) pe_int) pa_nil)) pe_int))
  (pss_cons (ps_set (i := 3) sc__law_draw.nd rfl (Or.inl rfl) (pe_op op_modG (pe_callTy call_intG (by rfl) T.h_int (by decide +kernel) (pa_cons (pe_op op_mulG (pv 3) (pe_op op_addG (pe_op op_fdG (pv 3) pe_int) pe_int)) pa_nil)) pe_int))
  (pss_one (ps_ret (pe_op op_modG (pe_callTy call_intG (by rfl) T.h_int (by decide +kernel) (pa_cons (pe_op op_fdG (pv 3) pe_int) pa_nil)) (pv 1))))))))), ?_⟩
    walk_at "g"
    refine g_dec (fun h0 => ?_) (fun h0 => ?_)
    · walk_at "g"
      refine k _ _ (Int.emod_nonneg _ (by omega)) (Int.emod_lt_of_pos _ hm) ⟨_, _, _, upd_same, hb0, hb1, hc0, by omega⟩ (Keep.refl _ _).upd
    · walk_at "g"
      have m1 : ∀ x : Int, 0 ≤ x % 2147483647 ∧ x % 2147483647 < 2147483647 := fun x => ⟨Int.emod_nonneg _ (by decide), Int.emod_lt_of_pos _ (by decide)⟩
      have m2 : ∀ x : Int, 0 ≤ x % 2147483629 ∧ x % 2147483629 < 2147483629 := fun x => ⟨Int.emod_nonneg _ (by decide), Int.emod_lt_of_pos _ (by decide)⟩
      refine k _ _ (Int.emod_nonneg _ (by omega)) (Int.emod_lt_of_pos _ hm) ⟨_, _, _, upd_same, hb0, hb1, by omega, by omega⟩ (Keep.refl _ _).upd
end
def kS (k : Bool) : Str := if k = true then "text" else "number"
theorem kS_inj {a b : Bool} (h : kS a = kS b) : a = b := by
  revert h
  cases a <;> cases b <;> decide +kernel
/-! columns, orders, rows -/
def LAt (H : Hp) (L : Addr) (ts : List (List V)) : Prop := ∃ qs : List Addr, H L = some (.lst (qs.map V.ref)) ∧ qs.length = ts.length ∧ ∀ (i : Nat) (q : Addr) (t : List V), qs[i]? = some q → ts[i]? = some t → H q = some (.tup t)
theorem LAt.keep {H H' : Hp} {L : Addr} {ts : List (List V)} (h : LAt H L ts) (k : ∀ q o, H q = some o → H' q = some o) : LAt H' L ts := by
  obtain ⟨qs, h1, h2, h3⟩ := h
  exact ⟨qs, k _ _ h1, h2, fun i q t hq ht => k _ _ (h3 i q t hq ht)⟩
theorem LAt.keepP {H H' : Hp} {L p : Addr} {ts : List (List V)} (h : LAt H L ts) (n : L ≠ p) (hp : ∃ xs, H p = some (.lst xs)) (k : Keep p H H') : LAt H' L ts := by
  obtain ⟨qs, h1, h2, h3⟩ := h
  refine ⟨qs, k _ _ n h1, h2, fun i q t hq ht => ?_⟩
  have e := h3 i q t hq ht
  exact k _ _ (fun z => by obtain ⟨xs, hx⟩ := hp; rw [z, hx] at e; cases e) e
theorem LAt.app {H : Hp} {L t : Addr} {ts : List (List V)} {qs : List Addr} {x : List V} (h : LAt H L ts) (e : H L = some (.lst (qs.map V.ref))) (ht : H t = none) :
    LAt (upd (upd H t (.tup x)) L (.lst (qs.map V.ref ++ [.ref t]))) L (ts ++ [x]) := by
  obtain ⟨qs', h1, h2, h3⟩ := h
  obtain rfl : qs' = qs := by
    rw [e] at h1
    injection h1 with e
    injection e with e
    exact ((List.map_inj_right (fun a b h => by injection h)).mp e).symm
  have nt : L ≠ t := ne_of_none e ht
  refine ⟨qs' ++ [t], by rw [upd_same, List.map_append]; rfl, by rw [List.length_append, List.length_append, h2]; rfl, fun i q u hq hu => ?_⟩
  by_cases hlt : i < qs'.length
  · rw [List.getElem?_append_left hlt] at hq
    rw [List.getElem?_append_left (by omega)] at hu
    have e' := h3 i q u hq hu
    rw [upd_ne (fun z => by rw [z, e] at e'; cases e'), upd_ne (ne_of_none e' ht)]
    exact e'
  · rw [List.getElem?_append_right (by omega)] at hq
    rw [List.getElem?_append_right (by omega), ← h2] at hu
    obtain ⟨hi0, _⟩ := List.getElem?_eq_some_iff.mp hq
    have : i - qs'.length = 0 := by simpa using hi0
    rw [this] at hq hu
    obtain rfl : t = q := by simpa using hq
    obtain rfl : x = u := by simpa using hu
    rw [upd_ne (Ne.symm nt)]
    exact upd_same
theorem LAt.get {H : Hp} {L : Addr} {ts : List (List V)} (h : LAt H L ts) {qs : List Addr} (e : H L = some (.lst (qs.map V.ref))) : qs.length = ts.length ∧ ∀ (i : Nat) (q : Addr) (t : List V), qs[i]? = some q → ts[i]? = some t → H q = some (.tup t) := by
  obtain ⟨qs', h1, h2, h3⟩ := h
  obtain rfl : qs' = qs := by
    rw [e] at h1
    injection h1 with e
    injection e with e
    exact ((List.map_inj_right (fun a b h => by injection h)).mp e).symm
  exact ⟨h2, h3⟩
abbrev Col := Str × Bool × Bool
def ct (c : Col) : List V := [.str c.1, .str (kS c.2.1), .bl c.2.2]
def dS (up : Bool) : Str := if up = true then "up" else "down"
def pt (c : Str × Bool) : List V := [.str c.1, .str (dS c.2)]
def kdA (cs : List Col) : Str → Option Bool := cs.foldl (fun f x => fun c => if c = x.1 then some x.2.1 else f c) (fun _ => none)
theorem kdA_app {cs : List Col} {x : Col} {c : Str} : kdA (cs ++ [x]) c = if c = x.1 then some x.2.1 else kdA cs c := by
  unfold kdA
  rw [List.foldl_append]
  rfl
theorem kdA_mem {cs : List Col} {x : Col} (h : x ∈ cs) : ∃ kd, kdA cs x.1 = some kd := by
  have key : ∀ (r : List Col) (l : List Col), x ∈ l ++ r → (x ∈ l → ∃ kd, kdA l x.1 = some kd) → ∃ kd, kdA (l ++ r) x.1 = some kd := by
    intro r
    induction r with
    | nil => intro l h k; rw [List.append_nil] at h ⊢; exact k h
    | cons y r ih =>
      intro l h k
      have e : l ++ y :: r = (l ++ [y]) ++ r := by simp
      rw [e] at h ⊢
      refine ih (l ++ [y]) h fun hm => ?_
      rw [kdA_app]
      by_cases hx : x.1 = y.1
      · rw [if_pos hx]; exact ⟨_, rfl⟩
      · rw [if_neg hx]
        rcases List.mem_append.mp hm with hm | hm
        · exact k hm
        · exact absurd (by rw [List.mem_singleton.mp hm]) hx
  exact key cs [] h fun hm => nomatch hm
theorem strs_of : ∀ {ys : List V}, (∀ y ∈ ys, ∃ z, y = .str z) → ∃ xs : List Str, ys = xs.map V.str
  | [], _ => ⟨[], rfl⟩
  | y :: ys, h => by
    obtain ⟨z, rfl⟩ := h y List.mem_cons_self
    obtain ⟨xs, rfl⟩ := strs_of fun y hy => h y (List.mem_cons_of_mem _ hy)
    exact ⟨z :: xs, rfl⟩
abbrev XT (H H' : Hp) : Prop := ∀ q o, H q = some o → H' q = some o
theorem XT.new {H H1 : Hp} {t : Addr} {o : HO} (k : XT H H1) (h : H1 t = none) : XT H (upd H1 t o) := fun q u e => by rw [upd_ne (ne_of_none (k q u e) h)]; exact k q u e
theorem XT.pool {H H1 H2 : Hp} {p : Addr} (k : XT H H1) (h : H p = none) (K : Keep p H1 H2) : XT H H2 := fun q u e => K q u (ne_of_none e h) (k q u e)
theorem xtL {K : PySem.W.Frag} {H H' : Hp} {a : Addr} {xs : List V} (h : SqL K H a xs) (k : XT H H') : SqL K H' a xs := by
  rcases h with h | h
  · rcases h with h | ⟨o, h⟩
    · exact .inl (.inl (k _ _ h))
    · exact .inl (.inr ⟨o, k _ _ h⟩)
  · exact .inr h
theorem XT.trans {H H1 H2 : Hp} (a : XT H H1) (b : XT H1 H2) : XT H H2 := fun q o h => b q o (a q o h)

/-- a comprehension with a promise over what it has taken -/
theorem lc_inv {σ : L2.St} {g : TG} {tt : TT} {te : TE} {vs : List Nat} {J : It} {H1 : Hp} {D : Addr} {Qd : Hp → Prop} (xs : List V) (Pv : Nat → List V → Hp → Prop) (h0 : Pv 0 [] (upd H1 D (.lst []))) (hJ : ∀ i acc H, Pv i acc H → Fits J xs H) (hlen : xs.length ≤ 1000000)
    (hD : ∀ i acc H, Pv i acc H → H D = some (.lst acc) ∧ acc.length ≤ i)
    (hs : ∀ i acc x Hh (R : V → Hp → Prop) (S : Hp → Prop), xs[i]? = some x → Pv i acc Hh → (∀ y H4, H4 D = some (.lst acc) → Pv (i + 1) (acc ++ [y]) (upd H4 D (.lst (acc ++ [y]))) → R y H4) → (∀ H3, Pv (i + 1) acc H3 → S H3) →
      g x (wipe σ vs) Hh fun σ2 H2 => wipe σ2 vs = wipe σ vs ∧ tt σ2 H2 fun b H3 => if b = true then te σ2 H3 R else S H3)
    (hd : ∀ acc H, Pv xs.length acc H → Qd H) :
    ∃ W : Nat → Nat → Hp → Prop, (∃ m, W 0 m (upd H1 D (.lst []))) ∧ ∀ i m H, W i m H →
      (J.stop i H ∧ Qd H) ∨ (J.go i H ∧ ∃ Nx : Hp → Prop, (∀ H', Nx H' → ∃ m', m' < m ∧ W (i + 1) m' H') ∧ ∀ x H', J.yld i H x H' → g x (wipe σ vs) H' fun σ2 H2 => wipe σ2 vs = wipe σ vs ∧ tt σ2 H2 fun b H3 =>
        if b = true then te σ2 H3 fun y H4 => ∃ acc, H4 D = some (.lst acc) ∧ acc.length < sizeLine ∧ Nx (upd H4 D (.lst (acc ++ [y]))) else Nx H3) := by
  refine ⟨fun i m H => m = xs.length - i ∧ i ≤ xs.length ∧ ∃ acc, Pv i acc H, ⟨xs.length, by simp, Nat.zero_le _, [], h0⟩, ?_⟩
  rintro i m H ⟨rfl, hi, acc, hp⟩
  have fi := hJ i acc H hp
  by_cases hlt : i < xs.length
  · refine .inr ⟨fi.go i hlt, fun H' => ∃ acc, Pv (i + 1) acc H', fun H' w => ⟨xs.length - (i + 1), by omega, rfl, hlt, w⟩, ?_⟩
    intro x H' hy
    obtain ⟨rfl, hx⟩ := fi.yld i x H' hy
    obtain ⟨d1, d2⟩ := hD i acc _ hp
    exact hs i acc x _ _ _ hx hp (fun y H4 e q => ⟨acc, e, by rw [sizeLine_eq]; omega, _, q⟩) (fun H3 q => ⟨_, q⟩)
  · have e : i = xs.length := by omega
    subst e
    exact .inl ⟨fi.stop _ (Nat.le_refl _), hd acc H hp⟩

theorem TyOf7.keep {H H' : Hp} {v : V} {T : String} (h : TyOf7 H v T) (k : XT H H') : TyOf7 H' v T := by
  cases h with
  | non => exact .non
  | bl b => exact .bl b
  | int i => exact .int i
  | str z => exact .str z
  | lst h => exact .lst (k _ _ h)
  | tup h => exact .tup (k _ _ h)
  | dct h => exact .dct (k _ _ h)
theorem XT.refl {H : Hp} : XT H H := fun _ _ h => h
theorem kit_seq {K : PySem.W.Frag} : ∀ T ∈ kinds7, PySem.W.kitAny K (.type T) [.type "list", .type "tuple"] = some (decide (T = "list" ∨ T = "tuple")) := by
  intro T h
  unfold kinds7 at h
  simp only [List.mem_cons, List.not_mem_nil, or_false] at h
  rcases h with rfl | rfl | rfl | rfl | rfl | rfl | rfl
  · exact kitAny_cons (b := false) (kit_ty (by decide +kernel)) (fun _ => kitAny_cons (b := false) (kit_ty (by decide +kernel)) (fun _ => rfl) (fun z => nomatch z)) (fun z => nomatch z)
  · exact kitAny_cons (b := false) (kit_ty (by decide +kernel)) (fun _ => kitAny_cons (b := false) (kit_ty (by decide +kernel)) (fun _ => rfl) (fun z => nomatch z)) (fun z => nomatch z)
  · exact kitAny_cons (b := false) (kit_ty (by decide +kernel)) (fun _ => kitAny_cons (b := false) (kit_ty (by decide +kernel)) (fun _ => rfl) (fun z => nomatch z)) (fun z => nomatch z)
  · exact kitAny_cons (b := false) (kit_ty (by decide +kernel)) (fun _ => kitAny_cons (b := false) (kit_ty (by decide +kernel)) (fun _ => rfl) (fun z => nomatch z)) (fun z => nomatch z)
  · exact kitAny_cons (b := true) (kit_ty (by decide +kernel)) (fun z => nomatch z) (fun _ => by decide)
  · exact kitAny_cons (b := false) (kit_ty (by decide +kernel)) (fun _ => kitAny_cons (b := true) (kit_ty (by decide +kernel)) (fun z => nomatch z) (fun _ => by decide)) (fun z => nomatch z)
  · exact kitAny_cons (b := false) (kit_ty (by decide +kernel)) (fun _ => kitAny_cons (b := false) (kit_ty (by decide +kernel)) (fun _ => rfl) (fun z => nomatch z)) (fun z => nomatch z)
def spSeqX (K : PySem.W.Frag) : Sp := fun vs H Q _ => ∃ v Tn, vs = [v] ∧ Tn ∈ kinds7 ∧ (∀ H', XT H H' → TyX K H' v (.type Tn)) ∧ ∀ H', XT H H' → Q (.bl (decide (Tn = "list" ∨ Tn = "tuple"))) H'
section
variable {P : Program} {w : World} {K : PySem.W.Frag} {mg : Str → Option Value} {base : Heap}
theorem ok_is_sequence (T : TxtW w K mg) : Def P w K mg base 1 "is_sequence" ["thing"] (spSeqX K) := by
  obtain ⟨f, fd, h⟩ := T.d_is_sequence
  refine h.def (Fun.okM h.fn sc_is_sequence (fun vs H Q E h => ?_) (fun cdv A outer s H vs Q E hr h => ?_))
  · obtain ⟨v, Tn, rfl, _⟩ := h
    rfl
  · obtain ⟨v, Tn, rfl, hT, ty, k⟩ := h
    refine ⟨_, (pss_one (ps_ret (pe_callB call_isiT (by rfl) T.h_isinstance (by decide +kernel) (pa_cons (pv 0) (pa_cons (pe_tup (pa_cons (pe_bltn (v := .ty "list") (by rfl) T.h_list (by decide +kernel) rfl) (pa_cons (pe_bltn (v := .ty "tuple") (by rfl) T.h_tuple (by decide +kernel) rfl) pa_nil))) pa_nil))))), ?_⟩
    walk_at "g"
    refine ⟨by show 2 ≤ sizeLine; decide, fun t ht => ?_⟩
    walk_at "g"
    have kt : XT H (upd H t (.tup [.ty "list", .ty "tuple"])) := fun q o h => by rw [upd_ne (ne_of_none h ht)]; exact h
    refine ⟨v, t, _, _, _, _, rfl, upd_same, .cons (.ty "list") (.cons (.ty "tuple") .nil), ty _ kt, kit_seq Tn hT, ?_⟩
    walk_at "g"
    exact k _ kt
end
/-! shapes without checks and keys -/
def spShort (K : PySem.W.Frag) : Sp := fun vs H Q _ => ∃ (v : V) (a b : Int), vs = [v, .int a, .int b] ∧
  ((∃ Tn, Tn ∈ kinds7 ∧ TyOf7 H v Tn ∧ Tn ≠ "list" ∧ Tn ≠ "tuple" ∧ ∀ H', XT H H' → Q (.bl false) H') ∨
   (∃ p xs, v = .ref p ∧ (H p = some (.lst xs) ∨ SqT K H p xs) ∧ ∀ H', XT H H' → Q (.bl (decide (a ≤ (xs.length : Int)) && decide ((xs.length : Int) ≤ b))) H'))
theorem xtT {K : PySem.W.Frag} {H H' : Hp} {a : Addr} {xs : List V} (h : SqT K H a xs) (k : XT H H') : SqT K H' a xs := by
  rcases h with h | h
  · rcases h with h | ⟨o, h⟩
    · exact .inl (.inl (k _ _ h))
    · exact .inl (.inr ⟨o, k _ _ h⟩)
  · exact .inr h
def keysP (kvs : List (Key × V)) (S : List Str) : Prop := ∀ z : Str, (valV kvs (Sum.inr z)).isSome = decide (z ∈ S)
theorem keysP.nil : keysP [] [] := fun z => rfl
theorem keysP.put {kvs : List (Key × V)} {S : List Str} {c : Str} {v : V} (h : keysP kvs S) : keysP (putK kvs (Sum.inr c) v) (S ++ [c]) := fun z => by
  rw [valV_put]
  by_cases e : z = c
  · rw [if_pos (by rw [e]), e]
    exact (decide_eq_true (List.mem_append.mpr (.inr (List.mem_singleton.mpr rfl)))).symm
  · rw [if_neg (fun h => e (by injection h)), h z]
    exact decide_eq_decide.mpr ⟨fun h => List.mem_append.mpr (.inl h), fun h => (List.mem_append.mp h).elim id fun h => absurd (List.mem_singleton.mp h) e⟩
structure ColsOk (cs : List Col) : Prop where
  ne : 1 ≤ cs.length
  le : cs.length ≤ 12
  nm : ∀ c ∈ cs, nameP c.1
  nd : (cs.map (·.1)).Nodup
/-- the columns by their names -/
def SpotsAt (H : Hp) (kvs : List (Key × V)) (cs : List Col) : Prop := ∀ (j : Nat) c, cs[j]? = some c → ∃ q, valV kvs (Sum.inr c.1) = some (.ref q) ∧ H q = some (.tup (ct c))
theorem SpotsAt.keep {H H' : Hp} {kvs : List (Key × V)} {cs : List Col} (h : SpotsAt H kvs cs) (k : XT H H') : SpotsAt H' kvs cs := fun j c hc => by
  obtain ⟨q, h1, h2⟩ := h j c hc
  exact ⟨q, h1, k _ _ h2⟩
theorem SpotsAt.keepN {H H' : Hp} {x : Addr} {o : HO} {kvs : List (Key × V)} {cs : List Col} (h : SpotsAt H kvs cs) (hx : H x = some o) (no : ∀ l, o ≠ .tup l) (k : ∀ q o, q ≠ x → H q = some o → H' q = some o) : SpotsAt H' kvs cs := fun j c hc => by
  obtain ⟨q, h1, h2⟩ := h j c hc
  exact ⟨q, h1, k _ _ (fun z => by rw [z, hx] at h2; exact no _ (by injection h2)) h2⟩
/-- a shape made of the columns cs -/
def ShapeAt (C : Addr) (H : Hp) (cs : List Col) (x : Addr) : Prop := ∃ dx fs D kvs, H x = some (.ins C dx fs) ∧ fs.lookup ("spots" : Str) = some (V.ref D) ∧ H D = some (.dK kvs) ∧ keysP kvs (cs.map (·.1)) ∧ SpotsAt H kvs cs
theorem ShapeAt.keep {C x : Addr} {H H' : Hp} {cs : List Col} (h : ShapeAt C H cs x) (k : XT H H') : ShapeAt C H' cs x := by
  obtain ⟨dx, fs, D, kvs, h1, h2, h3, h4, h5⟩ := h
  exact ⟨dx, fs, D, kvs, k _ _ h1, h2, k _ _ h3, h4, h5.keep k⟩
theorem g_dput {σ : L2.St} {H : Hp} {D : Ends} {td ty tv : TE} (q : tv σ H fun v H1 => td σ H1 fun x H2 => ty σ H2 fun y H3 => ∃ a H4, x = .ref a ∧ DPut H3 a y v H4 ∧ D.nx σ H4) : sDPut td ty tv D σ H := q
section
variable {P : Program} {w : World} {K : PySem.W.Frag} {mg : Str → Option Value} {base : Heap}
theorem ok_is_short (T : TxtW w K mg) : Def P w K mg base 2 "is_short" ["thing", "least", "most"] (spShort K) := by
  obtain ⟨f, fd, h⟩ := T.d_is_short
  refine h.def (Fun.okM h.fn sc_is_short (fun vs H Q E h => ?_) (fun cdv A outer s H vs Q E hr h => ?_))
  · obtain ⟨v, a, b, rfl, _⟩ := h
    rfl
  · obtain ⟨v, a, b, rfl, h⟩ := h
    refine ⟨_, (pss_one (ps_ret (pe_and (pe_def (ok_is_sequence T) hr rfl (pa_cons (pv 0) pa_nil)) (pe_and (pe_cmpR op_leG (pv 1) (pe_callB (call_lenG (K := K) rfl) (by rfl) T.h_len (by decide +kernel) (pa_cons (pv 0) pa_nil)) (nomark _)) (pe_one (pe_cmpR op_leG (pe_callB (call_lenG (K := K) rfl) (by rfl) T.h_len (by decide +kernel) (pa_cons (pv 0) pa_nil)) (pv 2) (nomark _))))))), ?_⟩
    rcases h with ⟨Tn, hT, ty, n1, n2, k⟩ | ⟨p, xs, rfl, hp, k⟩
    · walk_at "g"
      refine ⟨v, Tn, rfl, hT, fun H' x => (ty.keep x).x K, fun H' x => ?_⟩
      rw [decide_eq_false (fun h => h.elim n1 n2)]
      walk_at "g"
      exact k _ x
    · rcases hp with hp | hp
      · walk_at "g"
        refine ⟨.ref p, "list", rfl, by decide, fun H' x => .base (.lst (x _ _ hp)), fun H' x => ?_⟩
        rw [show decide ("list" = "list" ∨ "list" = "tuple") = true by decide]
        walk_at "g"
        refine g_lenL (SqL.of (x _ _ hp)) ?_
        walk_at "g"
        by_cases ha : a ≤ (xs.length : Int)
        · rw [decide_eq_true ha]
          walk_at "g"
          refine g_lenL (SqL.of (x _ _ hp)) ?_
          walk_at "g"
          have := k _ x
          rw [decide_eq_true ha, Bool.true_and] at this
          exact this
        · rw [decide_eq_false ha]
          walk_at "g"
          have := k _ x
          rw [decide_eq_false ha, Bool.false_and] at this
          exact this
      · walk_at "g"
        refine ⟨.ref p, "tuple", rfl, by decide, fun H' x => tyx_t (xtT hp x), fun H' x => ?_⟩
        rw [show decide ("tuple" = "list" ∨ "tuple" = "tuple") = true by decide]
        walk_at "g"
        refine g_lenT (xtT hp x) ?_
        walk_at "g"
        by_cases ha : a ≤ (xs.length : Int)
        · rw [decide_eq_true ha]
          walk_at "g"
          refine g_lenT (xtT hp x) ?_
          walk_at "g"
          have := k _ x
          rw [decide_eq_true ha, Bool.true_and] at this
          exact this
        · rw [decide_eq_false ha]
          walk_at "g"
          have := k _ x
          rw [decide_eq_false ha, Bool.false_and] at this
          exact this
end
/-! names, orders and steps that are right -/
theorem nodup_len {xs zs : List Str} (h : zs.Nodup) (m : ∀ k, k ∈ zs ↔ k ∈ xs) (n : xs.Nodup) : zs.length = xs.length :=
  ((List.perm_ext_iff_of_nodup h n).mpr m).length_eq
def spWorded (K : PySem.W.Frag) : Sp := fun vs H Q _ => ∃ (p : Addr) (z : Str) (r : List V), vs = [.ref p] ∧ H p = some (.tup (.str z :: r)) ∧ r.length ≤ 5 ∧ ∀ H', XT H H' → Q (.bl true) H'
def spAreNames : Sp := fun vs H Q _ => ∃ (l : Addr) (ns : List Str) (a b : Int), vs = [.ref l, .int a, .int b] ∧ H l = some (.lst (ns.map V.str)) ∧ (∀ n ∈ ns, nameP n) ∧ ns.Nodup ∧ a ≤ ns.length ∧ (ns.length : Int) ≤ b ∧ ns.length ≤ 12 ∧ ∀ H', XT H H' → Q (.bl true) H'
section
variable {P : Program} {w : World} {K : PySem.W.Frag} {mg : Str → Option Value} {base : Heap}
theorem ok_is_worded (T : TxtW w K mg) : Def P w K mg base 2 "is_worded" ["thing"] (spWorded K) := by
  obtain ⟨f, fd, h⟩ := T.d_is_worded
  refine h.def (Fun.okM h.fn sc_is_worded (fun vs H Q E h => ?_) (fun cdv A outer s H vs Q E hr h => ?_))
  · obtain ⟨p, z, r, rfl, _⟩ := h
    rfl
  · obtain ⟨p, z, r, rfl, hp, hr5, k⟩ := h
    refine ⟨_, (pss_one (ps_ret (pe_and (pe_def (ok_is_sequence T) hr rfl (pa_cons (pv 0) pa_nil)) (pe_and (pe_cmpR op_gtG (pe_callB (call_lenG (K := K) rfl) (by rfl) T.h_len (by decide +kernel) (pa_cons (pv 0) pa_nil)) pe_int (nomark _)) (pe_one (pe_callB (call_isiG (K := K) rfl) (by rfl) T.h_isinstance (by decide +kernel) (pa_cons (pe_ix (ix_seqG (K := K) rfl) (pv 0) pe_int (fun _ _ => rfl)) (pa_cons (pe_bltn (v := .ty "str") (by rfl) T.h_str (by decide +kernel) rfl) pa_nil)))))))), ?_⟩
    walk_at "g"
    refine ⟨.ref p, "tuple", rfl, by decide, fun H' x => tyx_t (SqT.of (x _ _ hp)), fun H1 x1 => ?_⟩
    have h1 := x1 _ _ hp
    rw [show decide ("tuple" = "list" ∨ "tuple" = "tuple") = true by decide]
    walk_at "g"
    refine g_lenT (SqT.of h1) ?_
    walk_at "g"
    rw [decide_eq_true (show (0 : Int) < (((.str z : V) :: r).length : Int) by rw [List.length_cons]; omega)]
    walk_at "g"
    refine g_ixT (SqT.of h1) (v := .str z) (atI_nat (j := 0) rfl) ?_
    walk_at "g"
    exact k _ x1
theorem ok_are_names (T : TxtW w K mg) : Def P w K mg base 3 "are_names" ["thing", "least", "most"] spAreNames := by
  obtain ⟨f, fd, h⟩ := T.d_are_names
  refine h.def (Fun.okM h.fn sc_are_names (fun vs H Q E h => ?_) (fun cdv A outer s H vs Q E hr h => ?_))
  · obtain ⟨l, ns, a, b, rfl, _⟩ := h
    rfl
  · obtain ⟨l, ns, a, b, rfl, hl, hn, nd, ha, hb, h12, k⟩ := h
    refine ⟨_, (pss_cons (ps_if (PW.pt (pw_or (pt_not (pt_val (pe_def (ok_is_short T) hr rfl (pa_cons (pv 0) (pa_cons (pv 1) (pa_cons (pv 2) pa_nil)))))) (pw_or1 (pt_not (pt_val (pe_callB (cr_all rfl) (by rfl) T.h_all (by decide +kernel) (pa_cons (pe_lc (own := [("name", 3)]) rfl sc_are_names.nd (pi_list (pv 0)) (blkOk_by (N := N_are_names) (sc := defScope S_are_names) (by decide +kernel)) (fun _ _ _ _ _ => pg_name (i := 3) sc_are_names.nd rfl (Or.inl rfl)) (fun _ _ _ _ _ => pts_nil) (fun _ _ _ _ _ => (pe_def (ok_is_name T) hr rfl (pa_cons (pv 3) pa_nil)))) pa_nil)))))))
  (pss_one (ps_ret pe_bl))
  pss_nil)
  (pss_one (ps_ret (pe_cmpR op_eq (pe_lenSetX (K := K) rfl rfl rfl T.h_len rfl T.h_set (pv 0)) (pe_callB (call_lenG (K := K) rfl) (by rfl) T.h_len (by decide +kernel) (pa_cons (pv 0) pa_nil)) (nomark _))))), ?_⟩
    walk_at "g"
    refine ⟨.ref l, a, b, rfl, .inr ⟨l, _, rfl, .inl hl, fun H1 x1 => ?_⟩⟩
    rw [show (decide (a ≤ ((ns.map V.str).length : Int)) && decide (((ns.map V.str).length : Int) ≤ b)) = true by rw [List.length_map, decide_eq_true ha, decide_eq_true hb]; rfl]
    have hl1 := x1 _ _ hl
    walk_at "g"
    refine ⟨l, rfl, ⟨_, SqL.of hl1⟩, fun D hD => ?_⟩
    refine lc_new (ns.map V.str) (fun i y _ => y = .bl true) hD (fun H2 k2 => fits_l (SqL.of (k2 _ _ hl1))) (by rw [List.length_map]; omega) (fun i y Ha Hb _ h _ => h) (fun i y Hh R S hy kh _ hR => ?_) (fun H2 ys x2 hW hyl hys => ?_)
    · rw [List.getElem?_map] at hy
      obtain ⟨z, hz, rfl⟩ := Option.map_eq_some_iff.mp hy
      have hnz := hn z (List.mem_of_getElem? hz)
      walk_at "g"
      refine ⟨rfl, ?_⟩
      walk_at "g"
      refine ⟨_, rfl, .inr (.inr (.inr (.inl ⟨_, rfl, by have := hnz.2.1; omega⟩))), fun H3 x3 => ?_⟩
      rw [nameB_str.mpr hnz]
      exact hR _ _ x3 rfl
    · obtain rfl : ys = (ns.map fun _ => true).map V.bl := by
        refine List.ext_getElem (by rw [hyl, List.length_map, List.length_map, List.length_map]) fun i g1 g2 => ?_
        rw [hys i _ (List.getElem?_eq_getElem g1), List.getElem_map, List.getElem_map]
      have hl2 := x2 _ _ hl1
      walk_at "g"
      refine ⟨D, ns.map fun _ => true, rfl, SqL.of hW, ?_⟩
      rw [show (ns.map fun _ => true).all id = true by rw [List.all_map]; exact List.all_eq_true.mpr fun _ _ => rfl]
      walk_at "g"
      refine g_lenSetX ?_
      walk_at "g"
      refine ⟨l, ns, rfl, .inl (SqL.of hl2), by have : (20 : Nat) < scanBound := by decide
                                                omega, fun zs z1 z2 z3 => ?_⟩
      walk_at "g"
      rw [List.length_map, nodup_len z1 z2 nd, decide_eq_true (rfl : (ns.length : Int) = ns.length)]
      walk_at "g"
      exact k _ (XT.trans x1 x2)
end
/-- an order as a tuple of tuples -/
def OT (H : Hp) (a : Addr) (ps : List (Str × Bool)) : Prop := ∃ qs : List Addr, H a = some (.tup (qs.map V.ref)) ∧ qs.length = ps.length ∧ ∀ (i : Nat) (q : Addr) (c : Str × Bool), qs[i]? = some q → ps[i]? = some c → H q = some (.tup (pt c))
theorem OT.keep {H H' : Hp} {a : Addr} {ps : List (Str × Bool)} (h : OT H a ps) (k : XT H H') : OT H' a ps := by
  obtain ⟨qs, h1, h2, h3⟩ := h
  exact ⟨qs, k _ _ h1, h2, fun i q c hq hc => k _ _ (h3 i q c hq hc)⟩
structure OOk (o : List (Str × Bool)) : Prop where
  ne : 1 ≤ o.length
  le : o.length ≤ 3
  nm : ∀ c ∈ o, nameP c.1
  nd : (o.map (·.1)).Nodup
theorem dS_in {u : Bool} : decide (dS u ∈ [Str.ofString "up", Str.ofString "down"]) = true := by cases u <;> decide +kernel
theorem dS_inj {a b : Bool} (h : dS a = dS b) : a = b := by
  revert h
  cases a <;> cases b <;> decide +kernel
theorem ext_newO {H : Hp} {p : Addr} {o : HO} (hp : H p = none) : ∀ q u, H q = some u → (upd H p o) q = some u := fun q u h => by rw [upd_ne (ne_of_none h hp)]; exact h
def spNeedOrder : Sp := fun vs H Q _ => ∃ (l : Addr) (o : List (Str × Bool)), vs = [.ref l] ∧ LAt H l (o.map pt) ∧ OOk o ∧ ∀ t H', XT H H' → OT H' t o → Q (.ref t) H'
section
variable {P : Program} {w : World} {K : PySem.W.Frag} {mg : Str → Option Value} {base : Heap}
theorem ok_is_part (T : TxtW w K mg) : Def P w K mg base 3 "is_part" ["thing"] (fun vs H Q _ => ∃ (q : Addr) (c : Str × Bool), vs = [.ref q] ∧ H q = some (.tup (pt c)) ∧ nameP c.1 ∧ ∀ H', XT H H' → Q (.bl true) H') := by
  obtain ⟨f, fd, h⟩ := T.d_is_part
  obtain ⟨t_DIRECTIONS, G_DIRECTIONS, Q_DIRECTIONS⟩ := T.k_DIRECTIONS
  refine h.def (Fun.okM h.fn sc_is_part (fun vs H Q E h => ?_) (fun cdv A outer s H vs Q E hr h => ?_))
  · obtain ⟨q, c, rfl, _⟩ := h
    rfl
  · obtain ⟨q, c, rfl, hq, hn, k⟩ := h
    refine ⟨_, (pss_cons (ps_if (PW.pt (pw_or (pt_not (pt_val (pe_def (ok_is_short T) hr rfl (pa_cons (pv 0) (pa_cons pe_int (pa_cons pe_int pa_nil)))))) (pw_or1 (pt_not (pt_val (pe_def (ok_is_name T) hr rfl (pa_cons (pe_ix (ix_seqG (K := K) rfl) (pv 0) pe_int (fun _ _ => rfl)) pa_nil)))))))
  (pss_one (ps_ret pe_bl))
  pss_nil)
  (pss_one (ps_ret (pe_and (pe_callB (call_isiG (K := K) rfl) (by rfl) T.h_isinstance (by decide +kernel) (pa_cons (pe_ix (ix_seqG (K := K) rfl) (pv 0) pe_int (fun _ _ => rfl)) (pa_cons (pe_bltn (v := .ty "str") (by rfl) T.h_str (by decide +kernel) rfl) pa_nil))) (pe_one (pe_cmpR (op_inG (K := K) rfl) (pe_ix (ix_seqG (K := K) rfl) (pv 0) pe_int (fun _ _ => rfl)) (pe_glob (v := .ref t_DIRECTIONS) rfl G_DIRECTIONS rfl) (by rfl))))))), ?_⟩
    walk_at "g"
    refine ⟨_, _, _, rfl, .inr ⟨q, _, rfl, .inr (SqT.of hq), fun H1 x1 => ?_⟩⟩
    have h1 := x1 _ _ hq
    rw [show (decide ((2 : Int) ≤ ((pt c).length : Int)) && decide (((pt c).length : Int) ≤ 2)) = true by rfl]
    walk_at "g"
    refine g_ixT (SqT.of h1) (v := .str c.1) (show atI (pt c) 0 = some (.str c.1) from rfl) ?_
    walk_at "g"
    refine ⟨_, rfl, .inr (.inr (.inr (.inl ⟨_, rfl, by have := hn.2.1; omega⟩))), fun H2 x2 => ?_⟩
    have h2 := x2 _ _ h1
    rw [nameB_str.mpr hn]
    walk_at "g"
    refine g_ixT (SqT.of h2) (v := .str (dS c.2)) (show atI (pt c) 1 = some (.str (dS c.2)) from rfl) ?_
    walk_at "g"
    refine g_ixT (SqT.of h2) (v := .str (dS c.2)) (show atI (pt c) 1 = some (.str (dS c.2)) from rfl) ?_
    walk_at "g"
    refine .inr ⟨_, [Str.ofString "up", Str.ofString "down"].map V.str, rfl, .inr (Q_DIRECTIONS _), rfl, Tw.flat_strs _, ?_⟩
    rw [if_neg Bool.false_ne_true, inV_strs, dS_in]
    exact k _ (XT.trans x1 x2)
theorem ok_need_order (T : TxtW w K mg) : Def P w K mg base 4 "need_order" ["thing"] spNeedOrder := by
  obtain ⟨f, fd, h⟩ := T.d_need_order
  obtain ⟨t_MOST_PARTS, G_MOST_PARTS⟩ := T.k_MOST_PARTS
  refine h.def (Fun.okM h.fn sc_need_order (fun vs H Q E h => ?_) (fun cdv A outer s H vs Q E hr h => ?_))
  · obtain ⟨l, o, rfl, _⟩ := h
    rfl
  · obtain ⟨L, cs, rfl, hC, hcs, k⟩ := h
    obtain ⟨qs, hL, hlen, hcol⟩ := id hC
    rw [List.length_map] at hlen
    have n1 := hcs.ne
    have n2 := hcs.le
    refine ⟨_, (pss_cons (ps_if (pt_not (pt_val (pe_def (ok_is_short T) hr rfl (pa_cons (pv 0) (pa_cons pe_int (pa_cons (pe_glob (v := .int 3) rfl G_MOST_PARTS ⟨_, rfl⟩) pa_nil))))))
  (pss_one ps_never)
  pss_nil)
  (pss_cons (ps_set (i := 1) sc_need_order.nd rfl (Or.inl rfl) pe_dnewK)
  (pss_cons (ps_for PassesOwn.never rfl (pi_enumG (K := K) rfl (by rfl) T.h_enumerate (pa_cons (pv 0) pa_nil)) (pg_tupG (K := K) (n := 2) rfl rfl (pgs_cons (pg_name (i := 2) sc_need_order.nd rfl (Or.inl rfl)) (pgs_cons (pg_name (i := 3) sc_need_order.nd rfl (Or.inl rfl)) pgs_nil)))
  (pss_cons (ps_if (PW.pt (pw_or (pt_not (pt_val (pe_def (ok_is_part T) hr rfl (pa_cons (pv 3) pa_nil)))) (pw_or1 (pt_cmp (pc_din (hu_of hr) (pe_ix (ix_seqG (K := K) rfl) (pv 3) pe_int (fun _ _ => rfl)) (pv 1))))))
  (pss_one ps_never)
  pss_nil)
  (pss_one (ps_dput (hu_of hr) (pv 1) (pe_ix (ix_seqG (K := K) rfl) (pv 3) pe_int (fun _ _ => rfl)) pe_bl rfl))))
  (pss_one (ps_ret (pe_callTy (call_tupleG (K := K) rfl) (by rfl) T.h_tuple (by decide +kernel) (pa_cons (pe_lc (own := [("part", 3)]) rfl sc_need_order.nd (pi_list (pv 0)) (blkOk_by (N := N_need_order) (sc := defScope S_need_order) (by decide +kernel)) (fun _ _ _ _ _ => pg_name (i := 3) sc_need_order.nd rfl (Or.inl rfl)) (fun _ _ _ _ _ => pts_nil) (fun _ _ _ _ _ => (pe_callTy (call_tupleG (K := K) rfl) (by rfl) T.h_tuple (by decide +kernel) (pa_cons (pv 3) pa_nil)))) pa_nil))))))), ?_⟩
    walk_at "g"
    refine ⟨_, _, _, rfl, .inr ⟨L, _, rfl, .inl hL, fun H1 x1 => ?_⟩⟩
    rw [show (decide ((1 : Int) ≤ ((qs.map V.ref).length : Int)) && decide (((qs.map V.ref).length : Int) ≤ 3)) = true by
      rw [List.length_map, decide_eq_true (by omega), decide_eq_true (by omega)]; rfl]
    walk_at "g"
    intro r hr
    have x2 := x1.new (o := .dK []) hr
    have e2 : (upd H1 r (.dK [])) r = some (.dK []) := upd_same
    generalize upd H1 r (.dK []) = H2 at x2 e2
    have hHr : H r = none := by
      cases e : H r with
      | none => rfl
      | some o => rw [x1 _ _ e] at hr; cases hr
    have nr : L ≠ r := fun z => by rw [z, hHr] at hL; cases hL
    walk_at "g"
    refine g_enumG ?_
    walk_at "g"
    refine ⟨L, qs.map V.ref, rfl, .inl (SqL.of (x2 _ _ hL)), fun J hJ => ?_⟩
    refine for_enumA (xs := qs.map V.ref) (fun i σ' H' => ∃ (s2 s3 : Option V) (kvs : List (Key × V)), σ' = [some (.ref L), some (.ref r), s2, s3] ∧ XT H H' ∧ H' r = some (.dK kvs) ∧ keysP kvs ((cs.take i).map (·.1)) ∧ kvs.length ≤ i) ⟨none, none, [], rfl, x2, e2, keysP.nil, Nat.le_refl _⟩ ?_ ?_ ?_
    · rintro i σ' H' hi ⟨s2, s3, kvs, rfl, x3, _⟩
      exact hJ H' (by rw [x3 _ _ hL, x2 _ _ hL])
    · rintro i v t σ' H3 D' hv ⟨s2, s3, kvs, rfl, x3, e3, hk, hkl⟩ ht hnx hct hbk hrt
      rw [List.getElem?_map] at hv
      obtain ⟨q, hq, rfl⟩ := Option.map_eq_some_iff.mp hv
      have hil : i < cs.length := by
        have := (List.getElem?_eq_some_iff.mp hq).1
        omega
      obtain ⟨c, hc⟩ : ∃ c, cs[i]? = some c := ⟨_, List.getElem?_eq_getElem hil⟩
      have eq := hcol i q (pt c) hq (by rw [List.getElem?_map, hc]; rfl)
      have hcm : c ∈ cs := List.mem_of_getElem? hc
      have etk : (cs.take (i + 1)).map (·.1) = (cs.take i).map (·.1) ++ [c.1] := by rw [List.take_succ, hc, List.map_append]; rfl
      have hnot : c.1 ∉ (cs.take i).map (·.1) := fun hm => by
        have hnd := hcs.nd
        have e1 : cs.map (·.1) = (cs.take (i + 1)).map (·.1) ++ (cs.drop (i + 1)).map (·.1) := by rw [← List.map_append, List.take_append_drop]
        rw [e1, etk, List.append_assoc] at hnd
        exact (List.nodup_append.mp hnd).2.2 _ hm _ (List.mem_append.mpr (.inl (List.mem_singleton.mpr rfl))) rfl
      have x4 := x3.new (o := .tup [.int (i : Nat), .ref q]) ht
      have nrt : r ≠ t := ne_of_none e3 ht
      have e4 : (upd H3 t (.tup [.int (i : Nat), .ref q])) r = some (.dK kvs) := by rw [upd_ne nrt]; exact e3
      refine g_gtup upd_same rfl ?_
      refine g_gcons ?_
      walk_at "g"
      refine g_gcons ?_
      walk_at "g"
      refine g_gnil ?_
      generalize upd H3 t (.tup [.int (i : Nat), .ref q]) = H4 at x4 e4
      have eq4 := x4 _ _ eq
      walk_at "g"
      refine ⟨_, _, rfl, eq4, hcs.nm c hcm, fun H5 x5 => ?_⟩
      walk_at "g"
      refine g_ixT (SqT.of (x5 _ _ eq4)) (v := .str c.1) (show atI (pt c) 0 = some (.str c.1) from rfl) ?_
      walk_at "g"
      refine ⟨_, _, rfl, DGet.k (k := Sum.inr c.1) (x5 _ _ e4), ?_⟩
      rw [hk, decide_eq_false hnot]
      walk_at "g"
      refine g_dput ?_
      walk_at "g"
      refine g_ixT (SqT.of (x5 _ _ eq4)) (v := .str c.1) (show atI (pt c) 0 = some (.str c.1) from rfl) ?_
      refine ⟨r, _, rfl, DPut.k (k := Sum.inr c.1) (x5 _ _ e4) (by rw [sizeLine_eq]; omega), ?_⟩
      refine hnx _ _ ⟨_, _, _, rfl, fun q o h => ?_, upd_same, by rw [etk]; exact hk.put, Nat.le_trans (length_putK _ _ _) (by omega)⟩
      rw [upd_ne (fun z => by rw [z, hHr] at h; cases h)]
      exact x5 _ _ (x4 _ _ h)
    · rintro σ' H' ⟨s2, s3, kvs, rfl, x3, _⟩
      have hL3 := x3 _ _ hL
      walk_at "g"
      refine ⟨L, rfl, ⟨_, SqL.of hL3⟩, fun D hD => ?_⟩
      refine lc_new (qs.map V.ref) (fun i y _ => (qs.map V.ref)[i]? = some y) hD (fun H2 k2 => fits_l (SqL.of (k2 _ _ hL3))) (by rw [List.length_map]; omega) (fun i y Ha Hb _ h _ => h) (fun i y Hh R S hy kh _ hR => ?_) (fun H5 ys x5 hW hyl hys => ?_)
      · have hy0 := hy
        rw [List.getElem?_map] at hy
        obtain ⟨q, hqi, rfl⟩ := Option.map_eq_some_iff.mp hy
        have hil : i < cs.length := by
          have := (List.getElem?_eq_some_iff.mp hqi).1
          omega
        obtain ⟨c, hc⟩ : ∃ c, cs[i]? = some c := ⟨_, List.getElem?_eq_getElem hil⟩
        have et := kh _ _ (x3 _ _ (hcol i q (pt c) hqi (by rw [List.getElem?_map, hc]; rfl)))
        walk_at "g"
        refine ⟨rfl, ?_⟩
        walk_at "g"
        refine g_tupT (SqT.of et) ?_
        exact hR _ _ (fun q o h => h) hy0
      · obtain rfl : ys = qs.map V.ref := List.ext_getElem? fun i => by
          by_cases hi : i < ys.length
          · have h1 := hys i _ (List.getElem?_eq_getElem hi)
            rw [List.getElem?_eq_getElem hi, h1]
          · rw [List.getElem?_eq_none (by omega), List.getElem?_eq_none (by omega)]
        walk_at "g"
        refine g_tupL (SqL.of hW) fun t ht => ?_
        walk_at "g"
        refine k t _ (fun q o h => ext_newO ht _ _ (x5 _ _ (x3 _ _ h))) ⟨qs, upd_same, hlen, fun i q c hq hc => ext_newO ht _ _ (x5 _ _ (x3 _ _ (hcol i q (pt c) hq (by rw [List.getElem?_map, hc]; rfl))))⟩
theorem ok_is_order (T : TxtW w K mg) : Def P w K mg base 5 "is_order" ["thing"] (fun vs H Q _ => ∃ (l : Addr) (o : List (Str × Bool)), vs = [.ref l] ∧ LAt H l (o.map pt) ∧ OOk o ∧ ∀ H', XT H H' → Q (.bl true) H') := by
  obtain ⟨f, fd, h⟩ := T.d_is_order
  obtain ⟨fE_BadOrder, EB_BadOrder⟩ := T.x_BadOrder
  refine h.def (Fun.okM h.fn sc_is_order (fun vs H Q E h => ?_) (fun cdv A outer s H vs Q E hr h => ?_))
  · obtain ⟨l, o, rfl, _⟩ := h
    rfl
  · obtain ⟨l, o, rfl, hl, ho, k⟩ := h
    refine ⟨_, (pss_cons (ps_try_only (Wout := fun _ _ _ _ => False) rfl rfl ⟨rfl, by decide, Or.inl EB_BadOrder.gC⟩ takes0 (fun W pn xe tk _ =>
  (pss_one (ps_expr (pe_def (ok_need_order T) hr rfl (pa_cons (pv 0) pa_nil)))))
  (fun a oe cls d pn hz hf => (pss_one (ps_ret pe_bl))))
  (pss_one (ps_ret pe_bl))), ?_⟩
    walk_at "g"
    refine ⟨l, o, rfl, hl, ho, fun t H1 x1 _ => ?_⟩
    walk_at "g"
    exact k _ x1
end
def turnO (o : List (Str × Bool)) : List (Str × Bool) := o.map fun c => (c.1, !c.2)
inductive Stp where
  | keep (t : Ts)
  | sort (o : List (Str × Bool))
  | dist (ns : List Str)
  | first
  | flip
namespace Stp
def word : Stp → Str
  | .keep _ => "keep"
  | .sort _ => "sort"
  | .dist _ => "distinct"
  | .first => "first"
  | .flip => "flip"
end Stp
/-- a step as it is handed in -/
def StIn (C : Addr) (H : Hp) (q : Addr) : Stp → Prop
  | .keep ts => ∃ t, H q = some (.tup [.str "keep", .ref t]) ∧ TestAt C H ts t
  | .sort o => ∃ l, H q = some (.tup [.str "sort", .ref l]) ∧ LAt H l (o.map pt)
  | .dist ns => ∃ l, H q = some (.tup [.str "distinct", .ref l]) ∧ H l = some (.lst (ns.map V.str))
  | .first => H q = some (.tup [.str "first"])
  | .flip => H q = some (.tup [.str "flip"])
def StOk : Stp → Prop
  | .sort o => OOk o
  | .dist ns => (∀ n ∈ ns, nameP n) ∧ ns.Nodup ∧ ns.length ≤ 3
  | _ => True
/-- a step as it is kept -/
def StC (C : Addr) (H : Hp) (q : Addr) : Stp → Prop
  | .keep ts => ∃ t, H q = some (.tup [.str "keep", .ref t]) ∧ TestAt C H ts t
  | .sort o => ∃ t, H q = some (.tup [.str "sort", .ref t]) ∧ OT H t o
  | .dist ns => ∃ t, H q = some (.tup [.str "distinct", .ref t]) ∧ H t = some (.tup (ns.map V.str))
  | .first => H q = some (.tup [.str "first"])
  | .flip => H q = some (.tup [.str "flip"])
theorem StIn.keepX {C : Addr} {H H' : Hp} {q : Addr} {s : Stp} (h : StIn C H q s) (k : XT H H') : StIn C H' q s := by
  cases s with
  | keep ts => obtain ⟨t, a, b⟩ := h; exact ⟨t, k _ _ a, b.keep k⟩
  | sort o => obtain ⟨t, a, b⟩ := h; exact ⟨t, k _ _ a, b.keep k⟩
  | dist ns => obtain ⟨t, a, b⟩ := h; exact ⟨t, k _ _ a, k _ _ b⟩
  | first => exact k _ _ h
  | flip => exact k _ _ h
theorem StC.keepX {C : Addr} {H H' : Hp} {q : Addr} {s : Stp} (h : StC C H q s) (k : XT H H') : StC C H' q s := by
  cases s with
  | keep ts => obtain ⟨t, a, b⟩ := h; exact ⟨t, k _ _ a, b.keep k⟩
  | sort o => obtain ⟨t, a, b⟩ := h; exact ⟨t, k _ _ a, b.keep k⟩
  | dist ns => obtain ⟨t, a, b⟩ := h; exact ⟨t, k _ _ a, k _ _ b⟩
  | first => exact k _ _ h
  | flip => exact k _ _ h
theorem OT.keepN {H H' : Hp} {x a : Addr} {u : HO} {ps : List (Str × Bool)} (h : OT H a ps) (hx : H x = some u) (no : ∀ l, u ≠ .tup l) (k : ∀ q o, q ≠ x → H q = some o → H' q = some o) : OT H' a ps := by
  obtain ⟨qs, h1, h2, h3⟩ := h
  have kt : ∀ {b : Addr} {l : List V}, H b = some (.tup l) → H' b = some (.tup l) := fun {b l} h => k _ _ (fun z => by rw [z, hx] at h; exact no l (by injection h)) h
  exact ⟨qs, kt h1, h2, fun i q c hq hc => kt (h3 i q c hq hc)⟩
theorem StC.keepN {C : Addr} {H H' : Hp} {x q : Addr} {u : HO} {s : Stp} (h : StC C H q s) (hx : H x = some u) (no : ∀ l, u ≠ .tup l) (ni : ∀ dx l, u = .ins C dx l → l = []) (k : ∀ q o, q ≠ x → H q = some o → H' q = some o) : StC C H' q s := by
  have kt : ∀ {b : Addr} {l : List V}, H b = some (.tup l) → H' b = some (.tup l) := fun {b l} h => k _ _ (fun z => by rw [z, hx] at h; exact no l (by injection h)) h
  cases s with
  | keep ts =>
    obtain ⟨t, a, b⟩ := h
    exact ⟨t, kt a, b.keepN (p := x) k fun o ho => by
      rw [hx] at ho
      injection ho with ho
      subst ho
      exact ⟨ni, no⟩⟩
  | sort o => obtain ⟨t, a, b⟩ := h; exact ⟨t, kt a, b.keepN hx no k⟩
  | dist ns => obtain ⟨t, a, b⟩ := h; exact ⟨t, kt a, kt b⟩
  | first => exact kt h
  | flip => exact kt h
theorem StC.head {C : Addr} {H : Hp} {q : Addr} {s : Stp} (h : StC C H q s) : ∃ r, H q = some (.tup (.str s.word :: r)) := by
  cases s with
  | keep ts => obtain ⟨t, a, _⟩ := h; exact ⟨_, a⟩
  | sort o => obtain ⟨t, a, _⟩ := h; exact ⟨_, a⟩
  | dist ns => obtain ⟨t, a, _⟩ := h; exact ⟨_, a⟩
  | first => exact ⟨_, h⟩
  | flip => exact ⟨_, h⟩
def spStepOf (C : Addr) : Sp := fun vs H Q _ => ∃ (q : Addr) (s : Stp), vs = [.ref q] ∧ StIn C H q s ∧ StOk s ∧ ∀ t H', XT H H' → StC C H' t s → Q (.ref t) H'
def spIsStep (C : Addr) : Sp := fun vs H Q _ => ∃ (q : Addr) (s : Stp), vs = [.ref q] ∧ StIn C H q s ∧ StOk s ∧ ∀ H', XT H H' → Q (.bl true) H'
section
variable {P : Program} {w : World} {K : PySem.W.Frag} {mg : Str → Option Value} {base : Heap}
theorem ok_turned (T : TxtW w K mg) : Def P w K mg base 1 "turned" ["order"] (fun vs H Q _ => ∃ (a : Addr) (o : List (Str × Bool)), vs = [.ref a] ∧ OT H a o ∧ o.length ≤ 1000 ∧ ∀ t H', XT H H' → OT H' t (turnO o) → Q (.ref t) H') := by
  obtain ⟨f, fd, h⟩ := T.d_turned
  refine h.def (Fun.okM h.fn sc_turned (fun vs H Q E h => ?_) (fun cdv A outer s H vs Q E hr h => ?_))
  · obtain ⟨a, o, rfl, _⟩ := h
    rfl
  · obtain ⟨a, o, rfl, hO, hlen, k⟩ := h
    obtain ⟨qs, ha, hql, hqc⟩ := hO
    refine ⟨_, (pss_one (ps_ret (pe_callTy (call_tupleG (K := K) rfl) (by rfl) T.h_tuple (by decide +kernel) (pa_cons (pe_lc (own := [("name", 1), ("direction", 2)]) rfl sc_turned.nd (pi_tupG (K := K) rfl (pv 0)) (blkOk_by (N := N_turned) (sc := defScope S_turned) (by decide +kernel)) (fun _ _ _ _ _ => (pg_tupG (K := K) (n := 2) rfl rfl (pgs_cons (pg_name (i := 1) sc_turned.nd rfl (Or.inl rfl)) (pgs_cons (pg_name (i := 2) sc_turned.nd rfl (Or.inl rfl)) pgs_nil)))) (fun _ _ _ _ _ => pts_nil) (fun _ _ _ _ _ => (pe_tup (pa_cons (pv 1) (pa_cons (pe_ifExp (pt_cmpR op_eq (pv 2) pe_str (nomark _)) pe_str pe_str) pa_nil))))) pa_nil)))), ?_⟩
    walk_at "g"
    refine ⟨a, rfl, ⟨_, SqT.of ha⟩, fun D hD => ?_⟩
    refine lc_new (qs.map V.ref) (fun i y H' => ∃ q c, y = .ref q ∧ o[i]? = some c ∧ H' q = some (.tup (pt (c.1, !c.2)))) hD (fun H2 k2 => fits_t (SqT.of (k2 _ _ ha))) (by rw [List.length_map]; omega) ?_ ?_ ?_
    · rintro i y Ha Hb ⟨zs, hz⟩ ⟨q, c, rfl, h1, h2⟩ hk
      exact ⟨q, c, rfl, h1, hk _ _ (fun z => by rw [z, hz] at h2; cases h2) h2⟩
    · intro i y Hh R S hy kh _ hR
      rw [List.getElem?_map] at hy
      obtain ⟨q, hq, rfl⟩ := Option.map_eq_some_iff.mp hy
      obtain ⟨c, hc⟩ : ∃ c, o[i]? = some c := ⟨_, List.getElem?_eq_getElem (by have := (List.getElem?_eq_some_iff.mp hq).1; omega)⟩
      have et := kh _ _ (hqc i q c hq hc)
      refine g_gtup et rfl ?_
      refine g_gcons ?_
      walk_at "g"
      refine g_gcons ?_
      walk_at "g"
      refine g_gnil ?_
      refine ⟨rfl, ?_⟩
      walk_at "g"
      have fin : ∀ u : Bool, u = !c.2 → ∀ t, Hh t = none → R (.ref t) (upd Hh t (.tup [.str c.1, .str (dS u)])) := fun u hu t ht => hR _ _ (ext_newO ht) ⟨t, c, rfl, hc, by rw [hu]; exact upd_same⟩
      cases hu : c.2 with
      | true =>
        refine g_dec (fun _ => ?_) (fun h => absurd rfl h)
        walk_at "g"
        exact ⟨by show 2 ≤ sizeLine; decide, fun t ht => fin false (by rw [hu]; rfl) t ht⟩
      | false =>
        refine g_dec (fun h => absurd h (show ("down" : Str) ≠ "up" by decide +kernel)) (fun _ => ?_)
        walk_at "g"
        exact ⟨by show 2 ≤ sizeLine; decide, fun t ht => fin true (by rw [hu]; rfl) t ht⟩
    · intro H2 ys x2 hW hyl hys
      obtain ⟨ts, rfl, htl, hts⟩ : ∃ ts : List Addr, ys = ts.map V.ref ∧ ts.length = o.length ∧ ∀ (i : Nat) t c, ts[i]? = some t → o[i]? = some c → H2 t = some (.tup (pt (c.1, !c.2))) := by
        have key : ∀ (ys : List V), (∀ y ∈ ys, ∃ q, y = .ref q) → ∃ qs : List Addr, ys = qs.map V.ref := by
          intro ys
          induction ys with
          | nil => exact fun _ => ⟨[], rfl⟩
          | cons y r ih =>
            intro h
            obtain ⟨q, rfl⟩ := h y List.mem_cons_self
            obtain ⟨qs, rfl⟩ := ih fun z hz => h z (List.mem_cons_of_mem _ hz)
            exact ⟨q :: qs, rfl⟩
        obtain ⟨ts, rfl⟩ := key ys fun y hy => by
          obtain ⟨i, hi⟩ := List.getElem?_of_mem hy
          obtain ⟨q, c, e, _⟩ := hys i y hi
          exact ⟨q, e⟩
        refine ⟨ts, rfl, by rw [List.length_map, List.length_map] at hyl; omega, fun i t c ht hc => ?_⟩
        obtain ⟨q, c2, e, h1, h2⟩ := hys i (.ref t) (by rw [List.getElem?_map, ht]; rfl)
        injection e with e
        rw [hc] at h1
        injection h1 with h1
        rw [e, h1]; exact h2
      walk_at "g"
      refine g_tupL (SqL.of hW) fun t ht => ?_
      walk_at "g"
      refine k t _ (fun q u h => ext_newO ht _ _ (x2 _ _ h)) ⟨ts, upd_same, by unfold turnO; rw [List.length_map, htl], fun i q c hq hc => ?_⟩
      unfold turnO at hc
      rw [List.getElem?_map] at hc
      obtain ⟨c0, hc0, rfl⟩ := Option.map_eq_some_iff.mp hc
      exact ext_newO ht _ _ (hts i q c0 hq hc0)
theorem ok_columns_of_order (T : TxtW w K mg) : Def P w K mg base 1 "columns_of_order" ["order"] (fun vs H Q _ => ∃ (a : Addr) (o : List (Str × Bool)), vs = [.ref a] ∧ OT H a o ∧ o.length ≤ 1000 ∧ ∀ l H', H l = none → XT H H' → H' l = some (.lst ((o.map (·.1)).map V.str)) → Q (.ref l) H') := by
  obtain ⟨f, fd, h⟩ := T.d_columns_of_order
  refine h.def (Fun.okM h.fn sc_columns_of_order (fun vs H Q E h => ?_) (fun cdv A outer s H vs Q E hr h => ?_))
  · obtain ⟨a, o, rfl, _⟩ := h
    rfl
  · obtain ⟨a, o, rfl, hO, hlen, k⟩ := h
    obtain ⟨qs, ha, hql, hqc⟩ := hO
    refine ⟨_, (pss_one (ps_ret (pe_lc (own := [("name", 1), ("_", 2)]) rfl sc_columns_of_order.nd (pi_tupG (K := K) rfl (pv 0)) (blkOk_by (N := N_columns_of_order) (sc := defScope S_columns_of_order) (by decide +kernel)) (fun _ _ _ _ _ => (pg_tupG (K := K) (n := 2) rfl rfl (pgs_cons (pg_name (i := 1) sc_columns_of_order.nd rfl (Or.inl rfl)) (pgs_cons (pg_name (i := 2) sc_columns_of_order.nd rfl (Or.inl rfl)) pgs_nil)))) (fun _ _ _ _ _ => pts_nil) (fun _ _ _ _ _ => (pv 1))))), ?_⟩
    walk_at "g"
    refine ⟨a, rfl, ⟨_, SqT.of ha⟩, fun D hD => ?_⟩
    refine lc_new (qs.map V.ref) (fun i y _ => ∃ c, o[i]? = some c ∧ y = .str c.1) hD (fun H2 k2 => fits_t (SqT.of (k2 _ _ ha))) (by rw [List.length_map]; omega) (fun i y Ha Hb _ h _ => h) ?_ ?_
    · intro i y Hh R S hy kh _ hR
      rw [List.getElem?_map] at hy
      obtain ⟨q, hq, rfl⟩ := Option.map_eq_some_iff.mp hy
      obtain ⟨c, hc⟩ : ∃ c, o[i]? = some c := ⟨_, List.getElem?_eq_getElem (by have := (List.getElem?_eq_some_iff.mp hq).1; omega)⟩
      have et := kh _ _ (hqc i q c hq hc)
      refine g_gtup et rfl ?_
      refine g_gcons ?_
      walk_at "g"
      refine g_gcons ?_
      walk_at "g"
      refine g_gnil ?_
      refine ⟨rfl, ?_⟩
      walk_at "g"
      exact hR _ _ (fun q o h => h) ⟨c, hc, rfl⟩
    · intro H2 ys x2 hW hyl hys
      obtain rfl : ys = (o.map (·.1)).map V.str := by
        refine List.ext_getElem (by rw [hyl, List.length_map, List.length_map, List.length_map, hql]) fun i g1 g2 => ?_
        obtain ⟨c, hc, e⟩ := hys i _ (List.getElem?_eq_getElem g1)
        rw [e, List.getElem_map, List.getElem_map]
        obtain ⟨h3, h4⟩ := List.getElem?_eq_some_iff.mp hc
        rw [h4]
      exact k D _ hD x2 hW
end
theorem sz_mem {s : Stp} : ∃ n : Int, (s.word, n) ∈ [((Str.ofString "keep" : Str), (2 : Int)), (Str.ofString "sort", 2), (Str.ofString "distinct", 2), (Str.ofString "first", 1), (Str.ofString "flip", 1)] ∧ ∀ (C : Addr) (H : Hp) (q : Addr), StIn C H q s → ∃ r, H q = some (.tup (.str s.word :: r)) ∧ ((r.length : Int) + 1 = n) ∧ r.length ≤ 5 := by
  cases s with
  | keep ts => exact ⟨2, List.mem_cons_self, fun C H q ⟨t, a, _⟩ => ⟨_, a, rfl, by show 1 ≤ 5; decide⟩⟩
  | sort o => exact ⟨2, List.mem_cons_of_mem _ List.mem_cons_self, fun C H q ⟨t, a, _⟩ => ⟨_, a, rfl, by show 1 ≤ 5; decide⟩⟩
  | dist ns => exact ⟨2, List.mem_cons_of_mem _ (List.mem_cons_of_mem _ List.mem_cons_self), fun C H q ⟨t, a, _⟩ => ⟨_, a, rfl, by show 1 ≤ 5; decide⟩⟩
  | first => exact ⟨1, List.mem_cons_of_mem _ (List.mem_cons_of_mem _ (List.mem_cons_of_mem _ List.mem_cons_self)), fun C H q a => ⟨_, a, rfl, Nat.zero_le _⟩⟩
  | flip => exact ⟨1, List.mem_cons_of_mem _ (List.mem_cons_of_mem _ (List.mem_cons_of_mem _ (List.mem_cons_of_mem _ List.mem_cons_self))), fun C H q a => ⟨_, a, rfl, Nat.zero_le _⟩⟩
section
variable {P : Program} {w : World} {K : PySem.W.Frag} {mg : Str → Option Value} {base : Heap}
theorem ok_is_step (T : TxtW w K mg) : Def P w K mg base 6 "is_step" ["thing"] (spIsStep (cadr mg "Test")) := by
  obtain ⟨f, fd, h⟩ := T.d_is_step
  obtain ⟨t_STEP_SIZES, G_STEP_SIZES, Q_STEP_SIZES⟩ := T.k_STEP_SIZES
  refine h.def (Fun.okM h.fn sc_is_step (fun vs H Q E h => ?_) (fun cdv A outer s H vs Q E hr h => ?_))
  · obtain ⟨q, s, rfl, _⟩ := h
    rfl
  · obtain ⟨q, s, rfl, hq, hs, k⟩ := h
    obtain ⟨n, hm, hsh⟩ := sz_mem (s := s)
    obtain ⟨r, hr0, hrn, hr5⟩ := hsh _ _ _ hq
    refine ⟨_, (pss_cons (ps_if (PW.pt (pw_or (pt_not (pt_val (pe_def (ok_is_worded T) hr rfl (pa_cons (pv 0) pa_nil)))) (pw_or (pt_cmpR (op_notKD (K := K) (w := w) rfl rfl) (pe_ix (ix_seqG (K := K) rfl) (pv 0) pe_int (fun _ _ => rfl)) (pe_glob (v := .ref t_STEP_SIZES) rfl G_STEP_SIZES rfl) (by rfl)) (pw_or1 (pt_cmpR op_ne (pe_callB (call_lenG (K := K) rfl) (by rfl) T.h_len (by decide +kernel) (pa_cons (pv 0) pa_nil)) (pe_ix (ix_KD (K := K) (w := w) rfl rfl) (pe_glob (v := .ref t_STEP_SIZES) rfl G_STEP_SIZES rfl) (pe_ix (ix_seqG (K := K) rfl) (pv 0) pe_int (fun _ _ => rfl)) (fun _ _ => rfl)) (nomark _))))))
  (pss_one (ps_ret pe_bl))
  pss_nil)
  (pss_cons (ps_if (pt_cmpR op_eq (pe_ix (ix_seqG (K := K) rfl) (pv 0) pe_int (fun _ _ => rfl)) pe_str (nomark _))
  (pss_one (ps_ret (pe_callB (call_isiG (K := K) rfl) (by rfl) T.h_isinstance (by decide +kernel) (pa_cons (pe_ix (ix_seqG (K := K) rfl) (pv 0) pe_int (fun _ _ => rfl)) (pa_cons (pe_cls rfl T.e_Test) pa_nil)))))
  pss_nil)
  (pss_cons (ps_if (pt_cmpR op_eq (pe_ix (ix_seqG (K := K) rfl) (pv 0) pe_int (fun _ _ => rfl)) pe_str (nomark _))
  (pss_one (ps_ret (pe_def (ok_is_order T) hr rfl (pa_cons (pe_ix (ix_seqG (K := K) rfl) (pv 0) pe_int (fun _ _ => rfl)) pa_nil))))
  pss_nil)
  (pss_one (ps_ret (pe_or (pe_cmpR op_ne (pe_ix (ix_seqG (K := K) rfl) (pv 0) pe_int (fun _ _ => rfl)) pe_str (nomark _)) (pe_one (pe_def (ok_are_names T) hr rfl (pa_cons (pe_ix (ix_seqG (K := K) rfl) (pv 0) pe_int (fun _ _ => rfl)) (pa_cons pe_int (pa_cons pe_int pa_nil))))))))))), ?_⟩
    walk_at "g"
    refine ⟨q, s.word, r, rfl, hr0, hr5, fun H1 x1 => ?_⟩
    have hq1 := hq.keepX x1
    have h1 := x1 _ _ hr0
    walk_at "g"
    refine g_ixT (SqT.of h1) (v := .str s.word) (atI_nat (j := 0) rfl) ?_
    walk_at "g"
    refine ⟨_, s.word, n, _, rfl, rfl, Q_STEP_SIZES, hm, ?_⟩
    walk_at "g"
    refine g_lenT (SqT.of h1) ?_
    walk_at "g"
    refine g_ixT (SqT.of h1) (v := .str s.word) (atI_nat (j := 0) rfl) ?_
    refine ⟨_, s.word, n, _, rfl, rfl, Q_STEP_SIZES, hm, ?_⟩
    walk_at "g"
    rw [decide_eq_true (show (((.str s.word : V) :: r).length : Int) = n by rw [List.length_cons]; omega)]
    walk_at "g"
    refine g_ixT (SqT.of h1) (v := .str s.word) (atI_nat (j := 0) rfl) ?_
    walk_at "g"
    clear hm hsh hrn hr0 hq
    cases s with
    | keep ts =>
      obtain ⟨t, ht, hT⟩ := hq1
      obtain ⟨dx, i1, f1, u1, qs1, hp, _⟩ := hT.node
      refine g_dec (fun _ => ?_) (fun h => absurd rfl h)
      walk_at "g"
      refine g_ixT (SqT.of ht) (v := .ref t) (by rfl) ?_
      walk_at "g"
      refine g_isOwn T.is_Test T.cl_Test hp ?_
      exact k _ x1
    | sort o =>
      obtain ⟨l, hl, hL⟩ := hq1
      refine g_dec (fun h => absurd h (show ("sort" : Str) ≠ "keep" by decide +kernel)) (fun _ => ?_)
      walk_at "g"
      refine g_ixT (SqT.of hl) (v := .str "sort") (by rfl) ?_
      walk_at "g"
      refine g_dec (fun _ => ?_) (fun h => absurd rfl h)
      walk_at "g"
      refine g_ixT (SqT.of hl) (v := .ref l) (by rfl) ?_
      walk_at "g"
      refine ⟨l, o, rfl, hL, hs, fun H2 x2 => ?_⟩
      walk_at "g"
      exact k _ (XT.trans x1 x2)
    | dist ns =>
      obtain ⟨l, hl, hL⟩ := hq1
      obtain ⟨a1, a2, a3⟩ := hs
      refine g_dec (fun h => absurd h (show ("distinct" : Str) ≠ "keep" by decide +kernel)) (fun _ => ?_)
      walk_at "g"
      refine g_ixT (SqT.of hl) (v := .str "distinct") (by rfl) ?_
      walk_at "g"
      refine g_dec (fun h => absurd h (show ("distinct" : Str) ≠ "sort" by decide +kernel)) (fun _ => ?_)
      walk_at "g"
      refine g_ixT (SqT.of hl) (v := .str "distinct") (by rfl) ?_
      walk_at "g"
      rw [decide_eq_true (rfl : Str.ofString "distinct" = Str.ofString "distinct")]
      walk_at "g"
      refine g_ixT (SqT.of hl) (v := .ref l) (by rfl) ?_
      walk_at "g"
      refine ⟨l, ns, 0, 3, rfl, hL, a1, a2, by omega, by omega, by omega, fun H2 x2 => ?_⟩
      walk_at "g"
      exact k _ (XT.trans x1 x2)
    | first =>
      have hl : H1 q = some (.tup [.str "first"]) := hq1
      refine g_dec (fun h => absurd h (show ("first" : Str) ≠ "keep" by decide +kernel)) (fun _ => ?_)
      walk_at "g"
      refine g_ixT (SqT.of hl) (v := .str "first") (by rfl) ?_
      walk_at "g"
      refine g_dec (fun h => absurd h (show ("first" : Str) ≠ "sort" by decide +kernel)) (fun _ => ?_)
      walk_at "g"
      refine g_ixT (SqT.of hl) (v := .str "first") (by rfl) ?_
      walk_at "g"
      rw [decide_eq_false (show ¬ Str.ofString "first" = Str.ofString "distinct" by decide +kernel)]
      walk_at "g"
      exact k _ x1
    | flip =>
      have hl : H1 q = some (.tup [.str "flip"]) := hq1
      refine g_dec (fun h => absurd h (show ("flip" : Str) ≠ "keep" by decide +kernel)) (fun _ => ?_)
      walk_at "g"
      refine g_ixT (SqT.of hl) (v := .str "flip") (by rfl) ?_
      walk_at "g"
      refine g_dec (fun h => absurd h (show ("flip" : Str) ≠ "sort" by decide +kernel)) (fun _ => ?_)
      walk_at "g"
      refine g_ixT (SqT.of hl) (v := .str "flip") (by rfl) ?_
      walk_at "g"
      rw [decide_eq_false (show ¬ Str.ofString "flip" = Str.ofString "distinct" by decide +kernel)]
      walk_at "g"
      exact k _ x1
theorem ok_step_of (T : TxtW w K mg) : Def P w K mg base 5 "step_of" ["step"] (spStepOf (cadr mg "Test")) := by
  obtain ⟨f, fd, h⟩ := T.d_step_of
  refine h.def (Fun.okM h.fn sc_step_of (fun vs H Q E h => ?_) (fun cdv A outer s H vs Q E hr h => ?_))
  · obtain ⟨q, s, rfl, _⟩ := h
    rfl
  · obtain ⟨q, s, rfl, hq, hs, k⟩ := h
    refine ⟨_, (pss_cons (ps_if (pt_cmpR op_eq (pe_ix (ix_seqG (K := K) rfl) (pv 0) pe_int (fun _ _ => rfl)) pe_str (nomark _))
  (pss_one (ps_ret (pe_tup (pa_cons pe_str (pa_cons (pe_def (ok_need_order T) hr rfl (pa_cons (pe_ix (ix_seqG (K := K) rfl) (pv 0) pe_int (fun _ _ => rfl)) pa_nil)) pa_nil)))))
  pss_nil)
  (pss_cons (ps_if (pt_cmpR op_eq (pe_ix (ix_seqG (K := K) rfl) (pv 0) pe_int (fun _ _ => rfl)) pe_str (nomark _))
  (pss_one (ps_ret (pe_tup (pa_cons pe_str (pa_cons (pe_callTy (call_tupleG (K := K) rfl) (by rfl) T.h_tuple (by decide +kernel) (pa_cons (pe_ix (ix_seqG (K := K) rfl) (pv 0) pe_int (fun _ _ => rfl)) pa_nil)) pa_nil)))))
  pss_nil)
  (pss_one (ps_ret (pe_callTy (call_tupleG (K := K) rfl) (by rfl) T.h_tuple (by decide +kernel) (pa_cons (pv 0) pa_nil)))))), ?_⟩
    walk_at "g"
    cases s with
    | keep ts =>
      obtain ⟨t, ht, hT⟩ := id hq
      refine g_ixT (SqT.of ht) (v := .str "keep") (by rfl) ?_
      walk_at "g"
      refine g_dec (fun h => absurd h (show ("keep" : Str) ≠ "sort" by decide +kernel)) (fun _ => ?_)
      walk_at "g"
      refine g_ixT (SqT.of ht) (v := .str "keep") (by rfl) ?_
      walk_at "g"
      refine g_dec (fun h => absurd h (show ("keep" : Str) ≠ "distinct" by decide +kernel)) (fun _ => ?_)
      walk_at "g"
      refine g_tupT (SqT.of ht) ?_
      walk_at "g"
      exact k q _ XT.refl ⟨t, ht, hT⟩
    | sort o =>
      obtain ⟨l, hl, hL⟩ := id hq
      refine g_ixT (SqT.of hl) (v := .str "sort") (by rfl) ?_
      walk_at "g"
      refine g_dec (fun _ => ?_) (fun h => absurd rfl h)
      walk_at "g"
      refine g_ixT (SqT.of hl) (v := .ref l) (by rfl) ?_
      walk_at "g"
      refine ⟨l, o, rfl, hL, hs, fun t H1 x1 hO => ?_⟩
      walk_at "g"
      refine ⟨by show 2 ≤ sizeLine; decide, fun p hp => ?_⟩
      walk_at "g"
      exact k p _ (fun q u h => ext_newO hp _ _ (x1 _ _ h)) ⟨t, upd_same, hO.keep (ext_newO hp)⟩
    | dist ns =>
      obtain ⟨l, hl, hL⟩ := id hq
      refine g_ixT (SqT.of hl) (v := .str "distinct") (by rfl) ?_
      walk_at "g"
      refine g_dec (fun h => absurd h (show ("distinct" : Str) ≠ "sort" by decide +kernel)) (fun _ => ?_)
      walk_at "g"
      refine g_ixT (SqT.of hl) (v := .str "distinct") (by rfl) ?_
      walk_at "g"
      refine g_dec (fun _ => ?_) (fun h => absurd rfl h)
      walk_at "g"
      refine g_ixT (SqT.of hl) (v := .ref l) (by rfl) ?_
      walk_at "g"
      refine g_tupL (SqL.of hL) fun t ht => ?_
      walk_at "g"
      refine ⟨by show 2 ≤ sizeLine; decide, fun p hp => ?_⟩
      walk_at "g"
      exact k p _ (fun q u h => ext_newO hp _ _ (ext_newO ht _ _ h)) ⟨t, upd_same, ext_newO hp _ _ upd_same⟩
    | first =>
      have hl : H q = some (.tup [.str "first"]) := hq
      refine g_ixT (SqT.of hl) (v := .str "first") (by rfl) ?_
      walk_at "g"
      refine g_dec (fun h => absurd h (show ("first" : Str) ≠ "sort" by decide +kernel)) (fun _ => ?_)
      walk_at "g"
      refine g_ixT (SqT.of hl) (v := .str "first") (by rfl) ?_
      walk_at "g"
      refine g_dec (fun h => absurd h (show ("first" : Str) ≠ "distinct" by decide +kernel)) (fun _ => ?_)
      walk_at "g"
      refine g_tupT (SqT.of hl) ?_
      walk_at "g"
      exact k q _ XT.refl hl
    | flip =>
      have hl : H q = some (.tup [.str "flip"]) := hq
      refine g_ixT (SqT.of hl) (v := .str "flip") (by rfl) ?_
      walk_at "g"
      refine g_dec (fun h => absurd h (show ("flip" : Str) ≠ "sort" by decide +kernel)) (fun _ => ?_)
      walk_at "g"
      refine g_ixT (SqT.of hl) (v := .str "flip") (by rfl) ?_
      walk_at "g"
      refine g_dec (fun h => absurd h (show ("flip" : Str) ≠ "distinct" by decide +kernel)) (fun _ => ?_)
      walk_at "g"
      refine g_tupT (SqT.of hl) ?_
      walk_at "g"
      exact k q _ XT.refl hl
end
/-- a plan of these steps -/
def PlanAt (C CT : Addr) (H : Hp) (ss : List Stp) (x : Addr) : Prop := ∃ dx fs T, ∃ ts : List Addr, H x = some (.ins C dx fs) ∧ fs.lookup ("course" : Str) = some (V.ref T) ∧ fs.lookup ("steps" : Str) = none ∧ H T = some (.tup (ts.map V.ref)) ∧ ts.length = ss.length ∧ ∀ (i : Nat) t s, ts[i]? = some t → ss[i]? = some s → StC CT H t s
theorem PlanAt.keep {C CT x : Addr} {H H' : Hp} {ss : List Stp} (h : PlanAt C CT H ss x) (k : XT H H') : PlanAt C CT H' ss x := by
  obtain ⟨dx, fs, T, ts, h1, h2, h3, h4, h5, h6⟩ := h
  exact ⟨dx, fs, T, ts, k _ _ h1, h2, h3, k _ _ h4, h5, fun i t s ht hs => (h6 i t s ht hs).keepX k⟩
/-- steps as they are handed in -/
def StsAt (C : Addr) (H : Hp) (L : Addr) (ss : List Stp) : Prop := ∃ qs : List Addr, H L = some (.lst (qs.map V.ref)) ∧ qs.length = ss.length ∧ ∀ (i : Nat) q s, qs[i]? = some q → ss[i]? = some s → StIn C H q s
theorem StsAt.keep {C L : Addr} {H H' : Hp} {ss : List Stp} (h : StsAt C H L ss) (k : XT H H') : StsAt C H' L ss := by
  obtain ⟨qs, h1, h2, h3⟩ := h
  exact ⟨qs, k _ _ h1, h2, fun i q s hq hs => (h3 i q s hq hs).keepX k⟩
section
variable {P : Program} {w : World} {K : PySem.W.Frag} {mg : Str → Option Value} {base : Heap}
theorem ok_Plan_init (T : TxtW w K mg) : DefC P w K mg base 7 (cadr mg "Plan") ["self", "steps"] (fun vs H Q _ => ∃ (x L dx : Addr) (ss : List Stp), vs = [.ref x, .ref L] ∧ H x = some (.ins (cadr mg "Plan") dx []) ∧ StsAt (cadr mg "Test") H L ss ∧ ss.length ≤ 5 ∧ (∀ s ∈ ss, StOk s) ∧
    ∀ H', (∀ q o, q ≠ x → H q = some o → H' q = some o) → PlanAt (cadr mg "Plan") (cadr mg "Test") H' ss x → Q .non H') := by
  obtain ⟨f, fd, h⟩ := T.d_Plan_init
  obtain ⟨t_MOST_STEPS, G_MOST_STEPS⟩ := T.k_MOST_STEPS
  refine h.def (Fun.okM h.fn sc_Plan_init (fun vs H Q E h => ?_) (fun cdv A outer s H vs Q E hr h => ?_))
  · obtain ⟨x, L, dx, ss, rfl, _⟩ := h
    rfl
  · obtain ⟨x, L, dx, ss, rfl, hx, hSs, h5, hok, k⟩ := h
    obtain ⟨qs, hL, hlen, hcol⟩ := id hSs
    refine ⟨_, (pss_cons (ps_if (pt_not (pt_val (pe_def (ok_is_short T) hr rfl (pa_cons (pv 1) (pa_cons pe_int (pa_cons (pe_glob (v := .int 5) rfl G_MOST_STEPS ⟨_, rfl⟩) pa_nil))))))
  (pss_one ps_never)
  pss_nil)
  (pss_cons (ps_for PassesOwn.never rfl (pi_enumG (K := K) rfl (by rfl) T.h_enumerate (pa_cons (pv 1) pa_nil)) (pg_tupG (K := K) (n := 2) rfl rfl (pgs_cons (pg_name (i := 2) sc_Plan_init.nd rfl (Or.inl rfl)) (pgs_cons (pg_name (i := 3) sc_Plan_init.nd rfl (Or.inl rfl)) pgs_nil)))
  (pss_one (ps_if (pt_not (pt_val (pe_def (ok_is_step T) hr rfl (pa_cons (pv 3) pa_nil))))
  (pss_one ps_never)
  pss_nil)))
  (pss_one (ps_fld (pv 0) (pe_callTy (call_tupleG (K := K) rfl) (by rfl) T.h_tuple (by decide +kernel) (pa_cons (pe_lc (own := [("step", 3)]) rfl sc_Plan_init.nd (pi_list (pv 1)) (blkOk_by (N := N_Plan_init) (sc := defScope S_Plan_init) (by decide +kernel)) (fun _ _ _ _ _ => pg_name (i := 3) sc_Plan_init.nd rfl (Or.inl rfl)) (fun _ _ _ _ _ => pts_nil) (fun _ _ _ _ _ => (pe_def (ok_step_of T) hr rfl (pa_cons (pv 3) pa_nil)))) pa_nil)) rfl)))), ?_⟩
    walk_at "g"
    refine ⟨_, _, _, rfl, .inr ⟨L, _, rfl, .inl hL, fun H1 x1 => ?_⟩⟩
    rw [show (decide ((0 : Int) ≤ ((qs.map V.ref).length : Int)) && decide (((qs.map V.ref).length : Int) ≤ 5)) = true by
      rw [List.length_map, decide_eq_true (by omega), decide_eq_true (by omega)]; rfl]
    walk_at "g"
    refine g_enumG ?_
    walk_at "g"
    refine ⟨L, qs.map V.ref, rfl, .inl (SqL.of (x1 _ _ hL)), fun J hJ => ?_⟩
    refine for_enumA (xs := qs.map V.ref) (fun i σ' H' => ∃ (s2 s3 : Option V), σ' = [some (.ref x), some (.ref L), s2, s3] ∧ XT H H') ⟨none, none, rfl, x1⟩ ?_ ?_ ?_
    · rintro i σ' H' hi ⟨s2, s3, rfl, x3⟩
      exact hJ H' (by rw [x3 _ _ hL, x1 _ _ hL])
    · rintro i v t σ' H3 D' hv ⟨s2, s3, rfl, x3⟩ ht hnx hct hbk hrt
      rw [List.getElem?_map] at hv
      obtain ⟨q, hq, rfl⟩ := Option.map_eq_some_iff.mp hv
      obtain ⟨s, hs⟩ : ∃ s, ss[i]? = some s := ⟨_, List.getElem?_eq_getElem (by have := (List.getElem?_eq_some_iff.mp hq).1; omega)⟩
      have hin := hcol i q s hq hs
      have x4 := x3.new (o := .tup [.int (i : Nat), .ref q]) ht
      refine g_gtup upd_same rfl ?_
      refine g_gcons ?_
      walk_at "g"
      refine g_gcons ?_
      walk_at "g"
      refine g_gnil ?_
      generalize upd H3 t (.tup [.int (i : Nat), .ref q]) = H4 at x4
      walk_at "g"
      refine ⟨q, s, rfl, hin.keepX x4, hok s (List.mem_of_getElem? hs), fun H5 x5 => ?_⟩
      walk_at "g"
      exact hnx _ _ ⟨_, _, rfl, XT.trans x4 x5⟩
    · rintro σ' H' ⟨s2, s3, rfl, x3⟩
      have hL3 := x3 _ _ hL
      walk_at "g"
      refine ⟨L, rfl, ⟨_, SqL.of hL3⟩, fun D hD => ?_⟩
      refine lc_new (qs.map V.ref) (fun i y H2 => ∃ t s, y = .ref t ∧ ss[i]? = some s ∧ StC (cadr mg "Test") H2 t s) hD (fun H2 k2 => fits_l (SqL.of (k2 _ _ hL3))) (by rw [List.length_map]; omega) ?_ ?_ ?_
      · rintro i y Ha Hb ⟨zs, hz⟩ ⟨t, s, rfl, h1, h2⟩ hk
        exact ⟨t, s, rfl, h1, h2.keepN hz (fun l e => nomatch e) (fun dx l e => nomatch e) hk⟩
      · intro i y Hh R S hy kh _ hR
        rw [List.getElem?_map] at hy
        obtain ⟨q, hq, rfl⟩ := Option.map_eq_some_iff.mp hy
        obtain ⟨s, hs⟩ : ∃ s, ss[i]? = some s := ⟨_, List.getElem?_eq_getElem (by have := (List.getElem?_eq_some_iff.mp hq).1; omega)⟩
        have hin := ((hcol i q s hq hs).keepX x3).keepX kh
        walk_at "g"
        refine ⟨rfl, ?_⟩
        walk_at "g"
        exact ⟨q, s, rfl, hin, hok s (List.mem_of_getElem? hs), fun t H5 x5 hc => hR _ _ x5 ⟨t, s, rfl, hs, hc⟩⟩
      · intro H2 ys x2 hW hyl hys
        obtain ⟨ts, rfl, htl, hts⟩ : ∃ ts : List Addr, ys = ts.map V.ref ∧ ts.length = ss.length ∧ ∀ (i : Nat) t s, ts[i]? = some t → ss[i]? = some s → StC (cadr mg "Test") H2 t s := by
          have key : ∀ (ys : List V), (∀ y ∈ ys, ∃ q, y = .ref q) → ∃ qs : List Addr, ys = qs.map V.ref := by
            intro ys
            induction ys with
            | nil => exact fun _ => ⟨[], rfl⟩
            | cons y r ih =>
              intro h
              obtain ⟨q, rfl⟩ := h y List.mem_cons_self
              obtain ⟨qs, rfl⟩ := ih fun z hz => h z (List.mem_cons_of_mem _ hz)
              exact ⟨q :: qs, rfl⟩
          obtain ⟨ts, rfl⟩ := key ys fun y hy => by
            obtain ⟨i, hi⟩ := List.getElem?_of_mem hy
            obtain ⟨q, c, e, _⟩ := hys i y hi
            exact ⟨q, e⟩
          refine ⟨ts, rfl, by rw [List.length_map, List.length_map] at hyl; omega, fun i t s ht hs => ?_⟩
          obtain ⟨q, s2, e, h1, h2⟩ := hys i (.ref t) (by rw [List.getElem?_map, ht]; rfl)
          injection e with e
          rw [hs] at h1
          injection h1 with h1
          rw [e, h1]; exact h2
        walk_at "g"
        refine g_tupL (SqL.of hW) fun t ht => ?_
        have xA : XT H H2 := XT.trans x3 x2
        have xB : XT H2 (upd H2 t (.tup (ts.map V.ref))) := ext_newO ht
        have et : (upd H2 t (.tup (ts.map V.ref))) t = some (.tup (ts.map V.ref)) := upd_same
        generalize upd H2 t (.tup (ts.map V.ref)) = H6 at xB et
        have hx6 := xB _ _ (xA _ _ hx)
        walk_at "g"
        refine ⟨x, _, dx, _, rfl, hx6, T.cl_Plan, T.n_Plan_course, by decide, ?_⟩
        walk_at "g"
        refine k _ (fun q o n h => by rw [upd_ne n]; exact xB _ _ (xA _ _ h)) ⟨dx, _, t, ts, upd_same, by rfl, by rfl, ?_, htl, fun i u s hu hs => ((hts i u s hu hs).keepX xB).keepN hx6 (fun l e => nomatch e) (fun d l e => by injection e with _ _ e; exact e.symm) fun q o n h => by rw [upd_ne n]; exact h⟩
        rw [upd_ne (fun z => by rw [z, hx6] at et; cases et)]
        exact et
theorem ok_Plan_steps (T : TxtW w K mg) : DefM P w K mg base 1 (cadr mg "Plan") "steps" ["self"] (fun vs H Q _ => ∃ (x : Addr) (ss : List Stp), vs = [.ref x] ∧ PlanAt (cadr mg "Plan") (cadr mg "Test") H ss x ∧ ∀ l H', H l = none → XT H H' → (∃ ts : List Addr, H' l = some (.lst (ts.map V.ref)) ∧ ts.length = ss.length ∧ ∀ (i : Nat) t s, ts[i]? = some t → ss[i]? = some s → StC (cadr mg "Test") H t s) → Q (.ref l) H') := by
  obtain ⟨f, fd, h⟩ := T.d_Plan_steps
  refine h.def (Fun.okM h.fn sc_Plan_steps (fun vs H Q E h => ?_) (fun cdv A outer s H vs Q E hr h => ?_))
  · obtain ⟨x, ss, rfl, _⟩ := h
    rfl
  · obtain ⟨x, ss, rfl, hP, k⟩ := h
    obtain ⟨dx, fs, T0, ts, h1, h2, h3, h4, h5, h6⟩ := hP
    refine ⟨_, (pss_one (ps_ret (pe_callTy (call_listG (K := K) rfl) (by rfl) T.h_list (by decide +kernel) (pa_cons (pe_fldG (K := K) rfl (pv 0) rfl) pa_nil)))), ?_⟩
    walk_at "g"
    refine ⟨x, _, dx, _, _, rfl, h1, T.cl_Plan, T.n_Plan_course, h2, ?_⟩
    refine ⟨T0, _, rfl, .inr (SqT.of h4), fun l hl => ?_⟩
    walk_at "g"
    exact k l _ hl (ext_newO hl) ⟨ts, upd_same, h5, h6⟩
end
theorem rev_ind {α : Type} {P : List α → Prop} (h0 : P []) (h : ∀ r s, P r → P (r ++ [s])) (l : List α) : P l := by
  rw [← List.reverse_reverse l]
  induction l.reverse with
  | nil => exact h0
  | cons a r ih => rw [List.reverse_cons]; exact h _ _ ih
theorem op_catTG {X : Cx} {K : PySem.W.Frag} (h : X.K = K) : OpR X (binaryOp .Add) (rCatT K) := by subst h; exact op_catT
def stepF (acc : List (Str × Bool)) : Stp → List (Str × Bool)
  | .flip => turnO acc
  | .sort o => o ++ acc.filter fun c => decide (c.1 ∉ o.map (·.1))
  | _ => acc
def standF (ss : List Stp) : List (Str × Bool) := ss.foldl stepF []
theorem standF_app {ss : List Stp} {s : Stp} : standF (ss ++ [s]) = stepF (standF ss) s := by
  unfold standF
  rw [List.foldl_append]
  rfl
theorem stepF_len {acc : List (Str × Bool)} {s : Stp} (hs : StOk s) : (stepF acc s).length ≤ acc.length + 3 := by
  cases s with
  | sort o =>
    show (o ++ acc.filter _).length ≤ _
    have h1 := List.length_filter_le (fun c : Str × Bool => decide (c.1 ∉ o.map (·.1))) acc
    have h2 := hs.le
    rw [List.length_append]
    omega
  | flip => show (acc.map _).length ≤ _; rw [List.length_map]; omega
  | keep ts => show acc.length ≤ _; omega
  | dist ns => show acc.length ≤ _; omega
  | first => show acc.length ≤ _; omega
theorem standF_len : ∀ {ss : List Stp}, (∀ s ∈ ss, StOk s) → (standF ss).length ≤ 3 * ss.length := by
  intro ss
  refine rev_ind (P := fun ss => (∀ s ∈ ss, StOk s) → (standF ss).length ≤ 3 * ss.length) ?_ ?_ ss
  · exact fun _ => Nat.zero_le _
  · intro r s ih h
    rw [standF_app, List.length_append]
    have h1 := ih fun x hx => h x (List.mem_append.mpr (.inl hx))
    have h2 := stepF_len (acc := standF r) (h s (List.mem_append.mpr (.inr List.mem_cons_self)))
    show _ ≤ 3 * (r.length + 1)
    omega
/-! backwards, as one may tell it, too -/
def twO (b : Bool) (o : List (Str × Bool)) : List (Str × Bool) := if b = true then turnO o else o
theorem twO_names {b : Bool} {o : List (Str × Bool)} : (twO b o).map (·.1) = o.map (·.1) := by
  cases b with
  | true => show (turnO o).map _ = _; unfold turnO; rw [List.map_map]; rfl
  | false => rfl
theorem twO_turn {b : Bool} {o : List (Str × Bool)} : twO b (turnO o) = twO (!b) o := by
  cases b with
  | false => rfl
  | true =>
    show turnO (turnO o) = o
    unfold turnO
    rw [List.map_map]
    conv => rhs; rw [← List.map_id o]
    refine List.map_congr_left fun c _ => ?_
    show (c.1, !(!c.2)) = c
    rw [Bool.not_not]
theorem twO_app {b : Bool} {o p : List (Str × Bool)} : twO b (o ++ p) = twO b o ++ twO b p := by
  cases b with
  | true => show turnO _ = turnO _ ++ turnO _; unfold turnO; rw [List.map_append]
  | false => rfl
theorem twO_filter {b : Bool} {o : List (Str × Bool)} {S : List Str} : twO b (o.filter fun c => decide (c.1 ∉ S)) = (twO b o).filter fun c => decide (c.1 ∉ S) := by
  cases b with
  | true =>
    show turnO _ = (turnO o).filter _
    unfold turnO
    rw [List.filter_map]
    rfl
  | false => rfl
def outS (acc o : List (Str × Bool)) : List (Str × Bool) := o.filter fun c => decide (c.1 ∉ acc.map (·.1))
/-- the steps from the last one on -/
def backF : List Stp → Bool → List (Str × Bool) → List (Str × Bool)
  | [], _, acc => acc
  | .flip :: r, b, acc => backF r (!b) acc
  | .sort o :: r, b, acc => backF r b (acc ++ outS acc (twO b o))
  | .keep _ :: r, b, acc => backF r b acc
  | .dist _ :: r, b, acc => backF r b acc
  | .first :: r, b, acc => backF r b acc
theorem outS_app {acc p o : List (Str × Bool)} (h : p.map (·.1) = o.map (·.1)) : outS (acc ++ outS acc p) (o' : List (Str × Bool)) = outS acc (outS o o') := by
  unfold outS
  rw [List.filter_filter]
  refine List.filter_congr fun c _ => ?_
  rw [← Bool.decide_and]
  refine decide_eq_decide.mpr ?_
  rw [List.map_append, List.mem_append, not_or]
  constructor
  · rintro ⟨h1, h2⟩
    refine ⟨h1, fun hm => h2 ?_⟩
    rw [← h] at hm
    obtain ⟨d, hd, e⟩ := List.mem_map.mp hm
    exact List.mem_map.mpr ⟨d, List.mem_filter.mpr ⟨hd, by rw [e]; exact decide_eq_true h1⟩, e⟩
  · rintro ⟨h1, h2⟩
    refine ⟨h1, fun hm => h2 ?_⟩
    obtain ⟨d, hd, e⟩ := List.mem_map.mp hm
    rw [← h]
    exact List.mem_map.mpr ⟨d, (List.mem_filter.mp hd).1, e⟩
theorem back_is (ss : List Stp) : ∀ (b : Bool) (acc : List (Str × Bool)), backF ss.reverse b acc = acc ++ outS acc (twO b (standF ss)) := by
  refine rev_ind (P := fun ss => ∀ (b : Bool) (acc : List (Str × Bool)), backF ss.reverse b acc = acc ++ outS acc (twO b (standF ss))) ?_ ?_ ss
  · intro b acc
    show acc = acc ++ outS acc (twO b [])
    rw [show twO b [] = [] by cases b <;> rfl]
    show acc = acc ++ []
    rw [List.append_nil]
  · intro r s ih b acc
    rw [List.reverse_append, standF_app]
    show backF (s :: r.reverse) b acc = _
    cases s with
    | flip =>
      show backF r.reverse (!b) acc = acc ++ outS acc (twO b (turnO (standF r)))
      rw [ih, twO_turn]
    | sort o =>
      show backF r.reverse b (acc ++ outS acc (twO b o)) = acc ++ outS acc (twO b (o ++ (standF r).filter fun c => decide (c.1 ∉ o.map (·.1))))
      rw [ih, twO_app, twO_filter, outS_app (o := twO b o) rfl, List.append_assoc]
      congr 1
      unfold outS
      rw [List.filter_append, twO_names]
    | keep ts => exact ih b acc
    | dist ns => exact ih b acc
    | first => exact ih b acc
theorem cut_toP {a b : List V} : cutV (a ++ b) none (some (a.length : Int)) = a := by
  show (((a ++ b).drop 0).take (HT.sIx (a ++ b).length (a ++ b).length (some (a.length : Int)) - 0)) = a
  rw [HT.sIx_nat, List.drop_zero, Nat.sub_zero, Nat.min_eq_left (by rw [List.length_append]; omega)]
  exact List.take_left
theorem XT.late {H H1 : Hp} {t : Addr} {o : HO} (k : XT H H1) (h : H t = none) : XT H (upd H1 t o) := fun q u e => by rw [upd_ne (ne_of_none e h)]; exact k q u e
def OTq (H : Hp) (qs : List Addr) (ps : List (Str × Bool)) : Prop := qs.length = ps.length ∧ ∀ (i : Nat) (q : Addr) (c : Str × Bool), qs[i]? = some q → ps[i]? = some c → H q = some (.tup (pt c))
theorem OTq.app {H : Hp} {qs rs : List Addr} {ps os : List (Str × Bool)} (h : OTq H qs ps) (k : OTq H rs os) : OTq H (qs ++ rs) (ps ++ os) := by
  obtain ⟨h1, h2⟩ := h
  obtain ⟨k1, k2⟩ := k
  refine ⟨by rw [List.length_append, List.length_append, h1, k1], fun i q c hq hc => ?_⟩
  by_cases hi : i < qs.length
  · rw [List.getElem?_append_left hi] at hq
    rw [List.getElem?_append_left (by omega)] at hc
    exact h2 i q c hq hc
  · rw [List.getElem?_append_right (by omega)] at hq
    rw [List.getElem?_append_right (by omega), ← h1] at hc
    exact k2 _ q c hq hc
theorem OTq.one {H : Hp} {q : Addr} {c : Str × Bool} (h : H q = some (.tup (pt c))) : OTq H [q] [c] := by
  refine ⟨rfl, fun i q' c' hq hc => ?_⟩
  obtain ⟨hi, _⟩ := List.getElem?_eq_some_iff.mp hq
  have : i = 0 := by simpa using hi
  subst this
  obtain rfl : q = q' := by simpa using hq
  obtain rfl : c = c' := by simpa using hc
  exact h
theorem OTq.keep {H H' : Hp} {qs : List Addr} {ps : List (Str × Bool)} (h : OTq H qs ps) (k : XT H H') : OTq H' qs ps := ⟨h.1, fun i q c hq hc => k _ _ (h.2 i q c hq hc)⟩
section
variable {P : Program} {w : World} {K : PySem.W.Frag} {mg : Str → Option Value} {base : Heap}
theorem ok_standing_order (T : TxtW w K mg) : Def P w K mg base 2 "standing_order" ["plan", "i"] (fun vs H Q _ => ∃ (x : Addr) (i : Nat) (ss : List Stp), vs = [.ref x, .int (i : Int)] ∧ PlanAt (cadr mg "Plan") (cadr mg "Test") H ss x ∧ ss.length ≤ 5 ∧ (∀ s ∈ ss, StOk s) ∧ i ≤ ss.length ∧
    ∀ t H', XT H H' → OT H' t (standF (ss.take i)) → Q (.ref t) H') := by
  obtain ⟨f, fd, h⟩ := T.d_standing_order
  refine h.def (Fun.okM h.fn sc_standing_order (fun vs H Q E h => ?_) (fun cdv A outer s H vs Q E hr h => ?_))
  · obtain ⟨x, i, ss, rfl, _⟩ := h
    rfl
  · obtain ⟨x, i, ss, rfl, hP, h5, hok, hi, k⟩ := h
    refine ⟨_, (pss_cons (ps_set (i := 2) sc_standing_order.nd rfl (Or.inl rfl) (pe_tup pa_nil))
  (pss_cons (ps_for PassesOwn.never rfl (pi_list (pe_slice (sl_G (K := K) rfl) (pe_me0 (pv 0) T.cl_Plan (ok_Plan_steps T) hr) po_none (po_some (pv 1)))) (pg_name (i := 3) sc_standing_order.nd rfl (Or.inl rfl))
  (pss_cons (ps_if (pt_cmpR op_eq (pe_ix (ix_seqG (K := K) rfl) (pv 3) pe_int (fun _ _ => rfl)) pe_str (nomark _))
  (pss_one (ps_set (i := 2) sc_standing_order.nd rfl (Or.inl rfl) (pe_def (ok_turned T) hr rfl (pa_cons (pv 2) pa_nil))))
  pss_nil)
  (pss_one (ps_if (pt_cmpR op_eq (pe_ix (ix_seqG (K := K) rfl) (pv 3) pe_int (fun _ _ => rfl)) pe_str (nomark _))
  (pss_cons (ps_set (i := 4) sc_standing_order.nd rfl (Or.inr rfl) (pe_def (ok_columns_of_order T) hr rfl (pa_cons (pe_ix (ix_seqG (K := K) rfl) (pv 3) pe_int (fun _ _ => rfl)) pa_nil)))
  (pss_one (ps_set (i := 2) sc_standing_order.nd rfl (Or.inl rfl) (pe_op (op_catTG (K := K) rfl) (pe_ix (ix_seqG (K := K) rfl) (pv 3) pe_int (fun _ _ => rfl)) (pe_callTy (call_tupleG (K := K) rfl) (by rfl) T.h_tuple (by decide +kernel) (pa_cons (pe_lc (own := [("part", 5)]) rfl sc_standing_order.nd (pi_tupG (K := K) rfl (pv 2)) (blkOk_by (N := N_standing_order) (sc := defScope S_standing_order) (by decide +kernel)) (fun _ _ _ _ _ => pg_name (i := 5) sc_standing_order.nd rfl (Or.inl rfl)) (fun _ _ _ _ _ => pts_one (pt_cmpR (op_notInG (K := K) rfl) (pe_ix (ix_seqG (K := K) rfl) (pv 5) pe_int (fun _ _ => rfl)) (pv 4) (by rfl))) (fun _ _ _ _ _ => (pv 5))) pa_nil))))))
  pss_nil))))
  (pss_one (ps_ret (pv 2))))), ?_⟩
    walk_at "g"
    refine ⟨Nat.zero_le _, fun t0 ht0 => ?_⟩
    have x0 : XT H (upd H t0 (.tup [])) := ext_newO ht0
    have e0 : (upd H t0 (.tup [])) t0 = some (.tup []) := upd_same
    generalize upd H t0 (.tup []) = H0 at x0 e0
    have hP0 := hP.keep x0
    obtain ⟨dx, fs, T0, ts0, h1, h2, h3, _⟩ := id hP0
    walk_at "g"
    refine ⟨x, dx, _, rfl, h1, h3, ?_⟩
    walk_at "g"
    refine ⟨x, ss, rfl, hP0, fun l H1 hl x1 hlst => ?_⟩
    obtain ⟨ts, hlts, htl, hts⟩ := hlst
    walk_at "g"
    have hcut : cutV (ts.map V.ref) none (some (i : Int)) = (ts.take i).map V.ref := by
      have e1 : ts.map V.ref = (ts.take i).map V.ref ++ (ts.drop i).map V.ref := by rw [← List.map_append, List.take_append_drop]
      have e2 : (i : Int) = (((ts.take i).map V.ref).length : Int) := by rw [List.length_map, List.length_take, Nat.min_eq_left (by omega)]
      rw [e1, e2, cut_toP]
    refine g_slL (SqL.of hlts) fun A hA => ?_
    rw [hcut]
    have xA : XT H1 (upd H1 A (.lst ((ts.take i).map V.ref))) := ext_newO hA
    have eA : (upd H1 A (.lst ((ts.take i).map V.ref))) A = some (.lst ((ts.take i).map V.ref)) := upd_same
    generalize upd H1 A (.lst ((ts.take i).map V.ref)) = HA at xA eA
    have x0A : XT H HA := XT.trans x0 (XT.trans x1 xA)
    refine ⟨A, rfl, ⟨_, SqL.of eA⟩, for_listA (xs := (ts.take i).map V.ref) (fun j σ' H' => ∃ t s3 s4 s5, σ' = [some (.ref x), some (.int (i : Int)), some (.ref t), s3, s4, s5] ∧ XT HA H' ∧ OT H' t (standF (ss.take j))) ⟨t0, _, _, _, rfl, XT.refl, ⟨[], xA _ _ (x1 _ _ e0), rfl, fun i q c h => by simp at h⟩⟩ (fun j σ H' _ e => by obtain ⟨t, _, _, _, _, xx, _⟩ := e; exact SqL.of (xx _ _ eA)) ?_ ?_⟩
    · rintro j y σ' H2 D' hj ⟨t, s3, s4, s5, rfl, x2, hO⟩ hnx hct hbk hrt
      rw [List.getElem?_map] at hj
      obtain ⟨q, hq, rfl⟩ := Option.map_eq_some_iff.mp hj
      have hjl : j < (ts.take i).length := (List.getElem?_eq_some_iff.mp hq).1
      rw [List.length_take] at hjl
      have hq' : ts[j]? = some q := by rw [List.getElem?_take_of_lt (by omega)] at hq; exact hq
      obtain ⟨s, hs⟩ : ∃ s, ss[j]? = some s := ⟨_, List.getElem?_eq_getElem (by omega)⟩
      have hC := (hts j q s hq' hs).keepX (XT.trans x1 (XT.trans xA x2))
      have hsok := hok s (List.mem_of_getElem? hs)
      have est : standF (ss.take (j + 1)) = stepF (standF (ss.take j)) s := by
        rw [List.take_succ, hs]
        exact standF_app
      have hlen : (standF (ss.take j)).length ≤ 15 := by
        have := standF_len (ss := ss.take j) fun s hs => hok s (List.mem_of_mem_take hs)
        have h2 : (ss.take j).length ≤ ss.length := by rw [List.length_take]; omega
        omega
      refine g_name ?_
      obtain ⟨r, hr0⟩ := hC.head
      walk_at "g"
      refine g_ixT (SqT.of hr0) (v := .str s.word) (atI_nat (j := 0) rfl) ?_
      walk_at "g"
      have same : stepF (standF (ss.take j)) s = standF (ss.take j) → D'.nx ([some (.ref x), some (.int (i : Int)), some (.ref t), some (.ref q), s4, s5]) H2 := fun e => hnx _ _ ⟨t, _, _, _, rfl, x2, by rw [est, e]; exact hO⟩
      cases s with
      | flip =>
        refine g_dec (fun _ => ?_) (fun h => absurd rfl h)
        walk_at "g"
        refine ⟨t, _, rfl, hO, by omega, fun t2 H3 x3 hO3 => ?_⟩
        walk_at "g"
        refine g_ixT (SqT.of (x3 _ _ hr0)) (v := .str "flip") (atI_nat (j := 0) rfl) ?_
        walk_at "g"
        refine g_dec (fun h => absurd h (show ("flip" : Str) ≠ "sort" by decide +kernel)) (fun _ => ?_)
        exact hnx _ _ ⟨t2, _, _, _, rfl, XT.trans x2 x3, by rw [est]; exact hO3⟩
      | sort o =>
        obtain ⟨to, hto, hoo⟩ := hC
        refine g_dec (fun h => absurd h (show ("sort" : Str) ≠ "flip" by decide +kernel)) (fun _ => ?_)
        walk_at "g"
        refine g_ixT (SqT.of hto) (v := .str "sort") (by rfl) ?_
        walk_at "g"
        refine g_dec (fun _ => ?_) (fun h => absurd rfl h)
        walk_at "g"
        refine g_ixT (SqT.of hto) (v := .ref to) (by rfl) ?_
        walk_at "g"
        have ho3 := hsok.le
        have ho1 := hsok.ne
        refine ⟨to, o, rfl, hoo, by omega, fun ln H3 hln x3 en => ?_⟩
        walk_at "g"
        refine g_ixT (SqT.of (x3 _ _ hto)) (v := .ref to) (by rfl) ?_
        walk_at "g"
        obtain ⟨os, hos1, hos2, hos3⟩ := hO.keep x3
        refine ⟨t, rfl, ⟨_, SqT.of hos1⟩, fun D hD => ?_⟩
        refine lc_inv (os.map V.ref) (fun m acc H' => XT H3 H' ∧ H' D = some (.lst acc) ∧ ∃ rs : List Addr, acc = rs.map V.ref ∧ rs.length ≤ m ∧ OTq H3 rs (((standF (ss.take j)).take m).filter fun c => decide (c.1 ∉ o.map (·.1)))) ⟨ext_newO hD, upd_same, [], rfl, Nat.le_refl _, rfl, fun i q c h => by simp at h⟩ (fun m acc H' p => fits_t (SqT.of (p.1 _ _ hos1))) (by rw [List.length_map]; omega) (fun m acc H' p => ?_) ?_ ?_
        · obtain ⟨_, e, rs, rfl, hle, _⟩ := p
          exact ⟨e, by rw [List.length_map]; exact hle⟩
        · rintro m acc y Hh R S hy ⟨xh, ed, rs, rfl, hle, hrs⟩ hR hS
          rw [List.getElem?_map] at hy
          obtain ⟨qm, hqm, rfl⟩ := Option.map_eq_some_iff.mp hy
          obtain ⟨c, hc⟩ : ∃ c, (standF (ss.take j))[m]? = some c := ⟨_, List.getElem?_eq_getElem (by have := (List.getElem?_eq_some_iff.mp hqm).1; omega)⟩
          have hqc := hos3 m qm c hqm hc
          have etk : (standF (ss.take j)).take (m + 1) = (standF (ss.take j)).take m ++ [c] := by rw [List.take_succ, hc]; rfl
          walk_at "g"
          refine ⟨rfl, ?_⟩
          walk_at "g"
          refine g_ixT (SqT.of (xh _ _ hqc)) (v := .str c.1) (show atI (pt c) 0 = some (.str c.1) from rfl) ?_
          walk_at "g"
          refine .inr ⟨_, (o.map (·.1)).map V.str, rfl, .inl (SqL.of (xh _ _ en)), rfl, Tw.flat_strs _, ?_⟩
          rw [if_pos rfl, inV_strs]
          walk_at "g"
          refine g_ndec (fun hn => ?_) (fun hn => ?_)
          · walk_at "g"
            refine hR _ _ ed ⟨XT.late xh hD, upd_same, rs ++ [qm], by rw [List.map_append]; rfl, by rw [List.length_append]; show rs.length + 1 ≤ m + 1; omega, ?_⟩
            rw [etk, List.filter_append, List.filter_cons, if_pos (decide_eq_true hn)]
            exact hrs.app (OTq.one hqc)
          · refine hS _ ⟨xh, ed, rs, rfl, by omega, ?_⟩
            rw [etk, List.filter_append, List.filter_cons, if_neg (by rw [decide_eq_false (fun h => h hn)]; exact Bool.false_ne_true)]
            simpa using hrs
        · rintro acc H4 ⟨x4, ed, rs, rfl, hle, hrs⟩
          rw [List.length_map, hos2, List.take_length] at hrs
          walk_at "g"
          refine g_tupL (SqL.of ed) fun t2 ht2 => ?_
          have x5 : XT H4 (upd H4 t2 (.tup (rs.map V.ref))) := ext_newO ht2
          have e5 : (upd H4 t2 (.tup (rs.map V.ref))) t2 = some (.tup (rs.map V.ref)) := upd_same
          generalize upd H4 t2 (.tup (rs.map V.ref)) = H5 at x5 e5
          have x35 : XT H3 H5 := XT.trans x4 x5
          obtain ⟨us, hus1, hus2, hus3⟩ := (hoo.keep x3).keep x35
          have hrs5 := hrs.keep x35
          have hrl := hrs5.1
          have hfl := List.length_filter_le (fun c : Str × Bool => decide (c.1 ∉ o.map (·.1))) (standF (ss.take j))
          walk_at "g"
          refine ⟨to, t2, us.map V.ref, rs.map V.ref, rfl, rfl, SqT.of hus1, SqT.of e5, fun e => ?_, by rw [List.length_map, List.length_map, sizeLine_eq]; omega, fun e => ?_, fun _ p hp => ?_⟩
          · have : us.length = 0 := by rw [← List.length_map (f := V.ref), e]; rfl
            omega
          · have er : rs = [] := List.map_eq_nil_iff.mp e
            have ef : ((standF (ss.take j)).filter fun c => decide (c.1 ∉ o.map (·.1))) = [] := List.length_eq_zero_iff.mp (by rw [← hrl, er]; rfl)
            walk_at "g"
            refine hnx _ _ ⟨to, _, _, _, rfl, XT.trans x2 (XT.trans x3 x35), ?_⟩
            rw [est]
            show OT H5 to (o ++ _)
            rw [ef, List.append_nil]
            exact ⟨us, hus1, hus2, hus3⟩
          · walk_at "g"
            refine hnx _ _ ⟨p, _, _, _, rfl, XT.trans x2 (XT.trans x3 (XT.trans x35 (ext_newO hp))), ?_⟩
            rw [est]
            have both := (OTq.app ⟨hus2, hus3⟩ hrs5).keep (ext_newO (o := .tup (us.map V.ref ++ rs.map V.ref)) hp)
            exact ⟨us ++ rs, by rw [upd_same, List.map_append], both.1, both.2⟩
      | keep ts =>
        refine g_dec (fun h => absurd h (show ("keep" : Str) ≠ "flip" by decide +kernel)) (fun _ => ?_)
        walk_at "g"
        refine g_ixT (SqT.of hr0) (v := .str "keep") (atI_nat (j := 0) rfl) ?_
        walk_at "g"
        refine g_dec (fun h => absurd h (show ("keep" : Str) ≠ "sort" by decide +kernel)) (fun _ => ?_)
        exact same rfl
      | dist ns =>
        refine g_dec (fun h => absurd h (show ("distinct" : Str) ≠ "flip" by decide +kernel)) (fun _ => ?_)
        walk_at "g"
        refine g_ixT (SqT.of hr0) (v := .str "distinct") (atI_nat (j := 0) rfl) ?_
        walk_at "g"
        refine g_dec (fun h => absurd h (show ("distinct" : Str) ≠ "sort" by decide +kernel)) (fun _ => ?_)
        exact same rfl
      | first =>
        refine g_dec (fun h => absurd h (show ("first" : Str) ≠ "flip" by decide +kernel)) (fun _ => ?_)
        walk_at "g"
        refine g_ixT (SqT.of hr0) (v := .str "first") (atI_nat (j := 0) rfl) ?_
        walk_at "g"
        refine g_dec (fun h => absurd h (show ("first" : Str) ≠ "sort" by decide +kernel)) (fun _ => ?_)
        exact same rfl
    · rintro σ' H2 ⟨t, s3, s4, s5, rfl, x2, hO⟩
      rw [List.length_map, List.length_take, Nat.min_eq_left (by omega)] at hO
      walk_at "g"
      exact k t _ (XT.trans x0A x2) hO
end
def Ts.cols (t : Ts) : List Str := t.atoms.flatMap Ts.flds
def spNames (C : Addr) (n : Nat) : Sp := fun vs H Q _ => ∃ (p : Addr) (t : Ts), vs = [.ref p] ∧ TestAt C H t p ∧ t.depth ≤ n ∧ t.size ≤ 1000 ∧ t.cols.length ≤ 1000 ∧
  ∀ zs L H', H L = none → (∀ q o, H q = some o → H' q = some o) → H' L = some (.lst (zs.map V.str)) → PyProof.Rows.sortedS zs = true → zs.Nodup → (∀ k, k ∈ zs ↔ k ∈ t.cols) → Q (.ref L) H'
section
variable {P : Program} {w : World} {K : PySem.W.Frag} {mg : Str → Option Value} {base : Heap}
end
def isI (v : V) : Prop := ∃ i, v = .int i
def isS (v : V) : Prop := ∃ z : Str, v = .str z ∧ z.length ≤ 100 ∧ ∀ c ∈ z.cps.toList, c ∈ signs.cps.toList
/-! the forms of tests -/
inductive At where
  | always
  | never
  | empty (c : Str)
  | among (c : Str) (vs : List V)
  | begins (c z : Str)
  | compare (c op : Str) (v : V)
  | against (c op d : Str) (n : Int)
namespace At
def word : At → Str
  | .always => "always"
  | .never => "never"
  | .empty _ => "empty"
  | .among _ _ => "among"
  | .begins _ _ => "begins"
  | .compare _ _ _ => "compare"
  | .against _ _ _ _ => "against"
def flds : At → List Str
  | .always => []
  | .never => []
  | .empty c => [c]
  | .among c _ => [c]
  | .begins c _ => [c]
  | .compare c _ _ => [c]
  | .against c _ d _ => [c, d]
def trms : At → List V
  | .always => []
  | .never => []
  | .empty _ => []
  | .among _ vs => vs
  | .begins _ z => [.str z]
  | .compare _ op v => [.str op, v]
  | .against _ op _ n => [.str op, .int n]
def ts (a : At) : Ts := .at a.word a.flds a.trms
end At
inductive Fm where
  | at (a : At)
  | un (w : Str) (f : Fm)
  | bi (w : Str) (f g : Fm)
namespace Fm
def ts : Fm → Ts
  | .at a => a.ts
  | .un w f => .un w f.ts
  | .bi w f g => .bi w f.ts g.ts
def cols : Fm → List Str
  | .at a => a.flds
  | .un _ f => f.cols
  | .bi _ f g => f.cols ++ g.cols
theorem ts_cols : ∀ f : Fm, f.ts.cols = f.cols
  | .at a => by simp [ts, cols, Ts.cols, Ts.atoms, At.ts, Ts.flds]
  | .un w f => by
    have := ts_cols f
    simpa [ts, cols, Ts.cols, Ts.atoms] using this
  | .bi w f g => by
    have h1 := ts_cols f
    have h2 := ts_cols g
    simp only [ts, cols, Ts.cols, Ts.atoms, List.flatMap_append] at h1 h2 ⊢
    rw [h1, h2]
def size (f : Fm) : Nat := f.ts.size
def depth (f : Fm) : Nat := f.ts.depth
end Fm
def opsL : List Str := ["<", "<=", "==", "!=", ">", ">="]
/-- a value of a kind: number, text -/
def isV : Bool → V → Prop
  | false, v => isI v
  | true, v => isS v
def At.Wf (κ : List (Str × Bool)) : At → Prop
  | .always => True
  | .never => True
  | .empty c => nameP c ∧ ∃ k, (c, k) ∈ κ
  | .among c vs => nameP c ∧ vs ≠ [] ∧ vs.length ≤ 8 ∧ ∃ k, (c, k) ∈ κ ∧ ∀ v ∈ vs, isV k v
  | .begins c z => nameP c ∧ (c, true) ∈ κ ∧ isS (.str z)
  | .compare c op v => nameP c ∧ op ∈ opsL ∧ ∃ k, (c, k) ∈ κ ∧ isV k v
  | .against c op d n => nameP c ∧ nameP d ∧ d ≠ c ∧ op ∈ opsL ∧ ∃ k, (c, k) ∈ κ ∧ (d, k) ∈ κ ∧ (k = true → n = 0)
def Fm.Wf (κ : List (Str × Bool)) : Fm → Prop
  | .at a => a.Wf κ
  | .un w f => (w = "not" ∨ w = "sure") ∧ f.Wf κ
  | .bi w f g => (w = "and" ∨ w = "or") ∧ f.Wf κ ∧ g.Wf κ
theorem isV.thing {H : Hp} {k : Bool} {v : V} (h : isV k v) : thing H v := by
  cases k with
  | false => obtain ⟨i, rfl⟩ := h; exact .inr (.inr (.inl ⟨i, rfl⟩))
  | true => obtain ⟨z, rfl, l, _⟩ := h; exact .inr (.inr (.inr (.inl ⟨z, rfl, l⟩)))
theorem isS.txt {z : Str} (h : isS (.str z)) : txtB z = true := by
  obtain ⟨y, e, _, hc⟩ := h
  cases e
  unfold txtB
  rw [List.all_eq_true]
  intro c m
  exact decide_eq_true (hc c m)
theorem isV.kind {k : Bool} {v : V} (h : isV k v) : ∃ s, kindV v = .str s := by
  cases k with
  | false => obtain ⟨i, rfl⟩ := h; exact ⟨_, rfl⟩
  | true =>
    obtain ⟨z, rfl, hz⟩ := h
    have e : txtB z = true := isS.txt ⟨z, rfl, hz⟩
    refine ⟨"text", ?_⟩
    show (if txtB z = true then V.str (Str.ofString "text") else V.non) = _
    rw [if_pos e]
/-! names from a pool -/
theorem log_small {m : Int} (h : m.natAbs < 2 ^ 64) : m.natAbs.log2 < 1920 := Nat.lt_of_lt_of_le (PySem.Flt.log2_lt_of (by decide) h) (by decide)
theorem nodup_le {α : Type} [DecidableEq α] : ∀ {ys xs : List α}, ys.Nodup → (∀ y ∈ ys, y ∈ xs) → ys.length ≤ xs.length
  | [], _, _, _ => Nat.zero_le _
  | y :: ys, xs, nd, h => by
    obtain ⟨n1, n2⟩ := List.nodup_cons.mp nd
    have hy := h y List.mem_cons_self
    have h2 : ys.length ≤ (xs.erase y).length := nodup_le n2 fun z hz => (List.mem_erase_of_ne (fun e : z = y => n1 (by rw [← e]; exact hz))).mpr (h z (List.mem_cons_of_mem _ hz))
    rw [List.length_erase_of_mem hy] at h2
    have := List.length_pos_of_mem hy
    simp
    omega
def digS (k : Nat) : Str := Str.ofString (toString (k : Int))
theorem dig_inj : ((List.range 60).map digS).Nodup := by decide +kernel
theorem dig_ok : ∀ k ∈ List.range 60, (digS k).length ≤ 2 ∧ (digS k).length ≠ 0 ∧ (∀ c ∈ (digS k).cps.toList, c ∈ nameSigns ∧ c < 97) := by decide +kernel
theorem kept_big : ∀ z ∈ keptWords, ∀ c ∈ z.cps.toList, 97 ≤ c := by decide +kernel
theorem app_inj {z a b : Str} (h : z ++ a = z ++ b) : a = b := by
  refine str_ext ?_
  have h2 := congrArg (fun s : Str => s.cps.toList) h
  simp only [PySem.W.KT.app_list] at h2
  exact List.append_cancel_left h2
theorem pick_at {ws : List Nat} {m : Nat} (hw : ws.length = m) {r : Int} (r0 : 0 ≤ r) (r1 : r < (m : Int)) : ∃ c, c ∈ ws ∧ atI ws r = some c := by
  obtain ⟨k4, rfl⟩ := Int.eq_ofNat_of_zero_le r0
  have hk : k4 < ws.length := by omega
  exact ⟨_, List.getElem_mem hk, atI_nat (List.getElem?_eq_getElem hk)⟩
/-- a name but for the words that are kept -/
def preP (z : Str) : Prop := z.length ≠ 0 ∧ z.length ≤ 8 ∧ (∀ c r, z.cps.toList = c :: r → c ∈ letters) ∧ ∀ c ∈ z.cps.toList, c ∈ nameSigns

theorem cut6 {z : Str} : (cutS z none (some 6)).cps.toList = z.cps.toList.take 6 := by
  show ((z.cps.toList.drop 0).take (HT.sIx z.length z.length (some ((6 : Nat) : Int)) - 0)) = _
  rw [HT.sIx_nat]
  have : z.cps.toList.length = z.length := Array.length_toList
  rw [List.drop_zero, Nat.sub_zero]
  by_cases h : 6 ≤ z.length
  · rw [Nat.min_eq_left h]
  · rw [Nat.min_eq_right (by omega), ← this, List.take_length, List.take_of_length_le (by omega)]
theorem cut6_len {z : Str} : (cutS z none (some 6)).length = min 6 z.length := by
  show (cutS z none (some 6)).cps.size = _
  have : z.cps.toList.length = z.length := Array.length_toList
  rw [← Array.length_toList, cut6, List.length_take, this]
theorem cut_name {z : Str} (hp : preP z) {i : Nat} (hi : i < 60) : nameP (cutS z none (some 6) ++ digS i) := by
  obtain ⟨d1, d2, d3⟩ := dig_ok i (List.mem_range.mpr hi)
  have hlen : (cutS z none (some 6) ++ digS i).length = min 6 z.length + (digS i).length := by rw [PySem.Str.length_append, cut6_len]
  have hz0 := hp.1
  have hcp : (cutS z none (some 6) ++ digS i).cps.toList = z.cps.toList.take 6 ++ (digS i).cps.toList := by rw [PySem.W.KT.app_list, cut6]
  refine ⟨by omega, by omega, fun c r h => ?_, fun hk => ?_, fun c h => ?_⟩
  · rw [hcp] at h
    cases e : z.cps.toList with
    | nil =>
      have : z.cps.toList.length = z.length := Array.length_toList
      rw [e] at this; simp at this; omega
    | cons b s =>
      rw [e] at h
      injection h with h1 _
      rw [← h1]
      exact hp.2.2.1 b s e
  · have hdl : (digS i).cps.toList.length = (digS i).length := Array.length_toList
    obtain ⟨c, hc⟩ : ∃ c, c ∈ (digS i).cps.toList := by
      cases e : (digS i).cps.toList with
      | nil => rw [e] at hdl; simp at hdl; omega
      | cons c r => exact ⟨c, List.mem_cons_self⟩
    have h1 := kept_big _ hk c (by rw [hcp]; exact List.mem_append.mpr (.inr hc))
    have h2 := (d3 c hc).2
    omega
  · rw [hcp] at h
    rcases List.mem_append.mp h with h | h
    · exact hp.2.2.2 c (List.mem_of_mem_take h)
    · exact (d3 c h).1
theorem preP.of {z : Str} (h : nameP z) : preP z := ⟨h.1, h.2.1, h.2.2.1, h.2.2.2.2⟩
theorem dig_one : ∀ k : Nat, k < 9 → (digS k).cps.toList = [48 + k] := by decide +kernel
theorem last_cut {z : Str} {k : Nat} (hk : k < 9) : (cutS z none (some 6) ++ digS k).cps.toList.getLast? = some (48 + k) := by
  rw [PySem.W.KT.app_list, dig_one k hk, List.getLast?_append]
  rfl
/-- names met so far, each among xs, no two alike -/
structure Chain (xs : List Str) (i : Nat) (z : Str) (ys : List Str) : Prop where
  nd : ys.Nodup
  len : ys.length = i - 1
  mem : ∀ y ∈ ys, y ∈ xs ∧ ∃ j, j + 1 < i ∧ y.cps.toList.getLast? = some (48 + j)
  last : 0 < i → z.cps.toList.getLast? = some (48 + (i - 1))
theorem Chain.zero {xs : List Str} {z : Str} : Chain xs 0 z [] := ⟨List.nodup_nil, rfl, fun y h => (nomatch h), fun h => absurd h (Nat.lt_irrefl 0)⟩
theorem Chain.next {xs ys : List Str} {i : Nat} {z : Str} (h : Chain xs i z ys) (hz : z ∈ xs) (hi : i < 9) : ∃ ys', Chain xs (i + 1) (cutS z none (some 6) ++ digS i) ys' := by
  cases i with
  | zero => exact ⟨[], List.nodup_nil, rfl, fun y h => (nomatch h), fun _ => last_cut hi⟩
  | succ i =>
    have hl := h.last (Nat.succ_pos i)
    refine ⟨z :: ys, List.nodup_cons.mpr ⟨fun hm => ?_, h.nd⟩, ?_, fun y hy => ?_, fun _ => last_cut hi⟩
    · obtain ⟨_, j, hj, e⟩ := h.mem z hm
      rw [hl] at e
      injection e with e
      simp at e
      omega
    · rw [List.length_cons, h.len]
      omega
    · rcases List.mem_cons.mp hy with rfl | hy
      · exact ⟨hz, i, by omega, by simpa using hl⟩
      · obtain ⟨h1, j, hj, e⟩ := h.mem y hy
        exact ⟨h1, j, by omega, e⟩
theorem Chain.end {xs ys : List Str} {z : Str} (h : Chain xs 9 z ys) (hx : xs.length ≤ 8) : z ∉ xs := fun hz => by
  obtain ⟨ys', h'⟩ : ∃ ys' : List Str, ys'.Nodup ∧ ys'.length = 9 ∧ ∀ y ∈ ys', y ∈ xs := by
    have hl := h.last (by omega)
    refine ⟨z :: ys, List.nodup_cons.mpr ⟨fun hm => ?_, h.nd⟩, by rw [List.length_cons, h.len], fun y hy => ?_⟩
    · obtain ⟨_, j, hj, e⟩ := h.mem z hm
      rw [hl] at e
      injection e with e
      simp at e
      omega
    · rcases List.mem_cons.mp hy with rfl | hy
      · exact hz
      · exact (h.mem y hy).1
  have := nodup_le h'.1 h'.2.2
  omega
def spNameN : Sp := fun vs H Q _ => ∃ (p L : Addr) (xs : List Str) (n : Nat), vs = [.ref p, .ref L] ∧ PD H p n ∧ n ≤ 900000 ∧ L ≠ p ∧ H L = some (.lst (xs.map V.str)) ∧ xs.length ≤ 8 ∧ ∀ z H', nameP z → z ∉ xs → PD H' p (n + 20) → Keep p H H' → Q (.str z) H'
section
variable {P : Program} {w : World} {K : PySem.W.Frag} {mg : Str → Option Value} {base : Heap}
theorem ok__law_name (T : TxtW w K mg) : Def P w K mg base 2 "_law_name" ["_law_pool_here", "_law_taken"] spNameN := by
  obtain ⟨f, fd, h⟩ := T.d__law_name
  refine h.def (Fun.okM h.fn sc__law_name (fun vs H Q E h => ?_) (fun cdv A outer s H vs Q E hr h => ?_))
  · obtain ⟨p, L, xs, n, rfl, _⟩ := h
    rfl
  · obtain ⟨p, L, xs, n, rfl, hD, hn, hLp, hL, hx8, k⟩ := h
    refine ⟨_, (pss_cons (ps_set (i := 2) sc__law_name.nd rfl (Or.inl rfl) pe_str)
  (pss_cons (ps_set (i := 3) sc__law_name.nd rfl (Or.inl rfl) (pe_ix (ix_seqG (K := K) rfl) (pv 2) (pe_def (ok__law_draw T) hr rfl (pa_cons (pv 0) (pa_cons pe_int pa_nil))) (fun _ _ => rfl)))
  (pss_cons (ps_set (i := 4) sc__law_name.nd rfl (Or.inl rfl) (pe_ix (ix_seqG (K := K) rfl) (pe_lst (pa_cons pe_int (pa_cons pe_int (pa_cons pe_int (pa_cons pe_int (pa_cons pe_int pa_nil)))))) (pe_def (ok__law_draw T) hr rfl (pa_cons (pv 0) (pa_cons pe_int pa_nil))) (fun _ _ => rfl)))
  (pss_cons (ps_for PassesOwn.never rfl (pi_range1 rfl T.h_range (pa_cons (pv 4) pa_nil)) (pg_name (i := 5) sc__law_name.nd rfl (Or.inl rfl))
  (pss_one (ps_set (i := 3) sc__law_name.nd rfl (Or.inl rfl) (pe_op op_addG (pv 3) (pe_ix (ix_seqG (K := K) rfl) (pv 2) (pe_def (ok__law_draw T) hr rfl (pa_cons (pv 0) (pa_cons pe_int pa_nil))) (fun _ _ => rfl))))))
  (Evl.pss_cut (ps_if (pt_cmpR (op_inG (K := K) rfl) (pv 3) (pe_lst (pa_cons pe_str (pa_cons pe_str (pa_cons pe_str (pa_cons pe_str (pa_cons pe_str (pa_cons pe_str (pa_cons pe_str (pa_cons pe_str (pa_cons pe_str (pa_cons pe_str pa_nil))))))))))) (by rfl))
  (pss_one (ps_set (i := 3) sc__law_name.nd rfl (Or.inl rfl) (pe_op op_addG (pe_slice (sl_G (K := K) rfl) (pv 3) po_none (po_some pe_int)) pe_str)))
  pss_nil)
  (pss_cons (ps_for PassesOwn.never rfl (pi_range1 rfl T.h_range (pa_cons pe_int pa_nil)) (pg_name (i := 5) sc__law_name.nd rfl (Or.inl rfl))
  (pss_one (ps_if (pt_cmpR (op_inG (K := K) rfl) (pv 3) (pv 1) (by rfl))
  (pss_one (ps_set (i := 3) sc__law_name.nd rfl (Or.inl rfl) (pe_op op_addG (pe_slice (sl_G (K := K) rfl) (pv 3) po_none (po_some pe_int)) (pe_callTy call_str_int (by rfl) T.h_str (by decide +kernel) (pa_cons (pv 5) pa_nil)))))
  pss_nil)))
  (pss_one (ps_ret (pv 3))))))))), ?_⟩
    walk_at "g"
    have hz1 : (Str.ofString "abcdefghijklmnopqrstuvwxyz0123456789").cps.toList = nameSigns := rfl
    generalize hz0 : Str.ofString "abcdefghijklmnopqrstuvwxyz0123456789" = zc at hz1 ⊢
    have hzc : zc.length = 36 := by rw [← hz0]; decide +kernel
    have hfst : ∀ k : Nat, k < 26 → ∃ c, nameSigns[k]? = some c ∧ c ∈ letters := by decide +kernel
    have hlt : ∀ c ∈ letters, c ∈ nameSigns := by decide +kernel
    have hnl : nameSigns.length = 36 := by decide +kernel
    clear hz0
    refine ⟨_, _, _, rfl, hD, by omega, by decide, by decide +kernel, fun r H1 r0 r1 D1 K1 => ?_⟩
    obtain ⟨r, rfl⟩ := Int.eq_ofNat_of_zero_le r0
    obtain ⟨c, hc, hcl⟩ := hfst r (by omega)
    refine g_ixS (n := c) (by rw [hzc]; decide) (by rw [hz1]; exact atI_nat hc) ?_
    walk_at "g"
    refine ⟨by show 5 ≤ sizeLine; decide, fun q hq => ?_⟩
    have nq := D1.ne hq
    have D2 := D1.new (o := .lst [.int 0, .int 0, .int 1, .int 2, .int 6]) hq
    have K2 := K1.new (o := .lst [.int 0, .int 0, .int 1, .int 2, .int 6]) (K1.back nq hq)
    have e2 : (upd H1 q (.lst [.int 0, .int 0, .int 1, .int 2, .int 6])) q = some (.lst [.int 0, .int 0, .int 1, .int 2, .int 6]) := upd_same
    generalize upd H1 q (.lst [.int 0, .int 0, .int 1, .int 2, .int 6]) = H2 at D2 K2 e2
    walk_at "g"
    refine ⟨_, _, _, rfl, D2, by omega, by decide, by decide +kernel, fun r3 H3 r30 r31 D3 K3 => ?_⟩
    obtain ⟨m, hm, m0, m1⟩ : ∃ m : Int, atI [V.int 0, V.int 0, V.int 1, V.int 2, V.int 6] r3 = some (.int m) ∧ 0 ≤ m ∧ m ≤ 6 := by
      have : r3 = 0 ∨ r3 = 1 ∨ r3 = 2 ∨ r3 = 3 ∨ r3 = 4 := by omega
      rcases this with rfl | rfl | rfl | rfl | rfl
      · exact ⟨0, rfl, by decide, by decide⟩
      · exact ⟨0, rfl, by decide, by decide⟩
      · exact ⟨1, rfl, by decide, by decide⟩
      · exact ⟨2, rfl, by decide, by decide⟩
      · exact ⟨6, rfl, by decide, by decide⟩
    refine g_ixL (SqL.of (K3 _ _ nq e2)) hm ?_
    have K03 := K2.trans K3
    walk_at "g"
    refine ⟨_, rfl, by omega, by omega, ?_⟩
    refine for_rangeA (fun i σ' H' => ∃ (z : Str) (s5 : Option V), σ' = [some (.ref p), some (.ref L), some (.str zc), some (.str z), some (.int m), s5] ∧ z.length = i + 1 ∧ preP z ∧ PD H' p (n + 2 + i) ∧ Keep p H H') ⟨_, none, rfl, rfl, ⟨by show 1 ≠ 0; omega, by show 1 ≤ 8; omega, fun a r h => ?_, fun a h => ?_⟩, D3.mono (by omega), K03⟩ ?_ ?_
    · have h' : [c] = a :: r := h
      injection h' with h1 _
      rw [← h1]; exact hcl
    · have : a = c := by simpa using h
      rw [this]; exact hlt c hcl
    · rintro i σ' H4 D' hi ⟨z, s5, rfl, hz, hp, D4, K4⟩ hnx hct hbk hrt
      walk_at "g"
      refine ⟨_, _, _, rfl, D4, by omega, by decide, by decide +kernel, fun r5 H5 r50 r51 D5 K5 => ?_⟩
      obtain ⟨c, hc, hat⟩ := pick_at (ws := nameSigns) hnl r50 r51
      refine g_ixS (n := c) (by rw [hzc]; decide) (by rw [hz1]; exact hat) ?_
      have hl1 : (z ++ (⟨#[c]⟩ : Str)).length = i + 1 + 1 := by rw [PySem.Str.length_append, hz]; rfl
      refine g_addS (by rw [sizeLine_eq]; show z.length + 1 ≤ _; omega) ?_
      walk_at "g"
      refine hnx _ _ ⟨_, _, rfl, hl1, ⟨by omega, by omega, fun a r h => ?_, fun a h => ?_⟩, D5, K4.trans K5⟩
      · rw [PySem.W.KT.app_list] at h
        cases e : z.cps.toList with
        | nil =>
          have : z.cps.toList.length = z.length := Array.length_toList
          rw [e, hz] at this; simp at this
        | cons b s =>
          rw [e] at h
          injection h with h1 _
          rw [← h1]
          exact hp.2.2.1 b s e
      · rw [PySem.W.KT.app_list] at h
        rcases List.mem_append.mp h with h | h
        · exact hp.2.2.2 a h
        · have : a = c := by simpa using h
          rw [this]; exact hc
    · rintro σ' H4 ⟨z, s5, rfl, hz, hp, D4, K4⟩
      refine g_seq ?_
      refine g_cutA (M := fun σ' H' => ∃ (z : Str) (s5 : Option V), σ' = [some (.ref p), some (.ref L), some (.str zc), some (.str z), some (.int m), s5] ∧ nameP z ∧ PD H' p (n + 20) ∧ Keep p H H') (fun D' hn1 hrt _ _ => ?_) ?_
      · walk_at "g"
        refine ⟨by show 10 ≤ sizeLine; decide, fun q hq => ?_⟩
        have hfl : (keptWords.map V.str) = [V.str (Str.ofString "and"), V.str (Str.ofString "or"), V.str (Str.ofString "not"), V.str (Str.ofString "sure"), V.str (Str.ofString "in"), V.str (Str.ofString "is"), V.str (Str.ofString "empty"), V.str (Str.ofString "begins"), V.str (Str.ofString "always"), V.str (Str.ofString "never")] := rfl
        rw [← hfl]
        refine .inr ⟨_, keptWords.map V.str, rfl, .inl (SqL.of upd_same), rfl, Tw.flat_strs _, ?_⟩
        rw [if_neg Bool.false_ne_true, inV_strs]
        walk_at "g"
        have nq := D4.ne hq
        have D5 := (D4.mono (m := n + 20) (by omega)).new (o := .lst (keptWords.map V.str)) hq
        have K5 := K4.new (o := .lst (keptWords.map V.str)) (K4.back nq hq)
        refine g_dec (fun hk => ?_) (fun hk => ?_)
        · walk_at "g"
          have h8 := hp.2.1
          refine g_slS (by rw [sizeLine_eq]; omega) ?_
          walk_at "g"
          refine g_addS (by rw [cut6_len, sizeLine_eq]; show min 6 z.length + 1 ≤ _; omega) ?_
          walk_at "g"
          exact hn1 _ _ ⟨_, _, rfl, cut_name hp (i := 0) (by omega), D5, K5⟩
        · walk_at "g"
          exact hn1 _ _ ⟨_, _, rfl, ⟨hp.1, hp.2.1, hp.2.2.1, hk, hp.2.2.2⟩, D5, K5⟩
      · rintro σ' H5 ⟨z, s5, rfl, hz, D5, K5⟩
        have hL5 := K5 _ _ hLp hL
        walk_at "g"
        refine ⟨_, rfl, by decide, by decide, ?_⟩
        refine for_rangeA (fun i σ' H' => ∃ (z : Str) (s5 : Option V), σ' = [some (.ref p), some (.ref L), some (.str zc), some (.str z), some (.int m), s5] ∧ nameP z ∧ (z ∉ xs ∨ ∃ ys, Chain xs i z ys) ∧ H' = H5) ⟨_, _, rfl, hz, .inr ⟨_, Chain.zero⟩, rfl⟩ ?_ ?_
        · rintro i σ' H6 D' hi ⟨z, s5, rfl, hz, hch, rfl⟩ hnx hct hbk hrt
          have hi9 : i < 9 := by simpa using hi
          walk_at "g"
          refine .inr ⟨_, xs.map V.str, rfl, .inl (SqL.of hL5), rfl, Tw.flat_strs _, ?_⟩
          rw [if_neg Bool.false_ne_true, inV_strs]
          walk_at "g"
          refine g_dec (fun hm => ?_) (fun hm => ?_)
          · walk_at "g"
            have h8 := hz.2.1
            refine g_slS (by rw [sizeLine_eq]; omega) ?_
            walk_at "g"
            refine ⟨_, rfl, log_small (by omega), ?_⟩
            have hds : Str.ofString (toString (0 + (i : Int))) = digS i := by unfold digS; rw [Int.zero_add]
            rw [hds]
            refine g_addS (by rw [cut6_len, sizeLine_eq]; have := (dig_ok i (List.mem_range.mpr (by omega))).1; omega) ?_
            walk_at "g"
            refine hnx _ _ ⟨_, _, rfl, cut_name (preP.of hz) (by omega), .inr ?_, rfl⟩
            rcases hch with h | ⟨ys, h⟩
            · exact absurd hm h
            · exact h.next hm hi9
          · walk_at "g"
            exact hnx _ _ ⟨_, _, rfl, hz, .inl hm, rfl⟩
        · rintro σ' H6 ⟨z, s5, rfl, hz, hch, rfl⟩
          walk_at "g"
          refine k _ _ hz ?_ D5 K5
          rcases hch with h | ⟨ys, h⟩
          · exact h
          · exact h.end hx8
end
theorem sg_app {z : Str} {c : Nat} (h : ∀ c ∈ z.cps.toList, c ∈ signs.cps.toList) (hc : c ∈ signs.cps.toList) : ∀ d ∈ (z ++ (⟨#[c]⟩ : Str)).cps.toList, d ∈ signs.cps.toList := fun d hd => by
  rw [PySem.W.KT.app_list] at hd
  rcases List.mem_append.mp hd with hd | hd
  · exact h d hd
  · have : d = c := by simpa using hd
    rw [this]; exact hc
theorem sg_three : ∀ c ∈ (Str.ofString " a~").cps.toList, c ∈ signs.cps.toList := by decide +kernel
theorem sign_in {z : Str} {m : Nat} (h : z.length = m) {r : Int} (r0 : 0 ≤ r) (r1 : r < (m : Int)) : ∃ c, c ∈ z.cps.toList ∧ atI z.cps.toList r = some c := by
  obtain ⟨k4, rfl⟩ := Int.eq_ofNat_of_zero_le r0
  have e : z.cps.toList.length = z.length := Array.length_toList
  exact ⟨_, List.getElem_mem (by omega), atI_nat (List.getElem?_eq_getElem (by omega))⟩
section
variable {P : Program} {w : World} {K : PySem.W.Frag} {mg : Str → Option Value} {base : Heap}
def spValueV : Sp := fun vs H Q _ => ∃ (p : Addr) (kd : Bool) (n : Nat), vs = [.ref p, .str (kS kd)] ∧ PD H p n ∧ n ≤ 900000 ∧ ∀ v H', isV kd v → PD H' p (n + 60) → Keep p H H' → Q v H'
theorem ok__law_value (T : TxtW w K mg) : Def P w K mg base 2 "_law_value" ["_law_pool_here", "_law_kind"] spValueV := by
  obtain ⟨f, fd, h⟩ := T.d__law_value
  refine h.def (Fun.okM h.fn sc__law_value (fun vs H Q E h => ?_) (fun cdv A outer s H vs Q E hr h => ?_))
  · obtain ⟨p, kd, n, rfl, _⟩ := h
    rfl
  · obtain ⟨p, kd, n, rfl, hD, hn, k⟩ := h
    refine ⟨_, (pss_cons (ps_set (i := 2) sc__law_value.nd rfl (Or.inl rfl) (pe_cmpR op_eq (pe_def (ok__law_draw T) hr rfl (pa_cons (pv 0) (pa_cons pe_int pa_nil))) pe_int (nomark _)))
  (pss_cons (ps_if (pt_cmpR op_eq (pv 1) pe_str (nomark _))
  (Evl.pss_cut (ps_if (pt_val (pv 2))
  (pss_one (ps_ret (pe_op op_addG (pe_op op_subG (pe_def (ok__law_draw T) hr rfl (pa_cons (pv 0) (pa_cons (pe_op op_subG (pe_op op_mulG pe_int (pe_op op_powG' pe_int pe_int)) pe_int) pa_nil))) (pe_op op_powG' pe_int pe_int)) pe_int)))
  pss_nil)
  (pss_one (ps_ret (pe_op op_subG (pe_def (ok__law_draw T) hr rfl (pa_cons (pv 0) (pa_cons pe_int pa_nil))) pe_int))))
  pss_nil)
  (pss_cons (ps_set (i := 3) sc__law_value.nd rfl (Or.inl rfl) pe_str)
  (pss_cons (ps_set (i := 4) sc__law_value.nd rfl (Or.inl rfl) (pe_def (ok__law_draw T) hr rfl (pa_cons (pv 0) (pa_cons pe_int pa_nil))))
  (Evl.pss_cut (ps_if (pt_val (pv 2))
  (pss_one (ps_set (i := 4) sc__law_value.nd rfl (Or.inl rfl) (pe_def (ok__law_draw T) hr rfl (pa_cons (pv 0) (pa_cons pe_int pa_nil)))))
  pss_nil)
  (pss_cons (ps_set (i := 5) sc__law_value.nd rfl (Or.inl rfl) pe_str)
  (pss_cons (ps_for PassesOwn.never rfl (pi_range1 rfl T.h_range (pa_cons (pv 4) pa_nil)) (pg_name (i := 6) sc__law_value.nd rfl (Or.inl rfl))
  (pss_one (ps_if (pt_val (pv 2))
  (pss_one (ps_set (i := 5) sc__law_value.nd rfl (Or.inl rfl) (pe_op op_addG (pv 5) (pe_ix (ix_seqG (K := K) rfl) (pv 3) (pe_def (ok__law_draw T) hr rfl (pa_cons (pv 0) (pa_cons pe_int pa_nil))) (fun _ _ => rfl)))))
  (pss_one (ps_set (i := 5) sc__law_value.nd rfl (Or.inl rfl) (pe_op op_addG (pv 5) (pe_ix (ix_seqG (K := K) rfl) pe_str (pe_def (ok__law_draw T) hr rfl (pa_cons (pv 0) (pa_cons pe_int pa_nil))) (fun _ _ => rfl))))))))
  (pss_one (ps_ret (pv 5)))))))))), ?_⟩
    walk_at "g"
    refine ⟨_, _, _, rfl, hD, by omega, by decide, by decide +kernel, fun r H1 r0 r1 D1 K1 => ?_⟩
    walk_at "g"
    generalize decide (r = 5) = wd
    cases kd with
    | false =>
      refine g_dec (fun _ => ?_) (fun h => absurd rfl h)
      refine g_cutA (M := fun σ' H' => σ' = [some (.ref p), some (.str (kS false)), some (.bl wd), none, none, none, none] ∧ H' = H1) (fun D' hn1 hrt _ _ => ?_) ?_
      · walk_at "g"
        refine g_split (fun _ => ?_) (fun _ => ?_)
        · walk_at "g"
          refine ⟨_, _, _, rfl, D1, by omega, by decide, by decide +kernel, fun r2 H2 r20 r21 D2 K2 => ?_⟩
          walk_at "g"
          rw [hrt]
          exact k _ _ ⟨_, rfl⟩ (D2.mono (by omega)) (K1.trans K2)
        · walk_at "g"
          exact hn1 _ _ ⟨rfl, rfl⟩
      · rintro σ' H' ⟨rfl, rfl⟩
        walk_at "g"
        refine ⟨_, _, _, rfl, D1, by omega, by decide, by decide +kernel, fun r2 H2 r20 r21 D2 K2 => ?_⟩
        walk_at "g"
        exact k _ _ ⟨_, rfl⟩ (D2.mono (by omega)) (K1.trans K2)
    | true =>
      refine g_dec (fun h => absurd h (show ("text" : Str) ≠ "number" by decide +kernel)) (fun _ => ?_)
      walk_at "g"
      generalize hz0 : Str.ofString " !\"#$&'()*+,-./0123456789:;<=>?@ABCDEFGHIJKLMNOPQRSTUVWXYZ[\\]^_`abcdefghijklmnopqrstuvwxyz{|}~" = zc
      have hzc : zc.length = 94 := by rw [← hz0]; decide +kernel
      have hzs : ∀ c ∈ zc.cps.toList, c ∈ signs.cps.toList := by rw [← hz0]; exact fun c h => h
      clear hz0
      refine ⟨_, _, _, rfl, D1, by omega, by decide, by decide +kernel, fun r2 H2 r20 r21 D2 K2 => ?_⟩
      have K02 := K1.trans K2
      refine g_cutA (M := fun σ' H' => ∃ m : Int, σ' = [some (.ref p), some (.str (kS true)), some (.bl wd), some (.str zc), some (.int m), none, none] ∧ 0 ≤ m ∧ m < 41 ∧ PD H' p (n + 3) ∧ Keep p H H') (fun D' hn1 hrt _ _ => ?_) ?_
      · walk_at "g"
        refine g_split (fun _ => ?_) (fun _ => ?_)
        · walk_at "g"
          refine ⟨_, _, _, rfl, D2, by omega, by decide, by decide +kernel, fun r3 H3 r30 r31 D3 K3 => ?_⟩
          walk_at "g"
          exact hn1 _ _ ⟨_, rfl, r30, r31, D3.mono (by omega), K02.trans K3⟩
        · walk_at "g"
          exact hn1 _ _ ⟨_, rfl, r20, by omega, D2.mono (by omega), K02⟩
      · rintro σ' H3 ⟨m, rfl, m0, m1, D3, K3⟩
        walk_at "g"
        refine ⟨_, rfl, by omega, by omega, ?_⟩
        refine for_rangeA (fun i σ' H' => ∃ (z : Str) (s6 : Option V), σ' = [some (.ref p), some (.str (kS true)), some (.bl wd), some (.str zc), some (.int m), some (.str z), s6] ∧ z.length ≤ i ∧ (∀ c ∈ z.cps.toList, c ∈ signs.cps.toList) ∧ PD H' p (n + 3 + i) ∧ Keep p H H') ⟨_, none, rfl, Nat.le_refl _, fun c h => absurd h (by simp [show (Str.ofString "").cps.toList = [] from rfl]), D3, K3⟩ ?_ ?_
        · rintro i σ' H4 D' hi ⟨z, s6, rfl, hz, hsg, D4, K4⟩ hnx hct hbk hrt
          have hi41 : i < 41 := by omega
          walk_at "g"
          refine g_split (fun _ => ?_) (fun _ => ?_)
          · walk_at "g"
            refine ⟨_, _, _, rfl, D4, by omega, by decide, by decide +kernel, fun r5 H5 r50 r51 D5 K5 => ?_⟩
            obtain ⟨c, hcm, hc⟩ := sign_in hzc r50 r51
            refine g_ixS (n := c) (by rw [hzc]; decide) hc ?_
            have hl1 : (z ++ (⟨#[c]⟩ : Str)).length = z.length + 1 := by rw [PySem.Str.length_append]; rfl
            refine g_addS (by rw [sizeLine_eq]; show z.length + 1 ≤ _; omega) ?_
            walk_at "g"
            exact hnx _ _ ⟨_, _, rfl, by omega, sg_app hsg (hzs _ hcm), D5, K4.trans K5⟩
          · walk_at "g"
            refine ⟨_, _, _, rfl, D4, by omega, by decide, by decide +kernel, fun r5 H5 r50 r51 D5 K5 => ?_⟩
            obtain ⟨c, hcm, hc⟩ := sign_in (z := Str.ofString " a~") (m := 3) (by decide +kernel) r50 r51
            refine g_ixS (n := c) (by decide +kernel) hc ?_
            have hl1 : (z ++ (⟨#[c]⟩ : Str)).length = z.length + 1 := by rw [PySem.Str.length_append]; rfl
            refine g_addS (by rw [sizeLine_eq]; show z.length + 1 ≤ _; omega) ?_
            walk_at "g"
            exact hnx _ _ ⟨_, _, rfl, by omega, sg_app hsg (sg_three _ hcm), D5, K4.trans K5⟩
        · rintro σ' H4 ⟨z, s6, rfl, hz, hsg, D4, K4⟩
          walk_at "g"
          exact k _ _ ⟨z, rfl, by omega, hsg⟩ (D4.mono (by omega)) K4
end
section
variable {P : Program} {w : World} {K : PySem.W.Frag} {mg : Str → Option Value} {base : Heap}
def spColsN : Sp := fun vs H Q _ => ∃ (p : Addr) (m : Int) (n : Nat), vs = [.ref p, .int m] ∧ PD H p n ∧ n ≤ 800000 ∧ 0 < m ∧ m ≤ 8 ∧ ∀ (L : Addr) (cs : List Col) (H' : Hp), ColsOk cs → LAt H' L (cs.map ct) → H L = none → Keep p H H' → Q (.ref L) H'
theorem ok__law_columns (T : TxtW w K mg) : Def P w K mg base 3 "_law_columns" ["_law_pool_here", "_law_most"] spColsN := by
  obtain ⟨f, fd, h⟩ := T.d__law_columns
  refine h.def (Fun.okM h.fn sc__law_columns (fun vs H Q E h => ?_) (fun cdv A outer s H vs Q E hr h => ?_))
  · obtain ⟨p, m, n, rfl, _⟩ := h
    rfl
  · obtain ⟨p, m, n, rfl, hD, hn, hm0, hm, k⟩ := h
    refine ⟨_, (pss_cons (ps_set (i := 2) sc__law_columns.nd rfl (Or.inl rfl) (pe_lst pa_nil))
  (pss_cons (ps_for PassesOwn.never rfl (pi_range1 rfl T.h_range (pa_cons (pe_op op_addG pe_int (pe_def (ok__law_draw T) hr rfl (pa_cons (pv 0) (pa_cons (pv 1) pa_nil)))) pa_nil)) (pg_name (i := 3) sc__law_columns.nd rfl (Or.inl rfl))
  (pss_cons (ps_set (i := 4) sc__law_columns.nd rfl (Or.inl rfl) (pe_def (ok__law_name T) hr rfl (pa_cons (pv 0) (pa_cons (pe_lc (own := [("_law_column", 5)]) rfl sc__law_columns.nd (pi_list (pv 2)) (blkOk_by (N := N__law_columns) (sc := defScope S__law_columns) (by decide +kernel)) (fun _ _ _ _ _ => pg_name (i := 5) sc__law_columns.nd rfl (Or.inl rfl)) (fun _ _ _ _ _ => pts_nil) (fun _ _ _ _ _ => (pe_ix (ix_seqG (K := K) rfl) (pv 5) pe_int (fun _ _ => rfl)))) pa_nil))))
  (pss_one (ps_expr (pe_bm PySem.F.plainAttrs_list PySem.F.slot_list_append PySem.F.type_list_append mt_append (pv 2) (pa_cons (pe_tup (pa_cons (pv 4) (pa_cons (pe_ix (ix_seqG (K := K) rfl) (pe_lst (pa_cons pe_str (pa_cons pe_str (pa_cons pe_str pa_nil)))) (pe_def (ok__law_draw T) hr rfl (pa_cons (pv 0) (pa_cons pe_int pa_nil))) (fun _ _ => rfl)) (pa_cons (pe_cmpR op_eq (pe_def (ok__law_draw T) hr rfl (pa_cons (pv 0) (pa_cons pe_int pa_nil))) pe_int (nomark _)) pa_nil)))) pa_nil))))))
  (pss_one (ps_ret (pv 2))))), ?_⟩
    walk_at "g"
    refine ⟨Nat.zero_le _, fun L hL => ?_⟩
    have nL := hD.ne hL
    have D1 := hD.new (o := .lst []) hL
    have K1 := (Keep.refl p H).new (o := .lst []) hL
    have e1 : LAt (upd H L (.lst [])) L (([] : List Col).map ct) := ⟨[], upd_same, rfl, fun i q t h => by simp at h⟩
    generalize upd H L (.lst []) = H1 at D1 K1 e1
    walk_at "g"
    refine ⟨_, _, _, rfl, D1, by omega, hm0, Nat.lt_of_lt_of_le (log_small (by omega)) (by decide), fun r H2 r0 r1 D2 K2 => ?_⟩
    walk_at "g"
    refine ⟨_, rfl, by omega, by omega, ?_⟩
    refine for_rangeA (fun i σ' H' => ∃ (s3 s4 s5 : Option V) (cs : List Col), σ' = [some (.ref p), some (.int m), some (.ref L), s3, s4, s5] ∧ PD H' p (n + 1 + 30 * i) ∧ Keep p H H' ∧ LAt H' L (cs.map ct) ∧ cs.length = i ∧ (∀ c ∈ cs, nameP c.1) ∧ (cs.map (·.1)).Nodup) ⟨none, none, none, [], rfl, D2, K1.trans K2, e1.keepP nL D1.at K2, rfl, fun c hc => (nomatch hc), List.nodup_nil⟩ ?_ ?_
    · rintro i σ' H4 D' hi ⟨s3, s4, s5, cs, rfl, D4, K4, hC4, rfl, hcsk, hnd⟩ hnx hct hbk hrt
      have hi12 : cs.length < 12 := by omega
      obtain ⟨qs, hq4, hlen, hcol⟩ := id hC4
      rw [List.length_map] at hlen
      walk_at "g"
      refine ⟨L, rfl, ⟨_, SqL.of hq4⟩, fun Do hDo => ?_⟩
      refine lc_new (qs.map V.ref) (fun i y _ => ∃ x, cs[i]? = some x ∧ y = .str x.1) hDo (fun H2 k2 => fits_l (SqL.of (k2 _ _ hq4))) (by rw [List.length_map]; omega) (fun i y Ha Hb _ h _ => h) (fun i y Hh R S hy kh _ hR => ?_) (fun H5 ys k5 h5' hyl hys => ?_)
      · rw [List.getElem?_map] at hy
        obtain ⟨q5, hq5, rfl⟩ := Option.map_eq_some_iff.mp hy
        obtain ⟨x, hx⟩ : ∃ x, cs[i]? = some x := ⟨_, List.getElem?_eq_getElem (by have := (List.getElem?_eq_some_iff.mp hq5).1; omega)⟩
        have e5 := kh _ _ (hcol i q5 (ct x) hq5 (by rw [List.getElem?_map, hx]; rfl))
        walk_at "g"
        refine ⟨rfl, ?_⟩
        walk_at "g"
        refine g_ixT (SqT.of e5) (v := .str x.1) (show atI (ct x) 0 = some (.str x.1) from rfl) ?_
        exact hR _ _ (fun _ _ h => h) ⟨x, hx, rfl⟩
      · obtain rfl : ys = (cs.map (·.1)).map V.str := by
          refine List.ext_getElem (by rw [hyl, List.length_map, List.length_map, List.length_map, hlen]) fun i g1 g2 => ?_
          obtain ⟨x, hx, e⟩ := hys i _ (List.getElem?_eq_getElem g1)
          rw [e, List.getElem_map, List.getElem_map]
          obtain ⟨h3, h4⟩ := List.getElem?_eq_some_iff.mp hx
          rw [h4]
        have D5 : PD H5 p (n + 1 + 30 * cs.length) := by
          obtain ⟨a, b, c, e, r⟩ := D4
          exact ⟨a, b, c, k5 _ _ e, r⟩
        have hDp : Do ≠ p := D4.ne hDo
        have K5 : Keep p H H5 := fun q o nq h => k5 _ _ (K4 q o nq h)
        have hC5 := hC4.keep k5
        walk_at "g"
        refine ⟨_, _, cs.map (·.1), _, rfl, D5, by omega, hDp, h5', by rw [List.length_map]; omega, fun z H6 hzk hzn D6 K6 => ?_⟩
        have hC6 := hC5.keepP nL D5.at K6
        have K06 := K5.trans K6
        obtain ⟨qs6, hq6, _⟩ := id hC6
        walk_at "g"
        refine ⟨by show 3 ≤ sizeLine; decide, fun l hl => ?_⟩
        have nl := D6.ne hl
        have D7 := D6.new (o := .lst [.str (kS false), .str (kS true), .str (kS false)]) hl
        have K7 := K06.new (o := .lst [.str (kS false), .str (kS true), .str (kS false)]) (K06.back nl hl)
        have hC7 := hC6.keep (H' := upd H6 l (.lst [.str (kS false), .str (kS true), .str (kS false)])) (fun q o h => by rw [upd_ne (ne_of_none h hl)]; exact h)
        have e7 : (upd H6 l (.lst [.str (kS false), .str (kS true), .str (kS false)])) l = some (.lst [.str (kS false), .str (kS true), .str (kS false)]) := upd_same
        have e0 : upd H6 l (.lst [.str (Str.ofString "number"), .str (Str.ofString "text"), .str (Str.ofString "number")]) = upd H6 l (.lst [.str (kS false), .str (kS true), .str (kS false)]) := rfl
        rw [e0]
        generalize upd H6 l (.lst [.str (kS false), .str (kS true), .str (kS false)]) = H7 at D7 K7 hC7 e7
        walk_at "g"
        refine ⟨_, _, _, rfl, D7, by omega, by decide, by decide +kernel, fun r2 H8 r20 r21 D8 K8 => ?_⟩
        obtain ⟨kd, ek⟩ : ∃ kd : Bool, atI [V.str (kS false), V.str (kS true), V.str (kS false)] r2 = some (.str (kS kd)) := by
          have : r2 = 0 ∨ r2 = 1 ∨ r2 = 2 := by omega
          rcases this with rfl | rfl | rfl
          · exact ⟨false, rfl⟩
          · exact ⟨true, rfl⟩
          · exact ⟨false, rfl⟩
        refine g_ixL (SqL.of (K8 _ _ nl e7)) ek ?_
        have hC8 := hC7.keepP nL D7.at K8
        walk_at "g"
        refine ⟨_, _, _, rfl, D8, by omega, by decide, by decide +kernel, fun r3 H9 r30 r31 D9 K9 => ?_⟩
        have hC9 := hC8.keepP nL D8.at K9
        have K09 := (K7.trans K8).trans K9
        walk_at "g"
        refine ⟨by show 3 ≤ sizeLine; decide, fun t ht => ?_⟩
        obtain ⟨qs9, hq9, hlen9, _⟩ := id hC9
        rw [List.length_map] at hlen9
        have nt : L ≠ t := ne_of_none hq9 ht
        walk_at "g"
        refine hnx _ _ ⟨_, _, _, cs ++ [(z, kd, decide (r3 = 1))], rfl, ((D9.new ht).other nL).mono ?_, (K09.new (K09.back (D9.ne ht) ht)).new ?_, ?_, by rw [List.length_append]; rfl, fun c hc => (List.mem_append.mp hc).elim (hcsk c) fun hc => by rw [List.mem_singleton.mp hc]; exact hzk, by
          rw [List.map_append]
          exact List.nodup_append.mpr ⟨hnd, List.nodup_cons.mpr ⟨fun h => (nomatch h), List.nodup_nil⟩, fun u hu v hv e => hzn (by
            rw [List.mem_singleton.mp hv] at e
            have e2 : u = z := e
            rw [← e2]; exact hu)⟩⟩
        · omega
        · exact hL
        · have := hC9.app (x := ct (z, kd, decide (r3 = 1))) hq9 ht
          rw [List.map_append]
          exact this
    · rintro σ' H4 ⟨s3, s4, s5, cs, rfl, D4, K4, hC4, hlen, hcsk, hnd⟩
      walk_at "g"
      exact k L cs H4 ⟨by omega, by omega, hcsk, hnd⟩ hC4 hL K4
end
section
variable {P : Program} {w : World} {K : PySem.W.Frag} {mg : Str → Option Value} {base : Heap}
def spOrderN : Sp := fun vs H Q _ => ∃ (p L : Addr) (cs : List Col) (n : Nat), vs = [.ref p, .ref L] ∧ PD H p n ∧ n ≤ 800000 ∧ LAt H L (cs.map ct) ∧ ColsOk cs ∧ L ≠ p ∧ ∀ (O : Addr) (ps : List (Str × Bool)) (H' : Hp), OOk ps → LAt H' O (ps.map pt) → H O = none → LAt H' L (cs.map ct) → Keep p H H' → PD H' p (n + 100) → Q (.ref O) H'
theorem ok__law_order (T : TxtW w K mg) : Def P w K mg base 2 "_law_order" ["_law_pool_here", "_law_columns_here"] spOrderN := by
  obtain ⟨f, fd, h⟩ := T.d__law_order
  refine h.def (Fun.okM h.fn sc__law_order (fun vs H Q E h => ?_) (fun cdv A outer s H vs Q E hr h => ?_))
  · obtain ⟨p, L, cs, n, rfl, _⟩ := h
    rfl
  · obtain ⟨p, L, cs, n, rfl, hD, hn, hC, hcs, hLp, k⟩ := h
    refine ⟨_, (pss_cons (ps_set (i := 2) sc__law_order.nd rfl (Or.inl rfl) (pe_lst pa_nil))
  (pss_cons (ps_for PassesOwn.never rfl (pi_range1 rfl T.h_range (pa_cons (pe_op op_addG pe_int (pe_def (ok__law_draw T) hr rfl (pa_cons (pv 0) (pa_cons pe_int pa_nil)))) pa_nil)) (pg_name (i := 3) sc__law_order.nd rfl (Or.inl rfl))
  (pss_cons (ps_set (i := 4) sc__law_order.nd rfl (Or.inl rfl) (pe_ix (ix_seqG (K := K) rfl) (pe_ix (ix_seqG (K := K) rfl) (pv 1) (pe_def (ok__law_draw T) hr rfl (pa_cons (pv 0) (pa_cons (pe_callB (call_lenG (K := K) rfl) (by rfl) T.h_len (by decide +kernel) (pa_cons (pv 1) pa_nil)) pa_nil))) (fun _ _ => rfl)) pe_int (fun _ _ => rfl)))
  (pss_one (ps_if (pt_cmpR (op_notInG (K := K) rfl) (pv 4) (pe_lc (own := [("_law_part", 5)]) rfl sc__law_order.nd (pi_list (pv 2)) (blkOk_by (N := N__law_order) (sc := defScope S__law_order) (by decide +kernel)) (fun _ _ _ _ _ => pg_name (i := 5) sc__law_order.nd rfl (Or.inl rfl)) (fun _ _ _ _ _ => pts_nil) (fun _ _ _ _ _ => (pe_ix (ix_seqG (K := K) rfl) (pv 5) pe_int (fun _ _ => rfl)))) (by rfl))
  (pss_one (ps_expr (pe_bm PySem.F.plainAttrs_list PySem.F.slot_list_append PySem.F.type_list_append mt_append (pv 2) (pa_cons (pe_tup (pa_cons (pv 4) (pa_cons (pe_ix (ix_seqG (K := K) rfl) (pe_lst (pa_cons pe_str (pa_cons pe_str pa_nil))) (pe_def (ok__law_draw T) hr rfl (pa_cons (pv 0) (pa_cons pe_int pa_nil))) (fun _ _ => rfl)) pa_nil))) pa_nil))))
  pss_nil))))
  (pss_one (ps_ret (pv 2))))), ?_⟩
    walk_at "g"
    refine ⟨Nat.zero_le _, fun O hO => ?_⟩
    have nO := hD.ne hO
    have D1 := hD.new (o := .lst []) hO
    have K1 := (Keep.refl p H).new (o := .lst []) hO
    have e1 : LAt (upd H O (.lst [])) O (([] : List (Str × Bool)).map pt) := ⟨[], upd_same, rfl, fun i q t h => by simp at h⟩
    have hC1 := hC.keep (H' := upd H O (.lst [])) (fun q o h => by rw [upd_ne (ne_of_none h hO)]; exact h)
    have hLO : L ≠ O := by obtain ⟨qs, h1, _⟩ := hC; exact ne_of_none h1 hO
    generalize upd H O (.lst []) = H1 at D1 K1 e1 hC1
    walk_at "g"
    refine ⟨_, _, _, rfl, D1, by omega, by decide, by decide +kernel, fun r H2 r0 r1 D2 K2 => ?_⟩
    have hpos : 0 < cs.length := hcs.ne
    have hcl := hcs.le
    walk_at "g"
    refine ⟨_, rfl, by omega, by omega, ?_⟩
    refine for_rangeA (fun i σ' H' => ∃ (s3 s4 s5 : Option V) (ps : List (Str × Bool)), σ' = [some (.ref p), some (.ref L), some (.ref O), s3, s4, s5] ∧ PD H' p (n + 1 + 30 * i) ∧ Keep p H H' ∧ LAt H' O (ps.map pt) ∧ LAt H' L (cs.map ct) ∧ ps.length ≤ i ∧ (0 < i → 1 ≤ ps.length) ∧ (∀ c ∈ ps, nameP c.1) ∧ (ps.map (·.1)).Nodup) ⟨none, none, none, [], rfl, D2, K1.trans K2, e1.keepP nO D1.at K2, hC1.keepP hLp D1.at K2, Nat.le_refl _, fun h => absurd h (Nat.lt_irrefl 0), (fun c hc => nomatch hc), List.nodup_nil⟩ ?_ ?_
    · rintro i σ' H4 D' hi ⟨s3, s4, s5, ps, rfl, D4, K4, hO4, hC4, hpl, hp1, hpk, hpd⟩ hnx hct hbk hrt
      have hi2 : i < 2 := by omega
      obtain ⟨qs, hq4, hlen, hcol⟩ := id hC4
      rw [List.length_map] at hlen
      walk_at "g"
      refine ⟨_, _, _, rfl, D4, by omega, by rw [List.length_map]; omega, Nat.lt_of_lt_of_le (log_small (by rw [List.length_map]; omega)) (by decide), fun r5 H5 r50 r51 D5 K5 => ?_⟩
      rw [List.length_map] at r51
      obtain ⟨j, rfl⟩ := Int.eq_ofNat_of_zero_le r50
      have hj : j < cs.length := by omega
      have hq5 := K5 _ _ hLp hq4
      have hC5 := hC4.keepP hLp D4.at K5
      have hO5 := hO4.keepP nO D4.at K5
      refine g_ixL (SqL.of hq5) (v := .ref qs[j]) (atI_nat (j := j) (by rw [List.getElem?_map, List.getElem?_eq_getElem (by omega)]; rfl)) ?_
      walk_at "g"
      have et : H5 qs[j] = some (.tup (ct cs[j])) := (hC5.get hq5).2 j _ _ (List.getElem?_eq_getElem (by omega)) (by rw [List.getElem?_map, List.getElem?_eq_getElem hj]; rfl)
      refine g_ixT (SqT.of et) (v := .str cs[j].1) (by rfl) ?_
      walk_at "g"
      obtain ⟨ks, ho5, hol, hop⟩ := id hO5
      rw [List.length_map] at hol
      refine ⟨O, rfl, ⟨_, SqL.of ho5⟩, fun Do hDo => ?_⟩
      refine lc_new (ks.map V.ref) (fun i y _ => ∃ x, ps[i]? = some x ∧ y = .str x.1) hDo (fun H2 k2 => fits_l (SqL.of (k2 _ _ ho5))) (by rw [List.length_map]; omega) (fun i y Ha Hb _ h _ => h) (fun i y Hh R S hy kh _ hR => ?_) (fun H6 ys k6 h6' hyl hys => ?_)
      · rw [List.getElem?_map] at hy
        obtain ⟨q5, hq5, rfl⟩ := Option.map_eq_some_iff.mp hy
        obtain ⟨x, hx⟩ : ∃ x, ps[i]? = some x := ⟨_, List.getElem?_eq_getElem (by have := (List.getElem?_eq_some_iff.mp hq5).1; omega)⟩
        have e5 := kh _ _ (hop i q5 (pt x) hq5 (by rw [List.getElem?_map, hx]; rfl))
        walk_at "g"
        refine ⟨rfl, ?_⟩
        walk_at "g"
        refine g_ixT (SqT.of e5) (v := .str x.1) (show atI (pt x) 0 = some (.str x.1) from rfl) ?_
        exact hR _ _ (fun _ _ h => h) ⟨x, hx, rfl⟩
      · obtain rfl : ys = (ps.map (·.1)).map V.str := by
          refine List.ext_getElem (by rw [hyl, List.length_map, List.length_map, List.length_map, hol]) fun i g1 g2 => ?_
          obtain ⟨x, hx, e⟩ := hys i _ (List.getElem?_eq_getElem g1)
          rw [e, List.getElem_map, List.getElem_map]
          obtain ⟨h3, h4⟩ := List.getElem?_eq_some_iff.mp hx
          rw [h4]
        have D6 : PD H6 p (n + 1 + 30 * i + 1) := by
          obtain ⟨a, b, c, e, r⟩ := D5
          exact ⟨a, b, c, k6 _ _ e, r⟩
        have K05 := K4.trans K5
        have K6 : Keep p H H6 := fun q o nq h => k6 _ _ (K05 q o nq h)
        have hC6 := hC5.keep k6
        have hO6 := hO5.keep k6
        refine .inr ⟨_, (ps.map (·.1)).map V.str, rfl, .inl (SqL.of h6'), rfl, Tw.flat_strs _, ?_⟩
        rw [if_pos rfl, inV_strs]
        walk_at "g"
        refine g_ndec (fun hnew => ?_) (fun hnew => ?_)
        · obtain ⟨ks6, hs6, _⟩ := id hO6
          walk_at "g"
          refine ⟨by show 2 ≤ sizeLine; decide, fun l hl => ?_⟩
          have nl := D6.ne hl
          have D7 := D6.new (o := .lst [.str (dS true), .str (dS false)]) hl
          have K7 := K6.new (o := .lst [.str (dS true), .str (dS false)]) (K6.back nl hl)
          have x7 : ∀ q o, H6 q = some o → (upd H6 l (.lst [.str (dS true), .str (dS false)])) q = some o := fun q o h => by rw [upd_ne (ne_of_none h hl)]; exact h
          have hC7 := hC6.keep x7
          have hO7 := hO6.keep x7
          have e7 : (upd H6 l (.lst [.str (dS true), .str (dS false)])) l = some (.lst [.str (dS true), .str (dS false)]) := upd_same
          have e0 : upd H6 l (.lst [.str (Str.ofString "up"), .str (Str.ofString "down")]) = upd H6 l (.lst [.str (dS true), .str (dS false)]) := rfl
          rw [e0]
          generalize upd H6 l (.lst [.str (dS true), .str (dS false)]) = H7 at D7 K7 hC7 hO7 e7 x7
          walk_at "g"
          refine ⟨_, _, _, rfl, D7, by omega, by decide, by decide +kernel, fun r2 H8 r20 r21 D8 K8 => ?_⟩
          obtain ⟨up, ek⟩ : ∃ up : Bool, atI [V.str (dS true), V.str (dS false)] r2 = some (.str (dS up)) := by
            have : r2 = 0 ∨ r2 = 1 := by omega
            rcases this with rfl | rfl
            · exact ⟨true, rfl⟩
            · exact ⟨false, rfl⟩
          refine g_ixL (SqL.of (K8 _ _ nl e7)) ek ?_
          have hC8 := hC7.keepP hLp D7.at K8
          have hO8 := hO7.keepP nO D7.at K8
          have K08 := K7.trans K8
          walk_at "g"
          refine ⟨by show 2 ≤ sizeLine; decide, fun t ht => ?_⟩
          obtain ⟨qs9, hq9, hlen9, _⟩ := id hO8
          rw [List.length_map] at hlen9
          have nt : O ≠ t := ne_of_none hq9 ht
          walk_at "g"
          refine hnx _ _ ⟨_, _, _, ps ++ [(cs[j].1, up)], rfl, ((D8.new ht).other nO).mono (by omega), (K08.new (K08.back (D8.ne ht) ht)).new hO, ?_, ?_, by rw [List.length_append]; show _ + 1 ≤ _; omega, (fun _ => by rw [List.length_append]; show 1 ≤ _ + 1; omega), fun c hc => ?_, ?_⟩
          · have := hO8.app (x := pt (cs[j].1, up)) hq9 ht
            rw [List.map_append]
            exact this
          · have a1 := hC8.keep (H' := upd H8 t (.tup [.str cs[j].1, .str (dS up)])) (fun q o h => by rw [upd_ne (ne_of_none h ht)]; exact h)
            refine a1.keepP hLO ⟨qs9.map V.ref, by rw [upd_ne nt]; exact hq9⟩ fun q o nq h => by rw [upd_ne nq]; exact h
          · rcases List.mem_append.mp hc with hc | hc
            · exact hpk c hc
            · rw [List.mem_singleton.mp hc]
              exact hcs.nm _ (List.getElem_mem hj)
          · rw [List.map_append]
            exact List.nodup_append.mpr ⟨hpd, List.nodup_cons.mpr ⟨fun h => (nomatch h), List.nodup_nil⟩, fun u hu v hv e => hnew (by
              rw [List.mem_singleton.mp hv] at e
              have e2 : u = cs[j].1 := e
              rw [← e2]; exact hu)⟩
        · walk_at "g"
          refine hnx _ _ ⟨_, _, _, ps, rfl, D6.mono (by omega), K6, hO6, hC6, by omega, (fun _ => ?_), hpk, hpd⟩
          rcases Nat.eq_zero_or_pos ps.length with h | h
          · have : ps = [] := List.length_eq_zero_iff.mp h
            rw [this] at hnew
            cases hnew
          · exact h
    · rintro σ' H4 ⟨s3, s4, s5, ps, rfl, D4, K4, hO4, hC4, hpl, hp1, hpk, hpd⟩
      walk_at "g"
      exact k O ps H4 ⟨hp1 (by omega), by omega, hpk, hpd⟩ hO4 hO hC4 K4 (D4.mono (by omega))
end
section
variable {P : Program} {w : World} {K : PySem.W.Frag} {mg : Str → Option Value} {base : Heap}
theorem ok_need_op (T : TxtW w K mg) : Def P w K mg base 1 "need_op" ["thing"] (spNeed fun v => ∃ c, v = .str c ∧ c ∈ opsL) := by
  obtain ⟨f, fd, h⟩ := T.d_need_op
  obtain ⟨t_OPS, G_OPS, Q_OPS⟩ := T.k_OPS
  refine h.def (Fun.okM h.fn sc_need_op (fun vs H Q E h => ?_) (fun cdv A outer s H vs Q E hr h => ?_))
  · obtain ⟨v, rfl, _⟩ := h
    rfl
  · obtain ⟨v, rfl, ⟨c, rfl, hc⟩, k⟩ := h
    refine ⟨_, (pss_one (ps_if (PW.pt (pw_or (pt_not (pt_val (pe_callB (call_isiG (K := K) rfl) (by rfl) T.h_isinstance (by decide +kernel) (pa_cons (pv 0) (pa_cons (pe_bltn (v := .ty "str") (by rfl) T.h_str (by decide +kernel) rfl) pa_nil))))) (pw_or1 (pt_cmpR (op_notInG (K := K) rfl) (pv 0) (pe_glob (v := .ref t_OPS) rfl G_OPS rfl) (by rfl)))))
  (pss_one ps_never)
  pss_nil)), ?_⟩
    walk_at "g"
    refine .inr ⟨_, opsL.map V.str, rfl, .inr (Q_OPS _), rfl, Tw.flat_strs _, ?_⟩
    rw [if_pos rfl, inV_strs]
    walk_at "g"
    refine g_ndec (fun h => absurd hc h) (fun _ => ?_)
    walk_at "g"
    exact k _ fun _ _ h => h
theorem ok_need_values (T : TxtW w K mg) : Def P w K mg base 3 "need_values" ["thing"] (fun vs H Q _ => ∃ (l : Addr) (xs : List V) (k : Bool), vs = [.ref l] ∧ H l = some (.lst xs) ∧ xs ≠ [] ∧ xs.length ≤ 8 ∧ (∀ v ∈ xs, isV k v) ∧ ∀ H', (∀ q o, H q = some o → H' q = some o) → Q .non H') := by
  obtain ⟨f, fd, h⟩ := T.d_need_values
  obtain ⟨t_MOST_VALUES, G_MOST_VALUES⟩ := T.k_MOST_VALUES
  refine h.def (Fun.okM h.fn sc_need_values (fun vs H Q E h => ?_) (fun cdv A outer s H vs Q E hr h => ?_))
  · obtain ⟨l, xs, kd, rfl, _⟩ := h
    rfl
  · obtain ⟨l, xs, kd, rfl, hl, hne, h8, hv, k⟩ := h
    refine ⟨_, (pss_cons (ps_if (PW.pt (pw_or (pt_not (pt_val (pe_def (ok_is_sequence T) hr rfl (pa_cons (pv 0) pa_nil)))) (pw_or (pt_cmpR op_eq (pe_callB (call_lenG (K := K) rfl) (by rfl) T.h_len (by decide +kernel) (pa_cons (pv 0) pa_nil)) pe_int (nomark _)) (pw_or1 (pt_cmpR op_gtG (pe_callB (call_lenG (K := K) rfl) (by rfl) T.h_len (by decide +kernel) (pa_cons (pv 0) pa_nil)) (pe_glob (v := .int 8) rfl G_MOST_VALUES ⟨_, rfl⟩) (nomark _))))))
  (pss_one ps_never)
  pss_nil)
  (pss_one (ps_for PassesOwn.never rfl (pi_list (pv 0)) (pg_name (i := 1) sc_need_values.nd rfl (Or.inl rfl))
  (pss_one (ps_if (pt_cmpR op_isNG (pe_def (ok_kind_of T) hr rfl (pa_cons (pv 1) pa_nil)) pe_non (nomark _))
  (pss_one ps_never)
  pss_nil))))), ?_⟩
    have hpos : 0 < xs.length := List.length_pos_iff.mpr hne
    walk_at "g"
    refine ⟨_, "list", rfl, by decide, fun H2 x2 => .base (.lst (x2 _ _ hl)), fun H1 k1 => ?_⟩
    have hl1 := k1 _ _ hl
    rw [show decide (("list" : String) = "list" ∨ ("list" : String) = "tuple") = true by decide]
    walk_at "g"
    refine g_dec (fun h => absurd h (by omega)) (fun _ => ?_)
    walk_at "g"
    refine g_dec (fun h => absurd h (by omega)) (fun _ => ?_)
    walk_at "g"
    refine ⟨l, rfl, ⟨_, SqL.of hl1⟩, for_listA (xs := xs) (fun j σ' H' => (∃ v, σ' = [some (.ref l), v]) ∧ ∀ q o, H q = some o → H' q = some o) ⟨⟨none, rfl⟩, k1⟩ (fun _ _ _ _ e => SqL.of (e.2 _ _ hl)) ?_ ?_⟩
    · rintro j x σ' H2 D' hj ⟨⟨v, rfl⟩, k2⟩ hnx hct hbk hrt
      have hx := hv x (List.mem_of_getElem? hj)
      obtain ⟨s, es⟩ := hx.kind
      walk_at "g"
      refine ⟨_, rfl, hx.thing, fun H3 k3 => ?_⟩
      rw [es]
      walk_at "g"
      exact hnx _ _ ⟨⟨_, rfl⟩, fun q o h => k3 _ _ (k2 _ _ h)⟩
    · rintro σ' H2 ⟨⟨v, rfl⟩, k2⟩
      walk_at "g"
      exact k _ k2
theorem ok_always (T : TxtW w K mg) : Def P w K mg base 4 "always" [] (fun vs H Q _ => vs = [] ∧ ∀ t H', (∀ q o, H q = some o → H' q = some o) → TestAt (cadr mg "Test") H' At.always.ts t → Q (.ref t) H') := by
  obtain ⟨f, fd, h⟩ := T.d_always
  refine h.def (Fun.okM h.fn sc_always (fun vs H Q E h => ?_) (fun cdv A outer s H vs Q E hr h => ?_))
  · obtain ⟨rfl, _⟩ := h
    rfl
  · obtain ⟨rfl, k⟩ := h
    refine ⟨_, (pss_one (ps_ret (pe_new (ok_Test_init T) hr rfl T.e_Test (pa_cons pe_str (pa_cons (pe_tup pa_nil) (pa_cons (pe_tup pa_nil) (pa_cons (pe_tup pa_nil) pa_nil))))))), ?_⟩
    walk_at "g"
    refine ⟨Nat.zero_le _, fun i hi => ?_⟩
    walk_at "g"
    refine ⟨by show 0 ≤ sizeLine; decide, fun f hf => ?_⟩
    walk_at "g"
    refine ⟨by show 0 ≤ sizeLine; decide, fun u hu => ?_⟩
    walk_at "g"
    intro x dx hx hdx hne
    have hi2 : ∀ y0 : HO, (upd (upd (upd (upd (upd H i (.tup [])) f (.tup [])) u (.tup [])) dx (.own x)) x y0) i = some (.tup []) := fun y0 => by
      have h1 : (upd (upd (upd H i (.tup [])) f (.tup [])) u (.tup [])) i = some (.tup []) := by rw [upd_ne (ne_of_none (by rw [upd_ne (ne_of_none upd_same hf)]; exact upd_same) hu), upd_ne (ne_of_none upd_same hf)]; exact upd_same
      rw [upd_ne (ne_of_none h1 hx), upd_ne (ne_of_none h1 hdx)]; exact h1
    refine ⟨x, dx, i, f, u, _, [], [], rfl, upd_same, hi2 _, .nil, Nat.zero_le _, fun H9 k9 h9 => ⟨rfl, ?_⟩⟩
    obtain ⟨e1, e2⟩ := atom_made (At.always.flds) (At.always.trms) hi hf hu hx hdx k9 h9
    walk_at "g"
    exact k x H9 (fun q o h => e1 _ _ (h)) e2
theorem ok_never (T : TxtW w K mg) : Def P w K mg base 4 "never" [] (fun vs H Q _ => vs = [] ∧ ∀ t H', (∀ q o, H q = some o → H' q = some o) → TestAt (cadr mg "Test") H' At.never.ts t → Q (.ref t) H') := by
  obtain ⟨f, fd, h⟩ := T.d_never
  refine h.def (Fun.okM h.fn sc_never (fun vs H Q E h => ?_) (fun cdv A outer s H vs Q E hr h => ?_))
  · obtain ⟨rfl, _⟩ := h
    rfl
  · obtain ⟨rfl, k⟩ := h
    refine ⟨_, (pss_one (ps_ret (pe_new (ok_Test_init T) hr rfl T.e_Test (pa_cons pe_str (pa_cons (pe_tup pa_nil) (pa_cons (pe_tup pa_nil) (pa_cons (pe_tup pa_nil) pa_nil))))))), ?_⟩
    walk_at "g"
    refine ⟨Nat.zero_le _, fun i hi => ?_⟩
    walk_at "g"
    refine ⟨by show 0 ≤ sizeLine; decide, fun f hf => ?_⟩
    walk_at "g"
    refine ⟨by show 0 ≤ sizeLine; decide, fun u hu => ?_⟩
    walk_at "g"
    intro x dx hx hdx hne
    have hi2 : ∀ y0 : HO, (upd (upd (upd (upd (upd H i (.tup [])) f (.tup [])) u (.tup [])) dx (.own x)) x y0) i = some (.tup []) := fun y0 => by
      have h1 : (upd (upd (upd H i (.tup [])) f (.tup [])) u (.tup [])) i = some (.tup []) := by rw [upd_ne (ne_of_none (by rw [upd_ne (ne_of_none upd_same hf)]; exact upd_same) hu), upd_ne (ne_of_none upd_same hf)]; exact upd_same
      rw [upd_ne (ne_of_none h1 hx), upd_ne (ne_of_none h1 hdx)]; exact h1
    refine ⟨x, dx, i, f, u, _, [], [], rfl, upd_same, hi2 _, .nil, Nat.zero_le _, fun H9 k9 h9 => ⟨rfl, ?_⟩⟩
    obtain ⟨e1, e2⟩ := atom_made (At.never.flds) (At.never.trms) hi hf hu hx hdx k9 h9
    walk_at "g"
    exact k x H9 (fun q o h => e1 _ _ (h)) e2
theorem ok_empty (T : TxtW w K mg) : Def P w K mg base 4 "empty" ["column"] (fun vs H Q _ => ∃ c, vs = [.str c] ∧ nameP c ∧ ∀ t H', (∀ q o, H q = some o → H' q = some o) → TestAt (cadr mg "Test") H' (At.empty c).ts t → Q (.ref t) H') := by
  obtain ⟨f, fd, h⟩ := T.d_empty
  refine h.def (Fun.okM h.fn sc_empty (fun vs H Q E h => ?_) (fun cdv A outer s H vs Q E hr h => ?_))
  · obtain ⟨c, rfl, _⟩ := h
    rfl
  · obtain ⟨c, rfl, hc, k⟩ := h
    refine ⟨_, (pss_cons (ps_expr (pe_def (ok_need_column T) hr rfl (pa_cons (pv 0) pa_nil)))
  (pss_one (ps_ret (pe_new (ok_Test_init T) hr rfl T.e_Test (pa_cons pe_str (pa_cons (pe_tup pa_nil) (pa_cons (pe_tup (pa_cons (pv 0) pa_nil)) (pa_cons (pe_tup pa_nil) pa_nil)))))))), ?_⟩
    walk_at "g"
    refine ⟨_, rfl, ⟨c, rfl, hc⟩, fun H1 k1 => ?_⟩
    walk_at "g"
    refine ⟨Nat.zero_le _, fun i hi => ?_⟩
    walk_at "g"
    refine ⟨by show 1 ≤ sizeLine; decide, fun f hf => ?_⟩
    walk_at "g"
    refine ⟨by show 0 ≤ sizeLine; decide, fun u hu => ?_⟩
    walk_at "g"
    intro x dx hx hdx hne
    have hi2 : ∀ y0 : HO, (upd (upd (upd (upd (upd H1 i (.tup [])) f (.tup [V.str c])) u (.tup [])) dx (.own x)) x y0) i = some (.tup []) := fun y0 => by
      have h1 : (upd (upd (upd H1 i (.tup [])) f (.tup [V.str c])) u (.tup [])) i = some (.tup []) := by rw [upd_ne (ne_of_none (by rw [upd_ne (ne_of_none upd_same hf)]; exact upd_same) hu), upd_ne (ne_of_none upd_same hf)]; exact upd_same
      rw [upd_ne (ne_of_none h1 hx), upd_ne (ne_of_none h1 hdx)]; exact h1
    refine ⟨x, dx, i, f, u, _, [], [], rfl, upd_same, hi2 _, .nil, Nat.zero_le _, fun H9 k9 h9 => ⟨rfl, ?_⟩⟩
    obtain ⟨e1, e2⟩ := atom_made ((At.empty c).flds) ((At.empty c).trms) hi hf hu hx hdx k9 h9
    walk_at "g"
    exact k x H9 (fun q o h => e1 _ _ (k1 _ _ h)) e2
theorem ok_begins (T : TxtW w K mg) : Def P w K mg base 4 "begins" ["column", "prefix"] (fun vs H Q _ => ∃ c z, vs = [.str c, .str z] ∧ nameP c ∧ isS (.str z) ∧ ∀ t H', (∀ q o, H q = some o → H' q = some o) → TestAt (cadr mg "Test") H' (At.begins c z).ts t → Q (.ref t) H') := by
  obtain ⟨f, fd, h⟩ := T.d_begins
  refine h.def (Fun.okM h.fn sc_begins (fun vs H Q E h => ?_) (fun cdv A outer s H vs Q E hr h => ?_))
  · obtain ⟨c, z, rfl, _⟩ := h
    rfl
  · obtain ⟨c, z, rfl, hc, hz, k⟩ := h
    refine ⟨_, (pss_cons (ps_expr (pe_def (ok_need_column T) hr rfl (pa_cons (pv 0) pa_nil)))
  (pss_cons (ps_if (pt_not (pt_val (pe_def (ok_is_text T) hr rfl (pa_cons (pv 1) pa_nil))))
  (pss_one ps_never)
  pss_nil)
  (pss_one (ps_ret (pe_new (ok_Test_init T) hr rfl T.e_Test (pa_cons pe_str (pa_cons (pe_tup pa_nil) (pa_cons (pe_tup (pa_cons (pv 0) pa_nil)) (pa_cons (pe_tup (pa_cons (pv 1) pa_nil)) pa_nil))))))))), ?_⟩
    walk_at "g"
    refine ⟨_, rfl, ⟨c, rfl, hc⟩, fun H1 k1 => ?_⟩
    walk_at "g"
    refine ⟨_, rfl, isV.thing (k := true) hz, fun H2 k2 => ?_⟩
    rw [show isTxtB (.str z) = true from isS.txt hz]
    walk_at "g"
    refine ⟨Nat.zero_le _, fun i hi => ?_⟩
    walk_at "g"
    refine ⟨by show 1 ≤ sizeLine; decide, fun f hf => ?_⟩
    walk_at "g"
    refine ⟨by show 1 ≤ sizeLine; decide, fun u hu => ?_⟩
    walk_at "g"
    intro x dx hx hdx hne
    have hi2 : ∀ y0 : HO, (upd (upd (upd (upd (upd H2 i (.tup [])) f (.tup [V.str c])) u (.tup [V.str z])) dx (.own x)) x y0) i = some (.tup []) := fun y0 => by
      have h1 : (upd (upd (upd H2 i (.tup [])) f (.tup [V.str c])) u (.tup [V.str z])) i = some (.tup []) := by rw [upd_ne (ne_of_none (by rw [upd_ne (ne_of_none upd_same hf)]; exact upd_same) hu), upd_ne (ne_of_none upd_same hf)]; exact upd_same
      rw [upd_ne (ne_of_none h1 hx), upd_ne (ne_of_none h1 hdx)]; exact h1
    refine ⟨x, dx, i, f, u, _, [], [], rfl, upd_same, hi2 _, .nil, Nat.zero_le _, fun H9 k9 h9 => ⟨rfl, ?_⟩⟩
    obtain ⟨e1, e2⟩ := atom_made ((At.begins c z).flds) ((At.begins c z).trms) hi hf hu hx hdx k9 h9
    walk_at "g"
    exact k x H9 (fun q o h => e1 _ _ (k2 _ _ (k1 _ _ h))) e2
theorem ok_compare (T : TxtW w K mg) : Def P w K mg base 4 "compare" ["column", "op", "value"] (fun vs H Q _ => ∃ c op v kd, vs = [.str c, .str op, v] ∧ nameP c ∧ op ∈ opsL ∧ isV kd v ∧ ∀ t H', (∀ q o, H q = some o → H' q = some o) → TestAt (cadr mg "Test") H' (At.compare c op v).ts t → Q (.ref t) H') := by
  obtain ⟨f, fd, h⟩ := T.d_compare
  refine h.def (Fun.okM h.fn sc_compare (fun vs H Q E h => ?_) (fun cdv A outer s H vs Q E hr h => ?_))
  · obtain ⟨c, op, v, kd, rfl, _⟩ := h
    rfl
  · obtain ⟨c, op, v, kd, rfl, hc, ho, hv, k⟩ := h
    refine ⟨_, (pss_cons (ps_expr (pe_def (ok_need_column T) hr rfl (pa_cons (pv 0) pa_nil)))
  (pss_cons (ps_expr (pe_def (ok_need_op T) hr rfl (pa_cons (pv 1) pa_nil)))
  (pss_cons (ps_if (pt_cmpR op_isNG (pe_def (ok_kind_of T) hr rfl (pa_cons (pv 2) pa_nil)) pe_non (nomark _))
  (pss_one ps_never)
  pss_nil)
  (pss_one (ps_ret (pe_new (ok_Test_init T) hr rfl T.e_Test (pa_cons pe_str (pa_cons (pe_tup pa_nil) (pa_cons (pe_tup (pa_cons (pv 0) pa_nil)) (pa_cons (pe_tup (pa_cons (pv 1) (pa_cons (pv 2) pa_nil))) pa_nil)))))))))), ?_⟩
    walk_at "g"
    refine ⟨_, rfl, ⟨c, rfl, hc⟩, fun H1 k1 => ?_⟩
    walk_at "g"
    refine ⟨_, rfl, ⟨op, rfl, ho⟩, fun H2 k2 => ?_⟩
    walk_at "g"
    obtain ⟨s0, es⟩ := hv.kind
    refine ⟨_, rfl, hv.thing, fun H3 k3 => ?_⟩
    rw [es]
    walk_at "g"
    refine ⟨Nat.zero_le _, fun i hi => ?_⟩
    walk_at "g"
    refine ⟨by show 1 ≤ sizeLine; decide, fun f hf => ?_⟩
    walk_at "g"
    refine ⟨by show 2 ≤ sizeLine; decide, fun u hu => ?_⟩
    walk_at "g"
    intro x dx hx hdx hne
    have hi2 : ∀ y0 : HO, (upd (upd (upd (upd (upd H3 i (.tup [])) f (.tup [V.str c])) u (.tup [V.str op, v])) dx (.own x)) x y0) i = some (.tup []) := fun y0 => by
      have h1 : (upd (upd (upd H3 i (.tup [])) f (.tup [V.str c])) u (.tup [V.str op, v])) i = some (.tup []) := by rw [upd_ne (ne_of_none (by rw [upd_ne (ne_of_none upd_same hf)]; exact upd_same) hu), upd_ne (ne_of_none upd_same hf)]; exact upd_same
      rw [upd_ne (ne_of_none h1 hx), upd_ne (ne_of_none h1 hdx)]; exact h1
    refine ⟨x, dx, i, f, u, _, [], [], rfl, upd_same, hi2 _, .nil, Nat.zero_le _, fun H9 k9 h9 => ⟨rfl, ?_⟩⟩
    obtain ⟨e1, e2⟩ := atom_made ((At.compare c op v).flds) ((At.compare c op v).trms) hi hf hu hx hdx k9 h9
    walk_at "g"
    exact k x H9 (fun q o h => e1 _ _ (k3 _ _ (k2 _ _ (k1 _ _ h)))) e2
theorem ok_against (T : TxtW w K mg) : DefKw P w K mg base 4 "against" ["column", "op", "other", "more"] 3 "more" (.int 0) (fun vs H Q _ => ∃ c op d n, vs = [.str c, .str op, .str d, .int n] ∧ nameP c ∧ op ∈ opsL ∧ nameP d ∧ d ≠ c ∧ ∀ t H', (∀ q o, H q = some o → H' q = some o) → TestAt (cadr mg "Test") H' (At.against c op d n).ts t → Q (.ref t) H') := by
  obtain ⟨f, fd, h⟩ := T.d_against
  refine h.def (Fun.okM h.fn sc_against (fun vs H Q E h => ?_) (fun cdv A outer s H vs Q E hr h => ?_))
  · obtain ⟨c, op, d, n, rfl, _⟩ := h
    rfl
  · obtain ⟨c, op, d, n, rfl, hc, ho, hd, hdc, k⟩ := h
    refine ⟨_, (pss_cons (ps_expr (pe_def (ok_need_column T) hr rfl (pa_cons (pv 0) pa_nil)))
  (pss_cons (ps_expr (pe_def (ok_need_op T) hr rfl (pa_cons (pv 1) pa_nil)))
  (pss_cons (ps_expr (pe_def (ok_need_column T) hr rfl (pa_cons (pv 2) pa_nil)))
  (pss_cons (ps_if (pt_cmpR op_eq (pv 2) (pv 0) (nomark _))
  (pss_one ps_never)
  pss_nil)
  (pss_cons (ps_if (pt_not (pt_val (pe_def (ok_is_integer T) hr rfl (pa_cons (pv 3) pa_nil))))
  (pss_one ps_never)
  pss_nil)
  (pss_one (ps_ret (pe_new (ok_Test_init T) hr rfl T.e_Test (pa_cons pe_str (pa_cons (pe_tup pa_nil) (pa_cons (pe_tup (pa_cons (pv 0) (pa_cons (pv 2) pa_nil))) (pa_cons (pe_tup (pa_cons (pv 1) (pa_cons (pv 3) pa_nil))) pa_nil)))))))))))), ?_⟩
    walk_at "g"
    refine ⟨_, rfl, ⟨c, rfl, hc⟩, fun H1 k1 => ?_⟩
    walk_at "g"
    refine ⟨_, rfl, ⟨op, rfl, ho⟩, fun H2 k2 => ?_⟩
    walk_at "g"
    refine ⟨_, rfl, ⟨d, rfl, hd⟩, fun H3 k3 => ?_⟩
    walk_at "g"
    refine g_dec (fun h => absurd h hdc) (fun _ => ?_)
    walk_at "g"
    refine ⟨_, rfl, .inr (.inr (.inl ⟨n, rfl⟩)), fun H4 k4 => ?_⟩
    rw [show isIntB (.int n) = true from rfl]
    walk_at "g"
    refine ⟨Nat.zero_le _, fun i hi => ?_⟩
    walk_at "g"
    refine ⟨by show 2 ≤ sizeLine; decide, fun f hf => ?_⟩
    walk_at "g"
    refine ⟨by show 2 ≤ sizeLine; decide, fun u hu => ?_⟩
    walk_at "g"
    intro x dx hx hdx hne
    have hi2 : ∀ y0 : HO, (upd (upd (upd (upd (upd H4 i (.tup [])) f (.tup [V.str c, V.str d])) u (.tup [V.str op, V.int n])) dx (.own x)) x y0) i = some (.tup []) := fun y0 => by
      have h1 : (upd (upd (upd H4 i (.tup [])) f (.tup [V.str c, V.str d])) u (.tup [V.str op, V.int n])) i = some (.tup []) := by rw [upd_ne (ne_of_none (by rw [upd_ne (ne_of_none upd_same hf)]; exact upd_same) hu), upd_ne (ne_of_none upd_same hf)]; exact upd_same
      rw [upd_ne (ne_of_none h1 hx), upd_ne (ne_of_none h1 hdx)]; exact h1
    refine ⟨x, dx, i, f, u, _, [], [], rfl, upd_same, hi2 _, .nil, Nat.zero_le _, fun H9 k9 h9 => ⟨rfl, ?_⟩⟩
    obtain ⟨e1, e2⟩ := atom_made ((At.against c op d n).flds) ((At.against c op d n).trms) hi hf hu hx hdx k9 h9
    walk_at "g"
    exact k x H9 (fun q o h => e1 _ _ (k4 _ _ (k3 _ _ (k2 _ _ (k1 _ _ h))))) e2
theorem ok_among (T : TxtW w K mg) : Def P w K mg base 4 "among" ["column", "values"] (fun vs H Q _ => ∃ c l xs kd, vs = [.str c, .ref l] ∧ nameP c ∧ H l = some (.lst xs) ∧ xs ≠ [] ∧ xs.length ≤ 8 ∧ (∀ v ∈ xs, isV kd v) ∧ ∀ t H', (∀ q o, H q = some o → H' q = some o) → TestAt (cadr mg "Test") H' (At.among c xs).ts t → Q (.ref t) H') := by
  obtain ⟨f, fd, h⟩ := T.d_among
  refine h.def (Fun.okM h.fn sc_among (fun vs H Q E h => ?_) (fun cdv A outer s H vs Q E hr h => ?_))
  · obtain ⟨c, l, xs, kd, rfl, _⟩ := h
    rfl
  · obtain ⟨c, l, xs, kd, rfl, hc, hl, hne0, h8, hv, k⟩ := h
    refine ⟨_, (pss_cons (ps_expr (pe_def (ok_need_column T) hr rfl (pa_cons (pv 0) pa_nil)))
  (pss_cons (ps_expr (pe_def (ok_need_values T) hr rfl (pa_cons (pv 1) pa_nil)))
  (pss_one (ps_ret (pe_new (ok_Test_init T) hr rfl T.e_Test (pa_cons pe_str (pa_cons (pe_tup pa_nil) (pa_cons (pe_tup (pa_cons (pv 0) pa_nil)) (pa_cons (pe_callTy (call_tupleG (K := K) rfl) (by rfl) T.h_tuple (by decide +kernel) (pa_cons (pv 1) pa_nil)) pa_nil))))))))), ?_⟩
    walk_at "g"
    refine ⟨_, rfl, ⟨c, rfl, hc⟩, fun H1 k1 => ?_⟩
    walk_at "g"
    refine ⟨l, xs, kd, rfl, k1 _ _ hl, hne0, h8, hv, fun H2 k2 => ?_⟩
    have hl2 := k2 _ _ (k1 _ _ hl)
    walk_at "g"
    refine ⟨Nat.zero_le _, fun i hi => ?_⟩
    walk_at "g"
    refine ⟨by show 1 ≤ sizeLine; decide, fun f hf => ?_⟩
    walk_at "g"
    refine ⟨l, xs, rfl, .inl ⟨SqL.of (by rw [upd_ne (ne_of_none (by rw [upd_ne (ne_of_none hl2 hi)]; exact hl2) hf), upd_ne (ne_of_none hl2 hi)]; exact hl2), fun u hu => ?_⟩⟩
    walk_at "g"
    intro x dx hx hdx hne
    have hi2 : ∀ y0 : HO, (upd (upd (upd (upd (upd H2 i (.tup [])) f (.tup [V.str c])) u (.tup xs)) dx (.own x)) x y0) i = some (.tup []) := fun y0 => by
      have h1 : (upd (upd (upd H2 i (.tup [])) f (.tup [V.str c])) u (.tup xs)) i = some (.tup []) := by rw [upd_ne (ne_of_none (by rw [upd_ne (ne_of_none upd_same hf)]; exact upd_same) hu), upd_ne (ne_of_none upd_same hf)]; exact upd_same
      rw [upd_ne (ne_of_none h1 hx), upd_ne (ne_of_none h1 hdx)]; exact h1
    refine ⟨x, dx, i, f, u, _, [], [], rfl, upd_same, hi2 _, .nil, Nat.zero_le _, fun H9 k9 h9 => ⟨rfl, ?_⟩⟩
    obtain ⟨e1, e2⟩ := atom_made ((At.among c xs).flds) ((At.among c xs).trms) hi hf hu hx hdx k9 h9
    walk_at "g"
    exact k x H9 (fun q o h => e1 _ _ (k2 _ _ (k1 _ _ h))) e2
end
theorem ext_new {H : Hp} {p : Addr} {o : HO} (hp : H p = none) : ∀ q u, H q = some u → (upd H p o) q = some u := fun q u h => by rw [upd_ne (ne_of_none h hp)]; exact h
/-- no part of a form stands there -/
def NF (o : HO) : Prop := (∀ l, o ≠ .tup l) ∧ ∀ vs k, o = .lst vs → vs ≠ [] → (∀ v ∈ vs, isV k v) → False
theorem isV_ref {k : Bool} {p : Addr} (h : isV k (.ref p)) : False := by
  cases k with
  | false => obtain ⟨i, e⟩ := h; cases e
  | true => obtain ⟨z, e, _⟩ := h; cases e
theorem NF.refs {qs : List Addr} : NF (.lst (qs.map V.ref)) := by
  refine ⟨(fun l e => nomatch e), fun vs k e hne h => ?_⟩
  injection e with e
  subst e
  cases qs with
  | nil => exact hne rfl
  | cons q r => exact isV_ref (h (.ref q) List.mem_cons_self)
theorem NF.dict {kvs : List (Key × V)} : NF (.dK kvs) := ⟨(fun l e => nomatch e), (fun vs k e => nomatch e)⟩
def AtomForm (H : Hp) (p : Addr) : At → Prop
  | .always => H p = some (.tup [.str "always"])
  | .never => H p = some (.tup [.str "never"])
  | .empty c => H p = some (.tup [.str "empty", .str c])
  | .among c vs => ∃ l k, H p = some (.tup [.str "among", .str c, .ref l]) ∧ H l = some (.lst vs) ∧ vs ≠ [] ∧ ∀ v ∈ vs, isV k v
  | .begins c z => H p = some (.tup [.str "begins", .str c, .str z])
  | .compare c op v => H p = some (.tup [.str "compare", .str c, .str op, v])
  | .against c op d n => H p = some (.tup [.str "against", .str c, .str op, .str d, .int n])
theorem AtomForm.keepN {H H' : Hp} {p q : Addr} {a : At} (h : AtomForm H q a) (k : ∀ b o, b ≠ p → H b = some o → H' b = some o) (n : ∃ o, H p = some o ∧ NF o) : AtomForm H' q a := by
  obtain ⟨o, ho, n1, n2⟩ := n
  have nt : ∀ {b : Addr} {l : List V}, H b = some (.tup l) → b ≠ p := fun h z => n1 _ (by rw [z, ho] at h; injection h)
  cases a with
  | among c vs =>
    obtain ⟨l, kd, h1, h2, h3, h4⟩ := h
    exact ⟨l, kd, k _ _ (nt h1) h1, k _ _ (fun z => n2 vs kd (by rw [z, ho] at h2; injection h2) h3 h4) h2, h3, h4⟩
  | always => exact k _ _ (nt h) h
  | never => exact k _ _ (nt h) h
  | empty c => exact k _ _ (nt h) h
  | begins c z => exact k _ _ (nt h) h
  | compare c op v => exact k _ _ (nt h) h
  | against c op d m => exact k _ _ (nt h) h
theorem AtomForm.keep {H H' : Hp} {q : Addr} {a : At} (h : AtomForm H q a) (k : ∀ b o, H b = some o → H' b = some o) : AtomForm H' q a := by
  cases a with
  | among c vs =>
    obtain ⟨l, kd, h1, h2, h3, h4⟩ := h
    exact ⟨l, kd, k _ _ h1, k _ _ h2, h3, h4⟩
  | always => exact k _ _ h
  | never => exact k _ _ h
  | empty c => exact k _ _ h
  | begins c z => exact k _ _ h
  | compare c op v => exact k _ _ h
  | against c op d m => exact k _ _ h
theorem log_len {m : Nat} (h : m ≤ 100) : (m : Int).natAbs.log2 < 9000 := by
  have : (m : Int).natAbs < 2 ^ 64 := by omega
  exact Nat.lt_of_lt_of_le (PySem.Flt.log2_lt_of (by decide) this) (by decide)
def opsP (H : Hp) (p : Addr) : Prop := H p = some (.lst (opsL.map V.str))
def spAtomP : Sp := fun vs H Q _ => ∃ (p L : Addr) (cs : List Col) (n : Nat), vs = [.ref p, .ref L] ∧ PD H p n ∧ n ≤ 700000 ∧ LAt H L (cs.map ct) ∧ ColsOk cs ∧ L ≠ p ∧ ∀ q a κ H', AtomForm H' q a → a.Wf κ → Keep p H H' → Q (.ref q) H'
def k2 (cs : List Col) : List (Str × Bool) := cs.map fun c => (c.1, c.2.1)
theorem k2_mem {cs : List Col} {c : Col} (h : c ∈ cs) : (c.1, c.2.1) ∈ k2 cs := List.mem_map.mpr ⟨c, h, rfl⟩
section
variable {P : Program} {w : World} {K : PySem.W.Frag} {mg : Str → Option Value} {base : Heap}
theorem ok__law_atom (T : TxtW w K mg) : Def P w K mg base 3 "_law_atom" ["_law_pool_here", "_law_columns_here"] spAtomP := by
  obtain ⟨f, fd, h⟩ := T.d__law_atom
  refine h.def (Fun.okM h.fn sc__law_atom (fun vs H Q E h => ?_) (fun cdv A outer s H vs Q E hr h => ?_))
  · obtain ⟨p, L, cs, n, rfl, _⟩ := h
    rfl
  · obtain ⟨p, L, cs, n, rfl, hD, hn, hC, hcs, hLp, k⟩ := h
    refine ⟨_, (pss_cons (ps_set (i := 2) sc__law_atom.nd rfl (Or.inl rfl) (pe_ix (ix_seqG (K := K) rfl) (pv 1) (pe_def (ok__law_draw T) hr rfl (pa_cons (pv 0) (pa_cons (pe_callB (call_lenG (K := K) rfl) (by rfl) T.h_len (by decide +kernel) (pa_cons (pv 1) pa_nil)) pa_nil))) (fun _ _ => rfl)))
  (pss_cons (ps_set (i := 3) sc__law_atom.nd rfl (Or.inr rfl) (pe_ix (ix_seqG (K := K) rfl) (pv 2) pe_int (fun _ _ => rfl)))
  (pss_cons (ps_set (i := 4) sc__law_atom.nd rfl (Or.inr rfl) (pe_ix (ix_seqG (K := K) rfl) (pv 2) pe_int (fun _ _ => rfl)))
  (pss_cons (ps_set (i := 5) sc__law_atom.nd rfl (Or.inl rfl) (pe_def (ok__law_draw T) hr rfl (pa_cons (pv 0) (pa_cons pe_int pa_nil))))
  (pss_cons (ps_set (i := 6) sc__law_atom.nd rfl (Or.inl rfl) (pe_ix (ix_seqG (K := K) rfl) (pe_lst (pa_cons pe_str (pa_cons pe_str (pa_cons pe_str (pa_cons pe_str (pa_cons pe_str (pa_cons pe_str pa_nil))))))) (pe_def (ok__law_draw T) hr rfl (pa_cons (pv 0) (pa_cons pe_int pa_nil))) (fun _ _ => rfl)))
  (Evl.pss_cut (ps_if (PW.pt (pw_or (pt_cmpR op_eq (pv 5) pe_int (nomark _)) (pw_or1 (pt_cmpR op_eq (pv 5) pe_int (nomark _)))))
  (pss_cons (ps_setLc (i := 7) (own := [("_law_column", 9)]) rfl sc__law_atom.nd rfl rfl (sw_true rfl rfl rfl (by decide +kernel)) (pi_list (pv 1)) (blkOk_by (N := N__law_atom) (sc := defScope S__law_atom) (by decide +kernel)) (fun _ _ _ _ _ => pg_name (i := 9) sc__law_atom.nd rfl (Or.inl rfl)) (fun _ _ _ _ _ => pts_one (PW.pt (pw_and (pt_cmpR op_eq (pe_ix (ix_seqG (K := K) rfl) (pv 9) pe_int (fun _ _ => rfl)) (pv 4) (nomark _)) (pw_and1 (pt_cmpR op_ne (pe_ix (ix_seqG (K := K) rfl) (pv 9) pe_int (fun _ _ => rfl)) (pv 3) (nomark _)))))) (fun _ _ _ _ _ => (pe_ix (ix_seqG (K := K) rfl) (pv 9) pe_int (fun _ _ => rfl))))
  (pss_one (ps_if (pt_cmpR op_gtG (pe_callB (call_lenG (K := K) rfl) (by rfl) T.h_len (by decide +kernel) (pa_cons (pv 7) pa_nil)) pe_int (nomark _))
  (pss_cons (ps_set (i := 8) sc__law_atom.nd rfl (Or.inl rfl) pe_int)
  (Evl.pss_cut (ps_if (pt_cmpR op_eq (pv 4) pe_str (nomark _))
  (pss_one (ps_set (i := 8) sc__law_atom.nd rfl (Or.inl rfl) (pe_ix (ix_seqG (K := K) rfl) (pe_lst (pa_cons pe_int (pa_cons pe_int (pa_cons pe_int (pa_cons (pe_un un_negG pe_int) (pa_cons pe_int pa_nil)))))) (pe_def (ok__law_draw T) hr rfl (pa_cons (pv 0) (pa_cons pe_int pa_nil))) (fun _ _ => rfl))))
  pss_nil)
  (pss_one (ps_ret (pe_tup (pa_cons pe_str (pa_cons (pv 3) (pa_cons (pv 6) (pa_cons (pe_ix (ix_seqG (K := K) rfl) (pv 7) (pe_def (ok__law_draw T) hr rfl (pa_cons (pv 0) (pa_cons (pe_callB (call_lenG (K := K) rfl) (by rfl) T.h_len (by decide +kernel) (pa_cons (pv 7) pa_nil)) pa_nil))) (fun _ _ => rfl)) (pa_cons (pv 8) pa_nil))))))))))
  pss_nil)))
  pss_nil)
  (pss_cons (ps_if (pt_cmpR op_eq (pv 5) pe_int (nomark _))
  (pss_one (ps_ret (pe_tup (pa_cons pe_str (pa_cons (pv 3) (pa_cons (pe_lc (own := [("_law_k", 10)]) rfl sc__law_atom.nd (pi_range1 rfl T.h_range (pa_cons (pe_op op_addG pe_int (pe_def (ok__law_draw T) hr rfl (pa_cons (pv 0) (pa_cons pe_int pa_nil)))) pa_nil)) (blkOk_by (N := N__law_atom) (sc := defScope S__law_atom) (by decide +kernel)) (fun _ _ _ _ _ => pg_name (i := 10) sc__law_atom.nd rfl (Or.inl rfl)) (fun _ _ _ _ _ => pts_nil) (fun _ _ _ _ _ => (pe_def (ok__law_value T) hr rfl (pa_cons (pv 0) (pa_cons (pv 4) pa_nil))))) pa_nil))))))
  pss_nil)
  (pss_cons (ps_if (pt_cmpR op_eq (pv 5) pe_int (nomark _))
  (pss_one (ps_ret (pe_tup (pa_cons pe_str (pa_cons (pv 3) pa_nil)))))
  pss_nil)
  (Evl.pss_cut (ps_if (PW.pt (pw_and (pt_cmpR op_eq (pv 5) pe_int (nomark _)) (pw_and1 (pt_cmpR op_eq (pv 4) pe_str (nomark _)))))
  (pss_one (ps_ret (pe_tup (pa_cons pe_str (pa_cons (pv 3) (pa_cons (pe_def (ok__law_value T) hr rfl (pa_cons (pv 0) (pa_cons pe_str pa_nil))) pa_nil))))))
  pss_nil)
  (pss_cons (ps_if (pt_cmpR op_eq (pv 5) pe_int (nomark _))
  (pss_one (ps_ret (pe_ix (ix_seqG (K := K) rfl) (pe_lst (pa_cons (pe_tup (pa_cons pe_str pa_nil)) (pa_cons (pe_tup (pa_cons pe_str pa_nil)) (pa_cons (pe_tup (pa_cons pe_str (pa_cons (pv 3) pa_nil))) pa_nil)))) (pe_def (ok__law_draw T) hr rfl (pa_cons (pv 0) (pa_cons pe_int pa_nil))) (fun _ _ => rfl))))
  pss_nil)
  (pss_one (ps_ret (pe_tup (pa_cons pe_str (pa_cons (pv 3) (pa_cons (pv 6) (pa_cons (pe_def (ok__law_value T) hr rfl (pa_cons (pv 0) (pa_cons (pv 4) pa_nil))) pa_nil))))))))))))))))), ?_⟩
    obtain ⟨qs, hL, hlen, hcol⟩ := id hC
    rw [List.length_map] at hlen
    have hpos := hcs.ne
    have hcl := hcs.le
    walk_at "g"
    refine ⟨_, _, _, rfl, hD, by omega, by rw [List.length_map]; omega, log_len (by rw [List.length_map]; omega), fun r H1 r0 r1 D1 K1 => ?_⟩
    rw [List.length_map] at r1
    obtain ⟨j, rfl⟩ := Int.eq_ofNat_of_zero_le r0
    obtain ⟨q, hq⟩ : ∃ q, qs[j]? = some q := ⟨_, List.getElem?_eq_getElem (by omega)⟩
    obtain ⟨c, hc⟩ : ∃ c, cs[j]? = some c := ⟨_, List.getElem?_eq_getElem (by omega)⟩
    have hcm := List.mem_of_getElem? hc
    have hcn := hcs.nm c hcm
    have hL1 := K1 _ _ hLp hL
    have hC1 := hC.keepP hLp hD.at K1
    have e1 := (hC1.get hL1).2 j q (ct c) hq (by rw [List.getElem?_map, hc]; rfl)
    refine g_ixL (SqL.of hL1) (v := .ref q) (atI_nat (by rw [List.getElem?_map, hq]; rfl)) ?_
    walk_at "g"
    refine g_ixT (SqT.of e1) (v := .str c.1) (show atI (ct c) 0 = some (.str c.1) from rfl) ?_
    walk_at "g"
    refine g_ixT (SqT.of e1) (v := .str (kS c.2.1)) (show atI (ct c) 1 = some (.str (kS c.2.1)) from rfl) ?_
    walk_at "g"
    refine ⟨_, _, _, rfl, D1, by omega, by decide, by decide +kernel, fun r2 H2 r20 r21 D2 K2 => ?_⟩
    have K02 := K1.trans K2
    have hC2 := hC1.keepP hLp D1.at K2
    walk_at "g"
    refine ⟨by show 6 ≤ sizeLine; decide, fun o ho => ?_⟩
    have no := D2.ne ho
    have D3 := D2.new (o := .lst (opsL.map V.str)) ho
    have K03 := K02.new (o := .lst (opsL.map V.str)) (K02.back no ho)
    have hC3 := hC2.keep (H' := upd H2 o (.lst (opsL.map V.str))) (ext_new ho)
    have e3 : (upd H2 o (.lst (opsL.map V.str))) o = some (.lst (opsL.map V.str)) := upd_same
    have e0 : upd H2 o (.lst [.str (Str.ofString "<"), .str (Str.ofString "<="), .str (Str.ofString "=="), .str (Str.ofString "!="), .str (Str.ofString ">"), .str (Str.ofString ">=")]) = upd H2 o (.lst (opsL.map V.str)) := rfl
    rw [e0]
    generalize upd H2 o (.lst (opsL.map V.str)) = H3 at D3 K03 hC3 e3
    walk_at "g"
    refine ⟨_, _, _, rfl, D3, by omega, by decide, by decide +kernel, fun r4 H4 r40 r41 D4 K4 => ?_⟩
    obtain ⟨op, hop, eop⟩ := atI_strs (ws := opsL) r40 (by show r4 < 6; exact r41)
    refine g_ixL (SqL.of (K4 _ _ no e3)) eop ?_
    have K04 := K03.trans K4
    have hC4 := hC3.keepP hLp D3.at K4
    have D4 : PD H4 p (n + 10) := D4.mono (by omega)
    clear D3 K03 hC3 hC2 D2 K02 hC1 hL1 e1 hC hL hcol
    walk_at "g"
    refine g_cutA (M := fun σ' H' => ∃ s7 : Option V, σ' = [some (.ref p), some (.ref L), some (.ref q), some (.str c.1), some (.str (kS c.2.1)), some (.int r2), some (.str op), s7, none, none, none] ∧ PD H' p (n + 10) ∧ Keep p H H') (fun D1' hn1 hr1 _ _ => ?_) ?_
    · walk_at "g"
      by_cases h34 : r2 = 3 ∨ r2 = 4
      rotate_left
      · rw [decide_eq_false (fun h => h34 (.inl h))]
        walk_at "g"
        rw [decide_eq_false (fun h => h34 (.inr h))]
        walk_at "g"
        exact hn1 _ _ ⟨_, rfl, D4, K04⟩
      obtain ⟨qs, hL, hlen, hcol⟩ := id hC4
      rw [List.length_map] at hlen
      rcases h34 with h | h
      · rw [decide_eq_true h]
        walk_at "g"
        clear h
        refine ⟨L, rfl, ⟨_, SqL.of hL⟩, fun Do hDo => ?_⟩
        refine lc_any (qs.map V.ref) (fun y => ∃ x ∈ cs, y = .str x.1 ∧ x.2.1 = c.2.1 ∧ x.1 ≠ c.1) hDo (fun H2 k2 => fits_l (SqL.of (k2 _ _ hL))) (by rw [List.length_map]; omega) (fun x Hh R S hx kh hR hS => ?_) (fun H5 ys k5 h5' hys hyl => ?_)
        · obtain ⟨q2, hq2, rfl⟩ := List.mem_map.mp hx
          obtain ⟨j2, hj2, rfl⟩ := List.mem_iff_getElem.mp hq2
          obtain ⟨y, hy⟩ : ∃ y, cs[j2]? = some y := ⟨_, List.getElem?_eq_getElem (by omega)⟩
          have e2 := kh _ _ (hcol j2 qs[j2] (ct y) (List.getElem?_eq_getElem hj2) (by rw [List.getElem?_map, hy]; rfl))
          walk_at "g"
          refine ⟨rfl, ?_⟩
          walk_at "g"
          refine g_ixT (SqT.of e2) (v := .str (kS y.2.1)) (show atI (ct y) 1 = some (.str (kS y.2.1)) from rfl) ?_
          walk_at "g"
          refine g_dec (fun h1 => ?_) (fun h1 => ?_)
          · walk_at "g"
            refine g_ixT (SqT.of e2) (v := .str y.1) (show atI (ct y) 0 = some (.str y.1) from rfl) ?_
            walk_at "g"
            refine g_ndec (fun h2 => ?_) (fun h2 => ?_)
            · walk_at "g"
              refine g_ixT (SqT.of e2) (v := .str y.1) (show atI (ct y) 0 = some (.str y.1) from rfl) ?_
              exact hR _ ⟨y, List.mem_of_getElem? hy, rfl, kS_inj h1, h2⟩
            · exact hS
          · walk_at "g"
            exact hS
        · have D5 : PD H5 p (n + 10) := by
            obtain ⟨a, b, c, e, r⟩ := D4
            exact ⟨a, b, c, k5 _ _ e, r⟩
          have K5 : Keep p H H5 := fun q o nq h => k5 _ _ (K04 q o nq h)
          have nDo := D4.ne hDo
          have hyl12 : ys.length ≤ 12 := by
            rw [List.length_map] at hyl
            omega
          walk_at "g"
          refine g_dec (fun hpos2 => ?_) (fun hpos2 => ?_)
          · walk_at "g"
            refine g_cutA (M := fun σ' H' => ∃ m : Int, (c.2.1 = true → m = 0) ∧ σ' = [some (.ref p), some (.ref L), some (.ref q), some (.str c.1), some (.str (kS c.2.1)), some (.int r2), some (.str op), some (.ref Do), some (.int m), none, none] ∧ PD H' p (n + 11) ∧ Keep p H H' ∧ H' Do = some (.lst ys)) (fun D2' hn2 hr2 _ _ => ?_) ?_
            · walk_at "g"
              refine g_dec (fun hk0 => ?_) (fun hk0 => ?_)
              · walk_at "g"
                refine ⟨by show 5 ≤ sizeLine; decide, fun l hl => ?_⟩
                have nl := D5.ne hl
                walk_at "g"
                refine ⟨_, _, _, rfl, D5.new hl, by omega, by decide, by decide +kernel, fun r7 H7 r70 r71 D7 K7 => ?_⟩
                have K6 := K5.new (o := .lst [.int 0, .int 0, .int 1, .int (-1), .int 3]) (K5.back nl hl)
                obtain ⟨m, hm⟩ : ∃ m, atI [V.int 0, V.int 0, V.int 1, V.int (-1), V.int 3] r7 = some (.int m) := by
                  have : r7 = 0 ∨ r7 = 1 ∨ r7 = 2 ∨ r7 = 3 ∨ r7 = 4 := by omega
                  rcases this with rfl | rfl | rfl | rfl | rfl <;> exact ⟨_, rfl⟩
                refine g_ixL (SqL.of (K7 _ _ nl upd_same)) hm ?_
                walk_at "g"
                have hkd : c.2.1 = false := kS_inj (b := false) hk0
                exact hn2 _ _ ⟨m, (fun e => by rw [hkd] at e; cases e), rfl, D7, K6.trans K7, K7 _ _ nDo (ext_new hl _ _ h5')⟩
              · walk_at "g"
                exact hn2 _ _ ⟨0, fun _ => rfl, rfl, D5.mono (by omega), K5, h5'⟩
            · rintro σ' H6 ⟨m, hm0, rfl, D6, K6, h6'⟩
              walk_at "g"
              refine ⟨_, _, _, rfl, D6, by omega, by omega, log_len (by omega), fun r8 H8 r80 r81 D8 K8 => ?_⟩
              have K08 := K6.trans K8
              obtain ⟨jj, rfl⟩ := Int.eq_ofNat_of_zero_le r80
              obtain ⟨y, hy⟩ : ∃ y, ys[jj]? = some y := ⟨_, List.getElem?_eq_getElem (by omega)⟩
              obtain ⟨x, hx, rfl, hxk, hxn⟩ := hys y (List.mem_of_getElem? hy)
              refine g_ixL (SqL.of (K8 _ _ nDo h6')) (v := .str x.1) (atI_nat (j := jj) hy) ?_
              walk_at "g"
              refine ⟨by show 5 ≤ sizeLine; decide, fun t ht => ?_⟩
              walk_at "g"
              rw [hr1]
              exact k t (.against c.1 op x.1 m) (k2 cs) _ upd_same ⟨hcn, hcs.nm x hx, hxn, hop, c.2.1, k2_mem hcm, by rw [← hxk]; exact k2_mem hx, hm0⟩ (K08.new (K08.back (D8.ne ht) ht))
          · walk_at "g"
            exact hn1 _ _ ⟨_, rfl, D5, K5⟩
      · rw [decide_eq_false (by omega)]
        walk_at "g"
        rw [decide_eq_true h]
        walk_at "g"
        clear h
        refine ⟨L, rfl, ⟨_, SqL.of hL⟩, fun Do hDo => ?_⟩
        refine lc_any (qs.map V.ref) (fun y => ∃ x ∈ cs, y = .str x.1 ∧ x.2.1 = c.2.1 ∧ x.1 ≠ c.1) hDo (fun H2 k2 => fits_l (SqL.of (k2 _ _ hL))) (by rw [List.length_map]; omega) (fun x Hh R S hx kh hR hS => ?_) (fun H5 ys k5 h5' hys hyl => ?_)
        · obtain ⟨q2, hq2, rfl⟩ := List.mem_map.mp hx
          obtain ⟨j2, hj2, rfl⟩ := List.mem_iff_getElem.mp hq2
          obtain ⟨y, hy⟩ : ∃ y, cs[j2]? = some y := ⟨_, List.getElem?_eq_getElem (by omega)⟩
          have e2 := kh _ _ (hcol j2 qs[j2] (ct y) (List.getElem?_eq_getElem hj2) (by rw [List.getElem?_map, hy]; rfl))
          walk_at "g"
          refine ⟨rfl, ?_⟩
          walk_at "g"
          refine g_ixT (SqT.of e2) (v := .str (kS y.2.1)) (show atI (ct y) 1 = some (.str (kS y.2.1)) from rfl) ?_
          walk_at "g"
          refine g_dec (fun h1 => ?_) (fun h1 => ?_)
          · walk_at "g"
            refine g_ixT (SqT.of e2) (v := .str y.1) (show atI (ct y) 0 = some (.str y.1) from rfl) ?_
            walk_at "g"
            refine g_ndec (fun h2 => ?_) (fun h2 => ?_)
            · walk_at "g"
              refine g_ixT (SqT.of e2) (v := .str y.1) (show atI (ct y) 0 = some (.str y.1) from rfl) ?_
              exact hR _ ⟨y, List.mem_of_getElem? hy, rfl, kS_inj h1, h2⟩
            · exact hS
          · walk_at "g"
            exact hS
        · have D5 : PD H5 p (n + 10) := by
            obtain ⟨a, b, c, e, r⟩ := D4
            exact ⟨a, b, c, k5 _ _ e, r⟩
          have K5 : Keep p H H5 := fun q o nq h => k5 _ _ (K04 q o nq h)
          have nDo := D4.ne hDo
          have hyl12 : ys.length ≤ 12 := by
            rw [List.length_map] at hyl
            omega
          walk_at "g"
          refine g_dec (fun hpos2 => ?_) (fun hpos2 => ?_)
          · walk_at "g"
            refine g_cutA (M := fun σ' H' => ∃ m : Int, (c.2.1 = true → m = 0) ∧ σ' = [some (.ref p), some (.ref L), some (.ref q), some (.str c.1), some (.str (kS c.2.1)), some (.int r2), some (.str op), some (.ref Do), some (.int m), none, none] ∧ PD H' p (n + 11) ∧ Keep p H H' ∧ H' Do = some (.lst ys)) (fun D2' hn2 hr2 _ _ => ?_) ?_
            · walk_at "g"
              refine g_dec (fun hk0 => ?_) (fun hk0 => ?_)
              · walk_at "g"
                refine ⟨by show 5 ≤ sizeLine; decide, fun l hl => ?_⟩
                have nl := D5.ne hl
                walk_at "g"
                refine ⟨_, _, _, rfl, D5.new hl, by omega, by decide, by decide +kernel, fun r7 H7 r70 r71 D7 K7 => ?_⟩
                have K6 := K5.new (o := .lst [.int 0, .int 0, .int 1, .int (-1), .int 3]) (K5.back nl hl)
                obtain ⟨m, hm⟩ : ∃ m, atI [V.int 0, V.int 0, V.int 1, V.int (-1), V.int 3] r7 = some (.int m) := by
                  have : r7 = 0 ∨ r7 = 1 ∨ r7 = 2 ∨ r7 = 3 ∨ r7 = 4 := by omega
                  rcases this with rfl | rfl | rfl | rfl | rfl <;> exact ⟨_, rfl⟩
                refine g_ixL (SqL.of (K7 _ _ nl upd_same)) hm ?_
                walk_at "g"
                have hkd : c.2.1 = false := kS_inj (b := false) hk0
                exact hn2 _ _ ⟨m, (fun e => by rw [hkd] at e; cases e), rfl, D7, K6.trans K7, K7 _ _ nDo (ext_new hl _ _ h5')⟩
              · walk_at "g"
                exact hn2 _ _ ⟨0, fun _ => rfl, rfl, D5.mono (by omega), K5, h5'⟩
            · rintro σ' H6 ⟨m, hm0, rfl, D6, K6, h6'⟩
              walk_at "g"
              refine ⟨_, _, _, rfl, D6, by omega, by omega, log_len (by omega), fun r8 H8 r80 r81 D8 K8 => ?_⟩
              have K08 := K6.trans K8
              obtain ⟨jj, rfl⟩ := Int.eq_ofNat_of_zero_le r80
              obtain ⟨y, hy⟩ : ∃ y, ys[jj]? = some y := ⟨_, List.getElem?_eq_getElem (by omega)⟩
              obtain ⟨x, hx, rfl, hxk, hxn⟩ := hys y (List.mem_of_getElem? hy)
              refine g_ixL (SqL.of (K8 _ _ nDo h6')) (v := .str x.1) (atI_nat (j := jj) hy) ?_
              walk_at "g"
              refine ⟨by show 5 ≤ sizeLine; decide, fun t ht => ?_⟩
              walk_at "g"
              rw [hr1]
              exact k t (.against c.1 op x.1 m) (k2 cs) _ upd_same ⟨hcn, hcs.nm x hx, hxn, hop, c.2.1, k2_mem hcm, by rw [← hxk]; exact k2_mem hx, hm0⟩ (K08.new (K08.back (D8.ne ht) ht))
          · walk_at "g"
            exact hn1 _ _ ⟨_, rfl, D5, K5⟩
    rintro σ' H5 ⟨s7, rfl, D5, K5⟩
    walk_at "g"
    refine g_dec (fun h5 => ?_) (fun h5 => ?_)
    · walk_at "g"
      refine ⟨_, _, _, rfl, D5, by omega, by decide, by decide +kernel, fun r6 H6 r60 r61 D6 K6 => ?_⟩
      have K06 := K5.trans K6
      walk_at "g"
      refine ⟨_, rfl, by omega, by omega, fun Da hDa => ?_⟩
      have nDa := D6.ne hDa
      have hDaH := K06.back nDa hDa
      refine lc_range (fun i Hi => PD Hi p (n + 20 + 60 * i) ∧ Keep p H Hi ∧ ∃ ys : List V, ys.length = i ∧ Hi Da = some (.lst ys) ∧ ∀ y ∈ ys, isV c.2.1 y) ?_ ?_ ?_
      · exact ⟨(D6.new hDa).mono (by omega), K06.new hDaH, [], rfl, upd_same, fun y hy => nomatch hy⟩
      · rintro i Hi hi ⟨Di, Ki, ys, rfl, hDi, hys⟩
        have hi2 : ys.length < 3 := by omega
        refine ⟨rfl, ?_⟩
        walk_at "g"
        refine ⟨p, c.2.1, _, rfl, Di, by omega, fun v H7 hv D7 K7 => ?_⟩
        refine ⟨_, K7 _ _ nDa hDi, ?_, (D7.other nDa).mono (by omega), (Ki.trans K7).new hDaH, ys ++ [v], by simp, upd_same, fun y hy => ?_⟩
        · rw [sizeLine_eq]; omega
        · rcases List.mem_append.mp hy with hy | hy
          · exact hys y hy
          · rw [List.mem_singleton.mp hy]; exact hv
      · rintro Hi ⟨Di, Ki, ys, hyl2, hDi, hys⟩
        walk_at "g"
        refine ⟨by show 3 ≤ sizeLine; decide, fun t ht => ?_⟩
        walk_at "g"
        have hne : ys ≠ [] := fun e => by rw [e] at hyl2; simp at hyl2; omega
        exact k t (.among c.1 ys) (k2 cs) _ ⟨Da, c.2.1, upd_same, ext_new ht _ _ hDi, hne, hys⟩ ⟨hcn, hne, by omega, c.2.1, k2_mem hcm, hys⟩ (Ki.new (Ki.back (Di.ne ht) ht))
    walk_at "g"
    refine g_dec (fun h6 => ?_) (fun h6 => ?_)
    · walk_at "g"
      refine ⟨by show 2 ≤ sizeLine; decide, fun t ht => ?_⟩
      walk_at "g"
      exact k t (.empty c.1) (k2 cs) _ upd_same ⟨hcn, c.2.1, k2_mem hcm⟩ (K5.new (K5.back (D5.ne ht) ht))
    walk_at "g"
    refine g_cutA (M := fun σ' H' => σ' = [some (.ref p), some (.ref L), some (.ref q), some (.str c.1), some (.str (kS c.2.1)), some (.int r2), some (.str op), s7, none, none, none] ∧ H' = H5) (fun D1' hn1 hr1 _ _ => ?_) ?_
    · walk_at "g"
      refine g_dec (fun h7 => ?_) (fun h7 => ?_)
      · walk_at "g"
        refine g_dec (fun ht7 => ?_) (fun ht7 => ?_)
        · walk_at "g"
          refine ⟨p, true, _, rfl, D5, by omega, fun v H6 hv D6 K6 => ?_⟩
          have K06 := K5.trans K6
          obtain ⟨z, rfl, hz⟩ := hv
          walk_at "g"
          refine ⟨by show 3 ≤ sizeLine; decide, fun t ht => ?_⟩
          walk_at "g"
          rw [hr1]
          have hkd : c.2.1 = true := kS_inj (b := true) ht7
          exact k t (.begins c.1 z) (k2 cs) _ upd_same ⟨hcn, by rw [← hkd]; exact k2_mem hcm, z, rfl, hz⟩ (K06.new (K06.back (D6.ne ht) ht))
        · walk_at "g"
          exact hn1 _ _ ⟨rfl, rfl⟩
      · walk_at "g"
        exact hn1 _ _ ⟨rfl, rfl⟩
    rintro σ' H6 ⟨rfl, rfl⟩
    walk_at "g"
    refine g_dec (fun h8 => ?_) (fun h8 => ?_)
    · walk_at "g"
      refine ⟨by show 1 ≤ sizeLine; decide, fun t1 ht1 => ?_⟩
      have D6 := D5.new (o := .tup [.str (Str.ofString "always")]) ht1
      have K6 := K5.new (o := .tup [.str (Str.ofString "always")]) (K5.back (D5.ne ht1) ht1)
      have e1 : (upd H6 t1 (.tup [.str (Str.ofString "always")])) t1 = some (.tup [.str (Str.ofString "always")]) := upd_same
      generalize upd H6 t1 (.tup [.str (Str.ofString "always")]) = H7 at D6 K6 e1
      walk_at "g"
      refine ⟨by show 1 ≤ sizeLine; decide, fun t2 ht2 => ?_⟩
      have D7 := D6.new (o := .tup [.str (Str.ofString "never")]) ht2
      have K7 := K6.new (o := .tup [.str (Str.ofString "never")]) (K6.back (D6.ne ht2) ht2)
      have e12 := ext_new (o := .tup [.str (Str.ofString "never")]) ht2 _ _ e1
      have e2 : (upd H7 t2 (.tup [.str (Str.ofString "never")])) t2 = some (.tup [.str (Str.ofString "never")]) := upd_same
      generalize upd H7 t2 (.tup [.str (Str.ofString "never")]) = H8 at D7 K7 e12 e2
      walk_at "g"
      refine ⟨by show 2 ≤ sizeLine; decide, fun t3 ht3 => ?_⟩
      have D8 := D7.new (o := .tup [.str (Str.ofString "empty"), .str c.1]) ht3
      have K8 := K7.new (o := .tup [.str (Str.ofString "empty"), .str c.1]) (K7.back (D7.ne ht3) ht3)
      have e13 := ext_new (o := .tup [.str (Str.ofString "empty"), .str c.1]) ht3 _ _ e12
      have e23 := ext_new (o := .tup [.str (Str.ofString "empty"), .str c.1]) ht3 _ _ e2
      have e3 : (upd H8 t3 (.tup [.str (Str.ofString "empty"), .str c.1])) t3 = some (.tup [.str (Str.ofString "empty"), .str c.1]) := upd_same
      generalize upd H8 t3 (.tup [.str (Str.ofString "empty"), .str c.1]) = H9 at D8 K8 e13 e23 e3
      walk_at "g"
      refine ⟨by show 3 ≤ sizeLine; decide, fun l hl => ?_⟩
      have nl := D8.ne hl
      have D9 := D8.new (o := .lst [.ref t1, .ref t2, .ref t3]) hl
      have K9 := K8.new (o := .lst [.ref t1, .ref t2, .ref t3]) (K8.back nl hl)
      have x9 := ext_new (o := .lst [.ref t1, .ref t2, .ref t3]) hl
      have e14 := x9 _ _ e13
      have e24 := x9 _ _ e23
      have e34 := x9 _ _ e3
      have e4 : (upd H9 l (.lst [.ref t1, .ref t2, .ref t3])) l = some (.lst [.ref t1, .ref t2, .ref t3]) := upd_same
      generalize upd H9 l (.lst [.ref t1, .ref t2, .ref t3]) = H10 at D9 K9 e14 e24 e34 e4
      walk_at "g"
      refine ⟨_, _, _, rfl, D9, by omega, by decide, by decide +kernel, fun r9 H11 r90 r91 D11 K11 => ?_⟩
      have K011 := K9.trans K11
      have tn : ∀ {b : Addr} {z : List V}, H10 b = some (.tup z) → b ≠ p := fun h z => by
        obtain ⟨xs, hx⟩ := D9.at
        rw [z, hx] at h; cases h
      have e4' := K11 _ _ nl e4
      have : r9 = 0 ∨ r9 = 1 ∨ r9 = 2 := by omega
      rcases this with rfl | rfl | rfl
      · refine g_ixL (SqL.of e4') (v := .ref t1) (by rfl) ?_
        walk_at "g"
        exact k t1 .always (k2 cs) _ (K11 _ _ (tn e14) e14) True.intro K011
      · refine g_ixL (SqL.of e4') (v := .ref t2) (by rfl) ?_
        walk_at "g"
        exact k t2 .never (k2 cs) _ (K11 _ _ (tn e24) e24) True.intro K011
      · refine g_ixL (SqL.of e4') (v := .ref t3) (by rfl) ?_
        walk_at "g"
        exact k t3 (.empty c.1) (k2 cs) _ (K11 _ _ (tn e34) e34) ⟨hcn, c.2.1, k2_mem hcm⟩ K011
    · walk_at "g"
      refine ⟨p, c.2.1, _, rfl, D5, by omega, fun v H7 hv D7 K7 => ?_⟩
      have K07 := K5.trans K7
      walk_at "g"
      refine ⟨by show 4 ≤ sizeLine; decide, fun t ht => ?_⟩
      walk_at "g"
      exact k t (.compare c.1 op v) (k2 cs) _ upd_same ⟨hcn, hop, c.2.1, k2_mem hcm, hv⟩ (K07.new (K07.back (D7.ne ht) ht))
end
section
variable {σ : L2.St} {H : Hp} {D : Ends} {n : Nat} {x z : Str} {t1 tz : TS}
/-- if x == 'z': of texts that are known -/
theorem g_skipS (hv : σ[n]? = some (some (.str x))) (hne : x ≠ z) (q : tz D σ H) : tSeq (tIfS (tTest (tOp rEq (tVar n) (tC (.str z)))) t1 tNext) tz D σ H := by
  refine g_seq (g_if (g_test (g_op (g_var hv (g_c (g_eqS (g_bl ?_)))))))
  rw [decide_eq_false hne, if_neg Bool.false_ne_true]
  exact q
theorem g_takeS (hv : σ[n]? = some (some (.str z))) (q : t1 (mkE (tz D) D.rt D.bk D.ct) σ H) : tSeq (tIfS (tTest (tOp rEq (tVar n) (tC (.str z)))) t1 tNext) tz D σ H := by
  refine g_seq (g_if (g_test (g_op (g_var hv (g_c (g_eqS (g_bl ?_)))))))
  rw [decide_eq_true rfl, if_pos rfl]
  exact q
end
def spMakeA (C : Addr) : Sp := fun vs H Q _ => ∃ (q : Addr) (a : At) (κ : List (Str × Bool)), vs = [.ref q] ∧ AtomForm H q a ∧ a.Wf κ ∧ ∀ t H', (∀ q o, H q = some o → H' q = some o) → TestAt C H' a.ts t → Q (.ref t) H'
section
variable {P : Program} {w : World} {K : PySem.W.Frag} {mg : Str → Option Value} {base : Heap}
theorem ok__law_make (T : TxtW w K mg) : Def P w K mg base 10 "_law_make" ["_law_term"] (spMakeA (cadr mg "Test")) := by
  obtain ⟨f, fd, h⟩ := T.d__law_make
  refine h.def (Fun.okM h.fn sc__law_make (fun vs H Q E h => ?_) (fun cdv A outer s H vs Q E hr h => ?_))
  · obtain ⟨q, a, κ, rfl, _⟩ := h
    rfl
  · obtain ⟨q, a, κ, rfl, hF, hw, k⟩ := h
    refine ⟨_, (pss_cons (ps_set (i := 1) sc__law_make.nd rfl (Or.inl rfl) (pe_ix (ix_seqG (K := K) rfl) (pv 0) pe_int (fun _ _ => rfl)))
  (pss_cons (ps_if (pt_cmpR op_eq (pv 1) pe_str (nomark _))
  (pss_one (ps_ret (pe_def (ok_compare T) hr rfl (pa_cons (pe_ix (ix_seqG (K := K) rfl) (pv 0) pe_int (fun _ _ => rfl)) (pa_cons (pe_ix (ix_seqG (K := K) rfl) (pv 0) pe_int (fun _ _ => rfl)) (pa_cons (pe_ix (ix_seqG (K := K) rfl) (pv 0) pe_int (fun _ _ => rfl)) pa_nil))) (hk := by omega))))
  pss_nil)
  (pss_cons (ps_if (pt_cmpR op_eq (pv 1) pe_str (nomark _))
  (pss_one (ps_ret (pe_defKw (ok_against T) hr rfl (pa_cons (pe_ix (ix_seqG (K := K) rfl) (pv 0) pe_int (fun _ _ => rfl)) (pa_cons (pe_ix (ix_seqG (K := K) rfl) (pv 0) pe_int (fun _ _ => rfl)) (pa_cons (pe_ix (ix_seqG (K := K) rfl) (pv 0) pe_int (fun _ _ => rfl)) pa_nil))) (pe_ix (ix_seqG (K := K) rfl) (pv 0) pe_int (fun _ _ => rfl)) (hk := by omega))))
  pss_nil)
  (pss_cons (ps_if (pt_cmpR op_eq (pv 1) pe_str (nomark _))
  (pss_one (ps_ret (pe_def (ok_among T) hr rfl (pa_cons (pe_ix (ix_seqG (K := K) rfl) (pv 0) pe_int (fun _ _ => rfl)) (pa_cons (pe_callTy (call_listG (K := K) rfl) (by rfl) T.h_list (by decide +kernel) (pa_cons (pe_ix (ix_seqG (K := K) rfl) (pv 0) pe_int (fun _ _ => rfl)) pa_nil)) pa_nil)) (hk := by omega))))
  pss_nil)
  (pss_cons (ps_if (pt_cmpR op_eq (pv 1) pe_str (nomark _))
  (pss_one (ps_ret (pe_def (ok_begins T) hr rfl (pa_cons (pe_ix (ix_seqG (K := K) rfl) (pv 0) pe_int (fun _ _ => rfl)) (pa_cons (pe_ix (ix_seqG (K := K) rfl) (pv 0) pe_int (fun _ _ => rfl)) pa_nil)) (hk := by omega))))
  pss_nil)
  (pss_cons (ps_if (pt_cmpR op_eq (pv 1) pe_str (nomark _))
  (pss_one (ps_ret (pe_def (ok_empty T) hr rfl (pa_cons (pe_ix (ix_seqG (K := K) rfl) (pv 0) pe_int (fun _ _ => rfl)) pa_nil) (hk := by omega))))
  pss_nil)
  (pss_cons (ps_if (pt_cmpR op_eq (pv 1) pe_str (nomark _))
  (pss_one (ps_ret (pe_def0 (ok_always T) hr rfl (hk := by omega))))
  pss_nil)
  (pss_cons (ps_if (pt_cmpR op_eq (pv 1) pe_str (nomark _))
  (pss_one (ps_ret (pe_def0 (ok_never T) hr rfl (hk := by omega))))
  pss_nil)
  (pss_cons (ps_if (pt_cmpR op_eq (pv 1) pe_str (nomark _))
  (pss_one ps_never)
  pss_nil)
  (pss_cons (ps_if (pt_cmpR op_eq (pv 1) pe_str (nomark _))
  (pss_one ps_never)
  pss_nil)
  (pss_cons (ps_if (pt_cmpR op_eq (pv 1) pe_str (nomark _))
  (pss_one ps_never)
  pss_nil)
  (pss_one ps_never)))))))))))), ?_⟩
    cases a with
    | always =>
      have hA : H q = some (.tup [.str "always"]) := hF
      walk_at "g"
      refine g_ixT (SqT.of hA) (v := .str "always") (by rfl) ?_
      refine g_nx ?_
      refine g_skipS rfl (show ("always" : Str) ≠ "compare" by decide +kernel) ?_
      refine g_skipS rfl (show ("always" : Str) ≠ "against" by decide +kernel) ?_
      refine g_skipS rfl (show ("always" : Str) ≠ "among" by decide +kernel) ?_
      refine g_skipS rfl (show ("always" : Str) ≠ "begins" by decide +kernel) ?_
      refine g_skipS rfl (show ("always" : Str) ≠ "empty" by decide +kernel) ?_
      refine g_takeS rfl ?_
      walk_at "g"
      refine ⟨rfl, fun t H9 k9 A9 => ?_⟩
      walk_at "g"
      exact k t H9 k9 A9
    | never =>
      have hA : H q = some (.tup [.str "never"]) := hF
      walk_at "g"
      refine g_ixT (SqT.of hA) (v := .str "never") (by rfl) ?_
      refine g_nx ?_
      refine g_skipS rfl (show ("never" : Str) ≠ "compare" by decide +kernel) ?_
      refine g_skipS rfl (show ("never" : Str) ≠ "against" by decide +kernel) ?_
      refine g_skipS rfl (show ("never" : Str) ≠ "among" by decide +kernel) ?_
      refine g_skipS rfl (show ("never" : Str) ≠ "begins" by decide +kernel) ?_
      refine g_skipS rfl (show ("never" : Str) ≠ "empty" by decide +kernel) ?_
      refine g_skipS rfl (show ("never" : Str) ≠ "always" by decide +kernel) ?_
      refine g_takeS rfl ?_
      walk_at "g"
      refine ⟨rfl, fun t H9 k9 A9 => ?_⟩
      walk_at "g"
      exact k t H9 k9 A9
    | empty c =>
      have hA : H q = some (.tup [.str "empty", .str c]) := hF
      obtain ⟨hc, _⟩ := hw
      walk_at "g"
      refine g_ixT (SqT.of hA) (v := .str "empty") (by rfl) ?_
      refine g_nx ?_
      refine g_skipS rfl (show ("empty" : Str) ≠ "compare" by decide +kernel) ?_
      refine g_skipS rfl (show ("empty" : Str) ≠ "against" by decide +kernel) ?_
      refine g_skipS rfl (show ("empty" : Str) ≠ "among" by decide +kernel) ?_
      refine g_skipS rfl (show ("empty" : Str) ≠ "begins" by decide +kernel) ?_
      refine g_takeS rfl ?_
      walk_at "g"
      refine g_ixT (SqT.of hA) (v := .str c) (by rfl) ?_
      walk_at "g"
      refine ⟨c, rfl, hc, fun t H9 k9 A9 => ?_⟩
      walk_at "g"
      exact k t H9 k9 A9
    | among c xs =>
      obtain ⟨l, kd0, hA, hl, _, _⟩ := hF
      obtain ⟨hc, hne, h8, kd, _, hvv⟩ := hw
      walk_at "g"
      refine g_ixT (SqT.of hA) (v := .str "among") (by rfl) ?_
      refine g_nx ?_
      refine g_skipS rfl (show ("among" : Str) ≠ "compare" by decide +kernel) ?_
      refine g_skipS rfl (show ("among" : Str) ≠ "against" by decide +kernel) ?_
      refine g_takeS rfl ?_
      walk_at "g"
      refine g_ixT (SqT.of hA) (v := .str c) (by rfl) ?_
      walk_at "g"
      refine g_ixT (SqT.of hA) (v := .ref l) (by rfl) ?_
      walk_at "g"
      refine ⟨l, xs, rfl, .inl (SqL.of hl), fun l2 hl2 => ?_⟩
      walk_at "g"
      refine ⟨c, l2, xs, kd, rfl, hc, upd_same, hne, h8, hvv, fun t H9 k9 A9 => ?_⟩
      walk_at "g"
      exact k t H9 (fun q o h => k9 _ _ (ext_new hl2 _ _ h)) A9
    | begins c z =>
      have hA : H q = some (.tup [.str "begins", .str c, .str z]) := hF
      obtain ⟨hc, _, hz⟩ := hw
      walk_at "g"
      refine g_ixT (SqT.of hA) (v := .str "begins") (by rfl) ?_
      refine g_nx ?_
      refine g_skipS rfl (show ("begins" : Str) ≠ "compare" by decide +kernel) ?_
      refine g_skipS rfl (show ("begins" : Str) ≠ "against" by decide +kernel) ?_
      refine g_skipS rfl (show ("begins" : Str) ≠ "among" by decide +kernel) ?_
      refine g_takeS rfl ?_
      walk_at "g"
      refine g_ixT (SqT.of hA) (v := .str c) (by rfl) ?_
      walk_at "g"
      refine g_ixT (SqT.of hA) (v := .str z) (by rfl) ?_
      walk_at "g"
      refine ⟨c, z, rfl, hc, hz, fun t H9 k9 A9 => ?_⟩
      walk_at "g"
      exact k t H9 k9 A9
    | compare c op v =>
      have hA : H q = some (.tup [.str "compare", .str c, .str op, v]) := hF
      obtain ⟨hc, ho, kd, _, hvv⟩ := hw
      walk_at "g"
      refine g_ixT (SqT.of hA) (v := .str "compare") (by rfl) ?_
      refine g_nx ?_
      refine g_takeS rfl ?_
      walk_at "g"
      refine g_ixT (SqT.of hA) (v := .str c) (by rfl) ?_
      walk_at "g"
      refine g_ixT (SqT.of hA) (v := .str op) (by rfl) ?_
      walk_at "g"
      refine g_ixT (SqT.of hA) (v := v) (by rfl) ?_
      walk_at "g"
      refine ⟨c, op, v, kd, rfl, hc, ho, hvv, fun t H9 k9 A9 => ?_⟩
      walk_at "g"
      exact k t H9 k9 A9
    | against c op d n =>
      have hA : H q = some (.tup [.str "against", .str c, .str op, .str d, .int n]) := hF
      obtain ⟨hc, hdn, hdc, ho, _⟩ := hw
      walk_at "g"
      refine g_ixT (SqT.of hA) (v := .str "against") (by rfl) ?_
      refine g_nx ?_
      refine g_skipS rfl (show ("against" : Str) ≠ "compare" by decide +kernel) ?_
      refine g_takeS rfl ?_
      walk_at "g"
      refine g_defKw ?_
      walk_at "g"
      refine g_ixT (SqT.of hA) (v := .str c) (by rfl) ?_
      walk_at "g"
      refine g_ixT (SqT.of hA) (v := .str op) (by rfl) ?_
      walk_at "g"
      refine g_ixT (SqT.of hA) (v := .str d) (by rfl) ?_
      walk_at "g"
      refine g_ixT (SqT.of hA) (v := .int n) (by rfl) ?_
      walk_at "g"
      refine ⟨rfl, rfl, c, op, d, n, rfl, hc, ho, hdn, hdc, fun t H9 k9 A9 => ?_⟩
      walk_at "g"
      exact k t H9 k9 A9
end
inductive LS where
  | keep (a : At)
  | sort (o : List (Str × Bool))
  | dist (ns : List Str)
  | first
  | flip
def LS.st : LS → Stp
  | .keep a => .keep a.ts
  | .sort o => .sort o
  | .dist ns => .dist ns
  | .first => .first
  | .flip => .flip
/-- a step as it is drawn -/
def StFm (H : Hp) (q : Addr) : LS → Prop
  | .keep a => ∃ t, H q = some (.tup [.str "keep", .ref t]) ∧ AtomForm H t a
  | .sort o => ∃ l, H q = some (.tup [.str "sort", .ref l]) ∧ LAt H l (o.map pt)
  | .dist ns => ∃ l, H q = some (.tup [.str "distinct", .ref l]) ∧ H l = some (.lst (ns.map V.str))
  | .first => H q = some (.tup [.str "first"])
  | .flip => H q = some (.tup [.str "flip"])
def LOk : LS → Prop
  | .keep a => ∃ κ, a.Wf κ
  | .sort o => OOk o
  | .dist ns => (∀ n ∈ ns, nameP n) ∧ ns.Nodup ∧ ns.length ≤ 3
  | _ => True
theorem StFm.keepX {H H' : Hp} {q : Addr} {s : LS} (h : StFm H q s) (k : XT H H') : StFm H' q s := by
  cases s with
  | keep a => obtain ⟨t, x, y⟩ := h; exact ⟨t, k _ _ x, AtomForm.keep y k⟩
  | sort o => obtain ⟨t, x, y⟩ := h; exact ⟨t, k _ _ x, y.keep k⟩
  | dist ns => obtain ⟨t, x, y⟩ := h; exact ⟨t, k _ _ x, k _ _ y⟩
  | first => exact k _ _ h
  | flip => exact k _ _ h
theorem LOk.st {s : LS} (h : LOk s) : StOk s.st := by
  cases s with
  | keep a => exact True.intro
  | sort o => exact h
  | dist ns => exact h
  | first => exact True.intro
  | flip => exact True.intro
theorem AtomForm.tup {H : Hp} {q : Addr} {a : At} (h : AtomForm H q a) : ∃ r, H q = some (.tup r) := by
  cases a with
  | among c vs => obtain ⟨l, k, e, _⟩ := h; exact ⟨_, e⟩
  | always => exact ⟨_, h⟩
  | never => exact ⟨_, h⟩
  | empty c => exact ⟨_, h⟩
  | begins c z => exact ⟨_, h⟩
  | compare c op v => exact ⟨_, h⟩
  | against c op d n => exact ⟨_, h⟩
theorem second {t l l' : Addr} {w w' : V} {H : Hp} (h : (upd H t (.tup [w, .ref l])) t = some (.tup [w', .ref l'])) : l = l' := by
  rw [upd_same] at h
  injection h with e
  injection e with e
  injection e with _ e
  injection e with e _
  injection e
theorem single {t l' : Addr} {w w' : V} {H : Hp} (h : (upd H t (.tup [w])) t = some (.tup [w', .ref l'])) : False := by
  rw [upd_same] at h
  injection h with e
  injection e with e
  injection e with _ e
  cases e
def spStepP : Sp := fun vs H Q _ => ∃ (p L : Addr) (cs : List Col) (n : Nat), vs = [.ref p, .ref L] ∧ PD H p n ∧ n ≤ 600000 ∧ LAt H L (cs.map ct) ∧ ColsOk cs ∧ L ≠ p ∧ ∀ q s H', StFm H' q s → LOk s → (∀ l xs, (∃ w, H' q = some (.tup [w, .ref l])) → H' l = some (.lst xs) → H l = none) → Keep p H H' → Q (.ref q) H'
section
variable {P : Program} {w : World} {K : PySem.W.Frag} {mg : Str → Option Value} {base : Heap}
theorem ok__law_step (T : TxtW w K mg) : Def P w K mg base 4 "_law_step" ["_law_pool_here", "_law_columns_here"] spStepP := by
  obtain ⟨f, fd, h⟩ := T.d__law_step
  refine h.def (Fun.okM h.fn sc__law_step (fun vs H Q E h => ?_) (fun cdv A outer s H vs Q E hr h => ?_))
  · obtain ⟨p, L, cs, n, rfl, _⟩ := h
    rfl
  · obtain ⟨p, L, cs, n, rfl, hD, hn, hC, hcs, hLp, k⟩ := h
    refine ⟨_, (pss_cons (ps_set (i := 2) sc__law_step.nd rfl (Or.inl rfl) (pe_ix (ix_seqG (K := K) rfl) (pe_lst (pa_cons pe_str (pa_cons pe_str (pa_cons pe_str (pa_cons pe_str (pa_cons pe_str (pa_cons pe_str (pa_cons pe_str pa_nil)))))))) (pe_def (ok__law_draw T) hr rfl (pa_cons (pv 0) (pa_cons pe_int pa_nil))) (fun _ _ => rfl)))
  (pss_cons (ps_if (pt_cmpR op_eq (pv 2) pe_str (nomark _))
  (pss_one (ps_ret (pe_tup (pa_cons (pv 2) (pa_cons (pe_def (ok__law_atom T) hr rfl (pa_cons (pv 0) (pa_cons (pv 1) pa_nil))) pa_nil)))))
  pss_nil)
  (pss_cons (ps_if (pt_cmpR op_eq (pv 2) pe_str (nomark _))
  (pss_one (ps_ret (pe_tup (pa_cons (pv 2) (pa_cons (pe_def (ok__law_order T) hr rfl (pa_cons (pv 0) (pa_cons (pv 1) pa_nil))) pa_nil)))))
  pss_nil)
  (pss_cons (ps_if (pt_cmpR op_eq (pv 2) pe_str (nomark _))
  (pss_cons (ps_set (i := 3) sc__law_step.nd rfl (Or.inl rfl) (pe_lst pa_nil))
  (pss_cons (ps_for PassesOwn.never rfl (pi_range1 rfl T.h_range (pa_cons (pe_ix (ix_seqG (K := K) rfl) (pe_lst (pa_cons pe_int (pa_cons pe_int (pa_cons pe_int (pa_cons pe_int pa_nil))))) (pe_def (ok__law_draw T) hr rfl (pa_cons (pv 0) (pa_cons pe_int pa_nil))) (fun _ _ => rfl)) pa_nil)) (pg_name (i := 4) sc__law_step.nd rfl (Or.inl rfl))
  (pss_cons (ps_set (i := 5) sc__law_step.nd rfl (Or.inl rfl) (pe_ix (ix_seqG (K := K) rfl) (pe_ix (ix_seqG (K := K) rfl) (pv 1) (pe_def (ok__law_draw T) hr rfl (pa_cons (pv 0) (pa_cons (pe_callB (call_lenG (K := K) rfl) (by rfl) T.h_len (by decide +kernel) (pa_cons (pv 1) pa_nil)) pa_nil))) (fun _ _ => rfl)) pe_int (fun _ _ => rfl)))
  (pss_one (ps_if (pt_cmpR (op_notInG (K := K) rfl) (pv 5) (pv 3) (by rfl))
  (pss_one (ps_expr (pe_bm PySem.F.plainAttrs_list PySem.F.slot_list_append PySem.F.type_list_append mt_append (pv 3) (pa_cons (pv 5) pa_nil))))
  pss_nil))))
  (pss_one (ps_ret (pe_tup (pa_cons (pv 2) (pa_cons (pv 3) pa_nil)))))))
  pss_nil)
  (pss_one (ps_ret (pe_tup (pa_cons (pv 2) pa_nil)))))))), ?_⟩
    walk_at "g"
    refine ⟨by show 7 ≤ sizeLine; decide, fun l hl => ?_⟩
    have nl := hD.ne hl
    have D1 := hD.new (o := .lst [.str (Str.ofString "keep"), .str (Str.ofString "sort"), .str (Str.ofString "distinct"), .str (Str.ofString "first"), .str (Str.ofString "flip"), .str (Str.ofString "sort"), .str (Str.ofString "distinct")]) hl
    have x1 : XT H (upd H l (.lst [.str (Str.ofString "keep"), .str (Str.ofString "sort"), .str (Str.ofString "distinct"), .str (Str.ofString "first"), .str (Str.ofString "flip"), .str (Str.ofString "sort"), .str (Str.ofString "distinct")])) := ext_new hl
    have e1 : (upd H l (.lst [.str (Str.ofString "keep"), .str (Str.ofString "sort"), .str (Str.ofString "distinct"), .str (Str.ofString "first"), .str (Str.ofString "flip"), .str (Str.ofString "sort"), .str (Str.ofString "distinct")])) l = some (.lst [.str (Str.ofString "keep"), .str (Str.ofString "sort"), .str (Str.ofString "distinct"), .str (Str.ofString "first"), .str (Str.ofString "flip"), .str (Str.ofString "sort"), .str (Str.ofString "distinct")]) := upd_same
    generalize upd H l (.lst [.str (Str.ofString "keep"), .str (Str.ofString "sort"), .str (Str.ofString "distinct"), .str (Str.ofString "first"), .str (Str.ofString "flip"), .str (Str.ofString "sort"), .str (Str.ofString "distinct")]) = H1 at D1 x1 e1
    walk_at "g"
    refine ⟨_, _, _, rfl, D1, by omega, by decide, by decide +kernel, fun r H2 r0 r1 D2 K2 => ?_⟩
    have K02 : Keep p H H2 := fun q o nq h => K2 q o nq (x1 q o h)
    have hC2 := (hC.keep x1).keepP hLp D1.at K2
    have e2 := K2 _ _ nl e1
    have D2 : PD H2 p (n + 1) := D2
    obtain ⟨z, hz, hzc⟩ : ∃ z : Str, atI [V.str (Str.ofString "keep"), V.str (Str.ofString "sort"), V.str (Str.ofString "distinct"), V.str (Str.ofString "first"), V.str (Str.ofString "flip"), V.str (Str.ofString "sort"), V.str (Str.ofString "distinct")] r = some (.str z) ∧ (z = "keep" ∨ z = "sort" ∨ z = "distinct" ∨ z = "first" ∨ z = "flip") := by
      have : r = 0 ∨ r = 1 ∨ r = 2 ∨ r = 3 ∨ r = 4 ∨ r = 5 ∨ r = 6 := by omega
      rcases this with rfl | rfl | rfl | rfl | rfl | rfl | rfl
      · exact ⟨_, rfl, .inl rfl⟩
      · exact ⟨_, rfl, .inr (.inl rfl)⟩
      · exact ⟨_, rfl, .inr (.inr (.inl rfl))⟩
      · exact ⟨_, rfl, .inr (.inr (.inr (.inl rfl)))⟩
      · exact ⟨_, rfl, .inr (.inr (.inr (.inr rfl)))⟩
      · exact ⟨_, rfl, .inr (.inl rfl)⟩
      · exact ⟨_, rfl, .inr (.inr (.inl rfl))⟩
    refine g_ixL (SqL.of e2) hz ?_
    clear hz e2 e1 x1 K2 D1 hl
    walk_at "g"
    rcases hzc with rfl | rfl | rfl | rfl | rfl
    · refine g_dec (fun _ => ?_) (fun h => absurd rfl h)
      walk_at "g"
      refine ⟨p, L, cs, _, rfl, D2, by omega, hC2, hcs, hLp, fun q a κ H3 hA hw K3 => ?_⟩
      walk_at "g"
      refine ⟨by show 2 ≤ sizeLine; decide, fun t ht => ?_⟩
      walk_at "g"
      exact k t (.keep a) _ ⟨q, upd_same, AtomForm.keep hA (ext_new ht)⟩ ⟨κ, hw⟩ (fun l' xs ⟨w', e⟩ el => by
        obtain rfl := second e
        obtain ⟨r', hr'⟩ := (AtomForm.keep hA (ext_new (o := .tup [.str (Str.ofString "keep"), .ref q]) ht)).tup
        rw [hr'] at el
        cases el) fun b o nb h => ext_new ht _ _ (K3 b o nb (K02 b o nb h))
    · refine g_dec (fun h => absurd h (show ("sort" : Str) ≠ "keep" by decide +kernel)) (fun _ => ?_)
      walk_at "g"
      refine g_dec (fun _ => ?_) (fun h => absurd rfl h)
      walk_at "g"
      refine ⟨p, L, cs, _, rfl, D2, by omega, hC2, hcs, hLp, fun O ps H3 hok hO hO0 _ K3 _ => ?_⟩
      walk_at "g"
      refine ⟨by show 2 ≤ sizeLine; decide, fun t ht => ?_⟩
      walk_at "g"
      exact k t (.sort ps) _ ⟨O, upd_same, hO.keep (ext_new ht)⟩ hok (fun l' xs ⟨w', e⟩ el => by
        obtain rfl := second e
        exact K02.back (D2.ne hO0) hO0) fun b o nb h => ext_new ht _ _ (K3 b o nb (K02 b o nb h))
    · refine g_dec (fun h => absurd h (show ("distinct" : Str) ≠ "keep" by decide +kernel)) (fun _ => ?_)
      walk_at "g"
      refine g_dec (fun h => absurd h (show ("distinct" : Str) ≠ "sort" by decide +kernel)) (fun _ => ?_)
      walk_at "g"
      refine g_dec (fun _ => ?_) (fun h => absurd rfl h)
      walk_at "g"
      refine ⟨Nat.zero_le _, fun N hN => ?_⟩
      have nN := D2.ne hN
      have hNH := K02.back nN hN
      have D3 := D2.new (o := .lst []) hN
      have K3 := K02.new (o := .lst []) hNH
      have hC3 := hC2.keep (H' := upd H2 N (.lst [])) (ext_new hN)
      have e3 : (upd H2 N (.lst [])) N = some (.lst (([] : List Str).map V.str)) := upd_same
      have hLN : L ≠ N := by obtain ⟨qs, h1, _⟩ := hC2; exact ne_of_none h1 hN
      generalize upd H2 N (.lst []) = H3 at D3 K3 hC3 e3
      walk_at "g"
      refine ⟨by show 4 ≤ sizeLine; decide, fun l2 hl2 => ?_⟩
      have nl2 := D3.ne hl2
      have D4 := D3.new (o := .lst [.int 1, .int 2, .int 0, .int 1]) hl2
      have K4 := K3.new (o := .lst [.int 1, .int 2, .int 0, .int 1]) (K3.back nl2 hl2)
      have hC4 := hC3.keep (H' := upd H3 l2 (.lst [.int 1, .int 2, .int 0, .int 1])) (ext_new hl2)
      have e34 := ext_new (o := .lst [.int 1, .int 2, .int 0, .int 1]) hl2 _ _ e3
      have e4 : (upd H3 l2 (.lst [.int 1, .int 2, .int 0, .int 1])) l2 = some (.lst [.int 1, .int 2, .int 0, .int 1]) := upd_same
      generalize upd H3 l2 (.lst [.int 1, .int 2, .int 0, .int 1]) = H4 at D4 K4 hC4 e34 e4
      walk_at "g"
      refine ⟨_, _, _, rfl, D4, by omega, by decide, by decide +kernel, fun r5 H5 r50 r51 D5 K5 => ?_⟩
      obtain ⟨m, hm, hm0, hm2⟩ : ∃ m : Int, atI [V.int 1, V.int 2, V.int 0, V.int 1] r5 = some (.int m) ∧ 0 ≤ m ∧ m ≤ 2 := by
        have : r5 = 0 ∨ r5 = 1 ∨ r5 = 2 ∨ r5 = 3 := by omega
        rcases this with rfl | rfl | rfl | rfl
        · exact ⟨_, rfl, by decide, by decide⟩
        · exact ⟨_, rfl, by decide, by decide⟩
        · exact ⟨_, rfl, by decide, by decide⟩
        · exact ⟨_, rfl, by decide, by decide⟩
      refine g_ixL (SqL.of (K5 _ _ nl2 e4)) hm ?_
      walk_at "g"
      refine ⟨_, rfl, by omega, by omega, ?_⟩
      refine for_rangeA (fun i σ' H' => ∃ (s4 s5 : Option V) (ns : List Str), σ' = [some (.ref p), some (.ref L), some (.str "distinct"), some (.ref N), s4, s5] ∧ PD H' p (n + 10 + 3 * i) ∧ Keep p H H' ∧ H' N = some (.lst (ns.map V.str)) ∧ LAt H' L (cs.map ct) ∧ ns.length ≤ i ∧ (∀ c ∈ ns, nameP c) ∧ ns.Nodup) ⟨_, _, [], rfl, D5.mono (by omega), K4.trans K5, K5 _ _ nN e34, hC4.keepP hLp D4.at K5, Nat.le_refl _, (fun c h => nomatch h), List.nodup_nil⟩ ?_ ?_
      · rintro i σ' H6 D' hi ⟨s4, s5, ns, rfl, D6, K6, e6, hC6, hnl, hnm, hnd⟩ hnx hct hbk hrt
        have hi2 : i < 2 := by omega
        obtain ⟨qs, hq6, hlen, hcol⟩ := id hC6
        rw [List.length_map] at hlen
        have hpos := hcs.ne
        have hcl := hcs.le
        walk_at "g"
        refine ⟨_, _, _, rfl, D6, by omega, by rw [List.length_map]; omega, log_len (by rw [List.length_map]; omega), fun r7 H7 r70 r71 D7 K7 => ?_⟩
        rw [List.length_map] at r71
        obtain ⟨j, rfl⟩ := Int.eq_ofNat_of_zero_le r70
        have hj : j < cs.length := by omega
        have hq7 := K7 _ _ hLp hq6
        have hC7 := hC6.keepP hLp D6.at K7
        have e7 := K7 _ _ nN e6
        refine g_ixL (SqL.of hq7) (v := .ref qs[j]) (atI_nat (j := j) (by rw [List.getElem?_map, List.getElem?_eq_getElem (by omega)]; rfl)) ?_
        walk_at "g"
        have et : H7 qs[j] = some (.tup (ct cs[j])) := (hC7.get hq7).2 j _ _ (List.getElem?_eq_getElem (by omega)) (by rw [List.getElem?_map, List.getElem?_eq_getElem hj]; rfl)
        refine g_ixT (SqT.of et) (v := .str cs[j].1) (show atI (ct cs[j]) 0 = some (.str cs[j].1) from rfl) ?_
        walk_at "g"
        refine .inr ⟨_, ns.map V.str, rfl, .inl (SqL.of e7), rfl, Tw.flat_strs _, ?_⟩
        rw [if_pos rfl, inV_strs]
        walk_at "g"
        refine g_ndec (fun hnew => ?_) (fun hnew => ?_)
        · walk_at "g"
          refine hnx _ _ ⟨_, _, ns ++ [cs[j].1], rfl, (D7.other nN).mono (by omega), (K6.trans K7).new hNH, by rw [upd_same, List.map_append]; rfl, hC7.keepP hLN ⟨_, e7⟩ fun b o nb h => by rw [upd_ne nb]; exact h, by rw [List.length_append]; show ns.length + 1 ≤ i + 1; omega, fun c hc => ?_, ?_⟩
          · rcases List.mem_append.mp hc with hc | hc
            · exact hnm c hc
            · rw [List.mem_singleton.mp hc]; exact hcs.nm _ (List.getElem_mem hj)
          · exact List.nodup_append.mpr ⟨hnd, List.nodup_cons.mpr ⟨fun h => (nomatch h), List.nodup_nil⟩, fun u hu v hv e => hnew (by
              rw [List.mem_singleton.mp hv] at e
              rw [← e]; exact hu)⟩
        · walk_at "g"
          exact hnx _ _ ⟨_, _, ns, rfl, D7.mono (by omega), K6.trans K7, e7, hC7, by omega, hnm, hnd⟩
      · rintro σ' H6 ⟨s4, s5, ns, rfl, D6, K6, e6, hC6, hnl, hnm, hnd⟩
        walk_at "g"
        refine ⟨by show 2 ≤ sizeLine; decide, fun t ht => ?_⟩
        walk_at "g"
        exact k t (.dist ns) _ ⟨N, upd_same, ext_new ht _ _ e6⟩ ⟨hnm, hnd, by omega⟩ (fun l' xs ⟨w', e⟩ el => by
          obtain rfl := second e
          exact hNH) fun b o nb h => ext_new ht _ _ (K6 b o nb h)
    · refine g_dec (fun h => absurd h (show ("first" : Str) ≠ "keep" by decide +kernel)) (fun _ => ?_)
      walk_at "g"
      refine g_dec (fun h => absurd h (show ("first" : Str) ≠ "sort" by decide +kernel)) (fun _ => ?_)
      walk_at "g"
      refine g_dec (fun h => absurd h (show ("first" : Str) ≠ "distinct" by decide +kernel)) (fun _ => ?_)
      walk_at "g"
      refine ⟨by show 1 ≤ sizeLine; decide, fun t ht => ?_⟩
      walk_at "g"
      exact k t .first _ upd_same True.intro (fun l' xs ⟨w', e⟩ el => (single e).elim) fun b o nb h => ext_new ht _ _ (K02 b o nb h)
    · refine g_dec (fun h => absurd h (show ("flip" : Str) ≠ "keep" by decide +kernel)) (fun _ => ?_)
      walk_at "g"
      refine g_dec (fun h => absurd h (show ("flip" : Str) ≠ "sort" by decide +kernel)) (fun _ => ?_)
      walk_at "g"
      refine g_dec (fun h => absurd h (show ("flip" : Str) ≠ "distinct" by decide +kernel)) (fun _ => ?_)
      walk_at "g"
      refine ⟨by show 1 ≤ sizeLine; decide, fun t ht => ?_⟩
      walk_at "g"
      exact k t .flip _ upd_same True.intro (fun l' xs ⟨w', e⟩ el => (single e).elim) fun b o nb h => ext_new ht _ _ (K02 b o nb h)
end
/-- the drawn steps -/
def StsF (H : Hp) (L : Addr) (ss : List LS) : Prop := ∃ qs : List Addr, H L = some (.lst (qs.map V.ref)) ∧ qs.length = ss.length ∧ ∀ (i : Nat) q s, qs[i]? = some q → ss[i]? = some s → StFm H q s
theorem StsF.keep {L : Addr} {H H' : Hp} {ss : List LS} (h : StsF H L ss) (k : XT H H') : StsF H' L ss := by
  obtain ⟨qs, h1, h2, h3⟩ := h
  exact ⟨qs, k _ _ h1, h2, fun i q s hq hs => (h3 i q s hq hs).keepX k⟩
theorem StIn.keepN {C : Addr} {H H' : Hp} {x q : Addr} {u : HO} {s : Stp} (h : StIn C H q s) (hx : H x = some u) (no : ∀ l, u ≠ .tup l) (ni : ∀ dx l, u = .ins C dx l → l = []) (ne : ∀ l xs, (∃ w, H q = some (.tup [w, .ref l])) → H l = some (.lst xs) → l ≠ x) (k : ∀ q o, q ≠ x → H q = some o → H' q = some o) : StIn C H' q s := by
  have kt : ∀ {b : Addr} {l : List V}, H b = some (.tup l) → H' b = some (.tup l) := fun {b l} h => k _ _ (fun z => by rw [z, hx] at h; exact no l (by injection h)) h
  cases s with
  | keep ts =>
    obtain ⟨t, a, b⟩ := h
    exact ⟨t, kt a, b.keepN (p := x) k fun o ho => by
      rw [hx] at ho
      injection ho with ho
      subst ho
      exact ⟨ni, no⟩⟩
  | sort o =>
    obtain ⟨t, a, b⟩ := h
    obtain ⟨qs, h1, h2, h3⟩ := b
    exact ⟨t, kt a, qs, k _ _ (ne t _ ⟨_, a⟩ h1) h1, h2, fun i q t hq ht => kt (h3 i q t hq ht)⟩
  | dist ns => obtain ⟨t, a, b⟩ := h; exact ⟨t, kt a, k _ _ (ne t _ ⟨_, a⟩ b) b⟩
  | first => exact kt h
  | flip => exact kt h
def spMadeStep (C : Addr) : Sp := fun vs H Q _ => ∃ (q : Addr) (s : LS), vs = [.ref q] ∧ StFm H q s ∧ LOk s ∧ ∀ t H', XT H H' → StIn C H' t s.st → (∀ l xs, (∃ w, H' t = some (.tup [w, .ref l])) → H' l = some (.lst xs) → H l = none) → Q (.ref t) H'
section
variable {P : Program} {w : World} {K : PySem.W.Frag} {mg : Str → Option Value} {base : Heap}
theorem ok__law_made_step (T : TxtW w K mg) : Def P w K mg base 11 "_law_made_step" ["_law_step_here"] (spMadeStep (cadr mg "Test")) := by
  obtain ⟨f, fd, h⟩ := T.d__law_made_step
  refine h.def (Fun.okM h.fn sc__law_made_step (fun vs H Q E h => ?_) (fun cdv A outer s H vs Q E hr h => ?_))
  · obtain ⟨q, s, rfl, _⟩ := h
    rfl
  · obtain ⟨q, s, rfl, hq, hs, k⟩ := h
    refine ⟨_, (pss_cons (ps_if (pt_cmpR op_eq (pe_ix (ix_seqG (K := K) rfl) (pv 0) pe_int (fun _ _ => rfl)) pe_str (nomark _))
  (pss_one (ps_ret (pe_tup (pa_cons (pe_ix (ix_seqG (K := K) rfl) (pv 0) pe_int (fun _ _ => rfl)) (pa_cons (pe_def (ok__law_make T) hr rfl (pa_cons (pe_ix (ix_seqG (K := K) rfl) (pv 0) pe_int (fun _ _ => rfl)) pa_nil)) pa_nil)))))
  pss_nil)
  (pss_cons (ps_if (pt_cmpR op_eq (pe_callB (call_lenG (K := K) rfl) (by rfl) T.h_len (by decide +kernel) (pa_cons (pv 0) pa_nil)) pe_int (nomark _))
  (pss_one (ps_ret (pe_tup (pa_cons (pe_ix (ix_seqG (K := K) rfl) (pv 0) pe_int (fun _ _ => rfl)) (pa_cons (pe_callTy (call_listG (K := K) rfl) (by rfl) T.h_list (by decide +kernel) (pa_cons (pe_ix (ix_seqG (K := K) rfl) (pv 0) pe_int (fun _ _ => rfl)) pa_nil)) pa_nil)))))
  pss_nil)
  (pss_one (ps_ret (pe_tup (pa_cons (pe_ix (ix_seqG (K := K) rfl) (pv 0) pe_int (fun _ _ => rfl)) pa_nil)))))), ?_⟩
    walk_at "g"
    cases s with
    | keep a =>
      obtain ⟨t, ht, hA⟩ := id hq
      obtain ⟨κ, hw⟩ := hs
      refine g_ixT (SqT.of ht) (v := .str "keep") (by rfl) ?_
      walk_at "g"
      refine g_dec (fun _ => ?_) (fun h => absurd rfl h)
      walk_at "g"
      refine g_ixT (SqT.of ht) (v := .str "keep") (by rfl) ?_
      walk_at "g"
      refine g_ixT (SqT.of ht) (v := .ref t) (by rfl) ?_
      walk_at "g"
      refine ⟨t, a, κ, rfl, hA, hw, fun te H1 x1 hT => ?_⟩
      walk_at "g"
      refine ⟨by show 2 ≤ sizeLine; decide, fun p hp => ?_⟩
      walk_at "g"
      refine k p _ (fun q u h => ext_new hp _ _ (x1 _ _ h)) ⟨te, upd_same, hT.keep (ext_new hp)⟩ fun l xs ⟨z, e⟩ el => ?_
      rw [upd_same] at e
      obtain rfl : te = l := by injection e with e; injection e with e; injection e with _ e; injection e with e _; injection e
      obtain ⟨_, _, _, _, _, hi, _⟩ := (hT.keep (ext_new (o := .tup [.str (Str.ofString "keep"), .ref te]) hp)).node
      rw [hi] at el
      cases el
    | sort o =>
      obtain ⟨l, hl, hL⟩ := id hq
      obtain ⟨qs, h1, h2, h3⟩ := id hL
      refine g_ixT (SqT.of hl) (v := .str "sort") (by rfl) ?_
      walk_at "g"
      refine g_dec (fun h => absurd h (show ("sort" : Str) ≠ "keep" by decide +kernel)) (fun _ => ?_)
      walk_at "g"
      refine g_lenT (SqT.of hl) ?_
      walk_at "g"
      refine g_dec (fun _ => ?_) (fun h => absurd rfl h)
      walk_at "g"
      refine g_ixT (SqT.of hl) (v := .str "sort") (by rfl) ?_
      walk_at "g"
      refine g_ixT (SqT.of hl) (v := .ref l) (by rfl) ?_
      walk_at "g"
      refine ⟨l, _, rfl, .inl (SqL.of h1), fun l2 hl2 => ?_⟩
      walk_at "g"
      refine ⟨by show 2 ≤ sizeLine; decide, fun p hp => ?_⟩
      walk_at "g"
      exact k p _ (fun q u h => ext_new hp _ _ (ext_new hl2 _ _ h)) ⟨l2, upd_same, qs, ext_new hp _ _ upd_same, h2, fun i q t hq ht => ext_new hp _ _ (ext_new hl2 _ _ (h3 i q t hq ht))⟩ fun l' xs ⟨z, e⟩ el => by
        rw [upd_same] at e
        obtain rfl : l2 = l' := by injection e with e; injection e with e; injection e with _ e; injection e with e _; injection e
        exact hl2
    | dist ns =>
      obtain ⟨l, hl, h1⟩ := id hq
      refine g_ixT (SqT.of hl) (v := .str "distinct") (by rfl) ?_
      walk_at "g"
      refine g_dec (fun h => absurd h (show ("distinct" : Str) ≠ "keep" by decide +kernel)) (fun _ => ?_)
      walk_at "g"
      refine g_lenT (SqT.of hl) ?_
      walk_at "g"
      refine g_dec (fun _ => ?_) (fun h => absurd rfl h)
      walk_at "g"
      refine g_ixT (SqT.of hl) (v := .str "distinct") (by rfl) ?_
      walk_at "g"
      refine g_ixT (SqT.of hl) (v := .ref l) (by rfl) ?_
      walk_at "g"
      refine ⟨l, _, rfl, .inl (SqL.of h1), fun l2 hl2 => ?_⟩
      walk_at "g"
      refine ⟨by show 2 ≤ sizeLine; decide, fun p hp => ?_⟩
      walk_at "g"
      exact k p _ (fun q u h => ext_new hp _ _ (ext_new hl2 _ _ h)) ⟨l2, upd_same, ext_new hp _ _ upd_same⟩ fun l' xs ⟨z, e⟩ el => by
        rw [upd_same] at e
        obtain rfl : l2 = l' := by injection e with e; injection e with e; injection e with _ e; injection e with e _; injection e
        exact hl2
    | first =>
      have hl : H q = some (.tup [.str "first"]) := hq
      refine g_ixT (SqT.of hl) (v := .str "first") (by rfl) ?_
      walk_at "g"
      refine g_dec (fun h => absurd h (show ("first" : Str) ≠ "keep" by decide +kernel)) (fun _ => ?_)
      walk_at "g"
      refine g_lenT (SqT.of hl) ?_
      walk_at "g"
      refine g_dec (fun h => absurd h (by decide)) (fun _ => ?_)
      walk_at "g"
      refine g_ixT (SqT.of hl) (v := .str "first") (by rfl) ?_
      walk_at "g"
      refine ⟨by show 1 ≤ sizeLine; decide, fun p hp => ?_⟩
      walk_at "g"
      exact k p _ (ext_new hp) upd_same fun l' xs ⟨z, e⟩ el => by
        rw [upd_same] at e
        injection e with e; injection e with e; injection e with _ e; cases e
    | flip =>
      have hl : H q = some (.tup [.str "flip"]) := hq
      refine g_ixT (SqT.of hl) (v := .str "flip") (by rfl) ?_
      walk_at "g"
      refine g_dec (fun h => absurd h (show ("flip" : Str) ≠ "keep" by decide +kernel)) (fun _ => ?_)
      walk_at "g"
      refine g_lenT (SqT.of hl) ?_
      walk_at "g"
      refine g_dec (fun h => absurd h (by decide)) (fun _ => ?_)
      walk_at "g"
      refine g_ixT (SqT.of hl) (v := .str "flip") (by rfl) ?_
      walk_at "g"
      refine ⟨by show 1 ≤ sizeLine; decide, fun p hp => ?_⟩
      walk_at "g"
      exact k p _ (ext_new hp) upd_same fun l' xs ⟨z, e⟩ el => by
        rw [upd_same] at e
        injection e with e; injection e with e; injection e with _ e; cases e
theorem ok__law_planned (T : TxtW w K mg) : Def P w K mg base 12 "_law_planned" ["_law_steps"] (fun vs H Q _ => ∃ (L : Addr) (ss : List LS), vs = [.ref L] ∧ StsF H L ss ∧ ss.length ≤ 5 ∧ (∀ s ∈ ss, LOk s) ∧ ∀ x H', XT H H' → PlanAt (cadr mg "Plan") (cadr mg "Test") H' (ss.map LS.st) x → Q (.ref x) H') := by
  obtain ⟨f, fd, h⟩ := T.d__law_planned
  refine h.def (Fun.okM h.fn sc__law_planned (fun vs H Q E h => ?_) (fun cdv A outer s H vs Q E hr h => ?_))
  · obtain ⟨L, ss, rfl, _⟩ := h
    rfl
  · obtain ⟨L, ss, rfl, hSs, h5, hok, k⟩ := h
    obtain ⟨qs, hL, hlen, hcol⟩ := id hSs
    refine ⟨_, (pss_one (ps_ret (pe_new (ok_Plan_init T) hr rfl T.e_Plan (pa_cons (pe_lc (own := [("_law_step_here", 1)]) rfl sc__law_planned.nd (pi_list (pv 0)) (blkOk_by (N := N__law_planned) (sc := defScope S__law_planned) (by decide +kernel)) (fun _ _ _ _ _ => pg_name (i := 1) sc__law_planned.nd rfl (Or.inl rfl)) (fun _ _ _ _ _ => pts_nil) (fun _ _ _ _ _ => (pe_def (ok__law_made_step T) hr rfl (pa_cons (pv 1) pa_nil)))) pa_nil)))), ?_⟩
    walk_at "g"
    refine ⟨L, rfl, ⟨_, SqL.of hL⟩, fun D hD => ?_⟩
    refine lc_new (qs.map V.ref) (fun i y H' => ∃ t s, y = .ref t ∧ ss[i]? = some s ∧ StIn (cadr mg "Test") H' t s.st ∧ ∀ l xs, (∃ w, H' t = some (.tup [w, .ref l])) → H' l = some (.lst xs) → l ≠ D) hD (fun H2 k2 => fits_l (SqL.of (k2 _ _ hL))) (by rw [List.length_map]; omega) ?_ ?_ ?_
    · rintro i y Ha Hb ⟨zs, hz⟩ ⟨t, s, rfl, h1, h2, h3⟩ hk
      have h4 := h2.keepN hz (fun l e => nomatch e) (fun dx l e => nomatch e) h3 hk
      refine ⟨t, s, rfl, h1, h4, fun l xs ⟨w, e⟩ el => ?_⟩
      have ht : ∃ z r, Ha t = some (.tup (.str z :: r)) := by
        revert h2
        generalize s.st = st
        intro h2
        cases st with
        | keep ts => obtain ⟨u, a, _⟩ := h2; exact ⟨_, _, a⟩
        | sort o => obtain ⟨u, a, _⟩ := h2; exact ⟨_, _, a⟩
        | dist ns => obtain ⟨u, a, _⟩ := h2; exact ⟨_, _, a⟩
        | first => exact ⟨_, _, h2⟩
        | flip => exact ⟨_, _, h2⟩
      obtain ⟨z, r, ht⟩ := ht
      have htD : t ≠ D := fun q => by rw [q, hz] at ht; cases ht
      have hb := hk _ _ htD ht
      rw [e] at hb
      injection hb with hb
      rw [← hb] at ht
      intro q
      subst q
      exact h3 l zs ⟨w, ht⟩ hz rfl
    · intro i y Hh R S hy kh hDl hR
      obtain ⟨zs, hz⟩ := hDl
      rw [List.getElem?_map] at hy
      obtain ⟨q, hq, rfl⟩ := Option.map_eq_some_iff.mp hy
      obtain ⟨s, hs⟩ : ∃ s, ss[i]? = some s := ⟨_, List.getElem?_eq_getElem (by have := (List.getElem?_eq_some_iff.mp hq).1; omega)⟩
      walk_at "g"
      refine ⟨rfl, ?_⟩
      walk_at "g"
      exact ⟨q, s, rfl, (hcol i q s hq hs).keepX kh, hok s (List.mem_of_getElem? hs), fun t H5 x5 hin hfr => hR _ _ x5 ⟨t, s, rfl, hs, hin, fun l xs e el q => by
        have := hfr l xs e el
        rw [q, hz] at this
        cases this⟩⟩
    · intro H2 ys x2 hW hyl hys
      obtain ⟨ts, rfl, htl, hts⟩ : ∃ ts : List Addr, ys = ts.map V.ref ∧ ts.length = ss.length ∧ ∀ (i : Nat) t s, ts[i]? = some t → ss[i]? = some s → StIn (cadr mg "Test") H2 t s.st := by
        have key : ∀ (ys : List V), (∀ y ∈ ys, ∃ q, y = .ref q) → ∃ qs : List Addr, ys = qs.map V.ref := by
          intro ys
          induction ys with
          | nil => exact fun _ => ⟨[], rfl⟩
          | cons y r ih =>
            intro h
            obtain ⟨q, rfl⟩ := h y List.mem_cons_self
            obtain ⟨qs, rfl⟩ := ih fun z hz => h z (List.mem_cons_of_mem _ hz)
            exact ⟨q :: qs, rfl⟩
        obtain ⟨ts, rfl⟩ := key ys fun y hy => by
          obtain ⟨i, hi⟩ := List.getElem?_of_mem hy
          obtain ⟨q, c, e, _⟩ := hys i y hi
          exact ⟨q, e⟩
        refine ⟨ts, rfl, by rw [List.length_map, List.length_map] at hyl; omega, fun i t s ht hs => ?_⟩
        obtain ⟨q, s2, e, h1, h2, _⟩ := hys i (.ref t) (by rw [List.getElem?_map, ht]; rfl)
        injection e with e
        rw [hs] at h1
        injection h1 with h1
        rw [e, h1]; exact h2
      walk_at "g"
      intro x dx hx hdx hne
      have xN : XT H2 (upd (upd H2 dx (.own x)) x (.ins (cadr mg "Plan") dx [])) := fun q o h => by rw [upd_ne (ne_of_none h hx), upd_ne (ne_of_none h hdx)]; exact h
      refine ⟨x, D, dx, ss.map LS.st, rfl, upd_same, ⟨ts, xN _ _ hW, by rw [List.length_map]; exact htl, fun i t s ht hs => ?_⟩, by rw [List.length_map]; exact h5, fun s hs => ?_, fun H3 k3 hP => ⟨rfl, ?_⟩⟩
      · rw [List.getElem?_map] at hs
        obtain ⟨s0, hs0, rfl⟩ := Option.map_eq_some_iff.mp hs
        exact (hts i t s0 ht hs0).keepX xN
      · obtain ⟨s0, hs0, rfl⟩ := List.mem_map.mp hs
        exact (hok s0 hs0).st
      · walk_at "g"
        exact k x H3 (fun q o h => k3 q o (ne_of_none (x2 _ _ h) hx) (xN q o (x2 _ _ h))) hP
end
theorem rev_drop {α : Type} {l : List α} {k : Nat} (h : k < l.length) : ∃ s, l[l.length - 1 - k]? = some s ∧ l.reverse.drop k = s :: l.reverse.drop (k + 1) := by
  have hk : k < l.reverse.length := by rw [List.length_reverse]; exact h
  refine ⟨l.reverse[k], ?_, List.drop_eq_getElem_cons hk⟩
  rw [List.getElem_reverse]
  exact List.getElem?_eq_getElem _
theorem out_take {acc o : List (Str × Bool)} {b : Bool} {m : Nat} {c : Str × Bool} (hc : o[m]? = some c) : outS acc (twO b (o.take (m + 1))) = outS acc (twO b (o.take m)) ++ outS acc (twO b [c]) := by
  rw [List.take_succ, hc]
  show outS acc (twO b (o.take m ++ [c])) = _
  rw [twO_app]
  unfold outS
  rw [List.filter_append]
theorem out_mem {acc o : List (Str × Bool)} {b : Bool} {m : Nat} {c : Str × Bool} (hnd : (o.map (·.1)).Nodup) (hc : o[m]? = some c) : c.1 ∈ (acc ++ outS acc (twO b (o.take m))).map (·.1) ↔ c.1 ∈ acc.map (·.1) := by
  rw [List.map_append, List.mem_append]
  refine ⟨fun h => h.elim id fun h => ?_, .inl⟩
  exfalso
  obtain ⟨d, hd, e⟩ := List.mem_map.mp h
  have h1 : d.1 ∈ (twO b (o.take m)).map (·.1) := List.mem_map.mpr ⟨d, (List.mem_filter.mp hd).1, rfl⟩
  rw [twO_names, e] at h1
  have e1 : o.map (·.1) = (o.take m).map (·.1) ++ c.1 :: (o.drop (m + 1)).map (·.1) := by
    have h2 : o.drop m = c :: o.drop (m + 1) := by
      obtain ⟨hl, hg⟩ := List.getElem?_eq_some_iff.mp hc
      rw [List.drop_eq_getElem_cons hl, hg]
    rw [← List.map_cons (f := (·.1)) (l := o.drop (m + 1)) (a := c), ← h2, ← List.map_append, List.take_append_drop]
  rw [e1] at hnd
  exact (List.nodup_append.mp hnd).2.2 _ h1 _ List.mem_cons_self rfl
section
variable {P : Program} {w : World} {K : PySem.W.Frag} {mg : Str → Option Value} {base : Heap}
theorem ok__law_standing (T : TxtW w K mg) : Def P w K mg base 1 "_law_standing" ["_law_steps", "_law_i"] (fun vs H Q _ => ∃ (L : Addr) (i : Nat) (ss : List LS), vs = [.ref L, .int (i : Int)] ∧ StsF H L ss ∧ ss.length ≤ 5 ∧ (∀ s ∈ ss, LOk s) ∧ i ≤ ss.length ∧ ∀ l H', XT H H' → LAt H' l ((backF ((ss.take i).map LS.st).reverse false []).map pt) → Q (.ref l) H') := by
  obtain ⟨f, fd, h⟩ := T.d__law_standing
  refine h.def (Fun.okM h.fn sc__law_standing (fun vs H Q E h => ?_) (fun cdv A outer s H vs Q E hr h => ?_))
  · obtain ⟨L, i, ss, rfl, _⟩ := h
    rfl
  · obtain ⟨L, i, ss, rfl, hSs, h5, hok, hi, k⟩ := h
    obtain ⟨qs, hL, hlen, hcol⟩ := id hSs
    refine ⟨_, (pss_cons (ps_set (i := 2) sc__law_standing.nd rfl (Or.inl rfl) (pe_lst pa_nil))
  (pss_cons (ps_set (i := 3) sc__law_standing.nd rfl (Or.inl rfl) pe_int)
  (pss_cons (ps_for PassesOwn.never rfl (pi_range1 rfl T.h_range (pa_cons (pv 1) pa_nil)) (pg_name (i := 4) sc__law_standing.nd rfl (Or.inl rfl))
  (pss_cons (ps_set (i := 5) sc__law_standing.nd rfl (Or.inl rfl) (pe_ix (ix_seqG (K := K) rfl) (pv 0) (pe_op op_subG (pe_op op_subG (pv 1) pe_int) (pv 4)) (fun _ _ => rfl)))
  (pss_cons (ps_if (pt_cmpR op_eq (pe_ix (ix_seqG (K := K) rfl) (pv 5) pe_int (fun _ _ => rfl)) pe_str (nomark _))
  (pss_one (ps_set (i := 3) sc__law_standing.nd rfl (Or.inl rfl) (pe_op op_addG (pv 3) pe_int)))
  pss_nil)
  (pss_one (ps_if (pt_cmpR op_eq (pe_ix (ix_seqG (K := K) rfl) (pv 5) pe_int (fun _ _ => rfl)) pe_str (nomark _))
  (pss_one (ps_for PassesOwn.never rfl (pi_list (pe_ix (ix_seqG (K := K) rfl) (pv 5) pe_int (fun _ _ => rfl))) (pg_name (i := 6) sc__law_standing.nd rfl (Or.inl rfl))
  (pss_one (ps_if (pt_cmpR (op_notInG (K := K) rfl) (pe_ix (ix_seqG (K := K) rfl) (pv 6) pe_int (fun _ _ => rfl)) (pe_lc (own := [("_law_old", 8)]) rfl sc__law_standing.nd (pi_list (pv 2)) (blkOk_by (N := N__law_standing) (sc := defScope S__law_standing) (by decide +kernel)) (fun _ _ _ _ _ => pg_name (i := 8) sc__law_standing.nd rfl (Or.inl rfl)) (fun _ _ _ _ _ => pts_nil) (fun _ _ _ _ _ => (pe_ix (ix_seqG (K := K) rfl) (pv 8) pe_int (fun _ _ => rfl)))) (by rfl))
  (pss_cons (ps_set (i := 7) sc__law_standing.nd rfl (Or.inl rfl) (pe_ix (ix_seqG (K := K) rfl) (pv 6) pe_int (fun _ _ => rfl)))
  (Evl.pss_cut (ps_if (pt_cmpR op_eq (pe_op op_modG (pv 3) pe_int) pe_int (nomark _))
  (pss_one (ps_set (i := 7) sc__law_standing.nd rfl (Or.inl rfl) (pe_ix (ix_seqG (K := K) rfl) (pe_lst (pa_cons pe_str (pa_cons pe_str pa_nil))) (pe_callTy call_intG (by rfl) T.h_int (by decide +kernel) (pa_cons (pe_cmpR op_eq (pe_ix (ix_seqG (K := K) rfl) (pv 6) pe_int (fun _ _ => rfl)) pe_str (nomark _)) pa_nil)) (fun _ _ => rfl))))
  pss_nil)
  (pss_one (ps_expr (pe_bm PySem.F.plainAttrs_list PySem.F.slot_list_append PySem.F.type_list_append mt_append (pv 2) (pa_cons (pe_tup (pa_cons (pe_ix (ix_seqG (K := K) rfl) (pv 6) pe_int (fun _ _ => rfl)) (pa_cons (pv 7) pa_nil))) pa_nil))))))
  pss_nil))))
  pss_nil)))))
  (pss_one (ps_ret (pv 2)))))), ?_⟩
    walk_at "g"
    refine ⟨Nat.zero_le _, fun A hA => ?_⟩
    have x0 : XT H (upd H A (.lst [])) := ext_new hA
    have e0 : LAt (upd H A (.lst [])) A (([] : List (Str × Bool)).map pt) := ⟨[], upd_same, rfl, fun i q t h => by simp at h⟩
    generalize upd H A (.lst []) = H0 at x0 e0
    walk_at "g"
    refine ⟨_, rfl, by omega, by omega, ?_⟩
    generalize hR : ((ss.take i).map LS.st) = R at k
    have hRl : R.length = i := by rw [← hR, List.length_map, List.length_take, Nat.min_eq_left hi]
    refine for_rangeA (fun m σ' H' => ∃ (tn : Int) (b : Bool) (acc : List (Str × Bool)) (s4 s5 s6 s7 s8 : Option V), σ' = [some (.ref L), some (.int (i : Int)), some (.ref A), some (.int tn), s4, s5, s6, s7, s8] ∧ 0 ≤ tn ∧ tn ≤ m ∧ tn % 2 = (if b = true then 1 else 0) ∧ XT H H' ∧ LAt H' A (acc.map pt) ∧ acc.length ≤ 3 * m ∧ backF R.reverse false [] = backF (R.reverse.drop m) b acc) ⟨0, false, [], _, _, _, _, _, rfl, Int.le_refl _, Int.le_refl _, rfl, x0, e0, Nat.le_refl _, rfl⟩ ?_ ?_
    · rintro m σ' H2 D' hm ⟨tn, b, acc, s4, s5, s6, s7, s8, rfl, tn0, tn1, tnb, x2, hA2, hal, hb⟩ hnx hct hbk hrt
      have hmi : m < i := by omega
      obtain ⟨st, hst, hdr⟩ := rev_drop (l := R) (k := m) (by omega)
      rw [hRl, ← hR, List.getElem?_map] at hst
      obtain ⟨s, hs, rfl⟩ := Option.map_eq_some_iff.mp hst
      have hs' : ss[i - 1 - m]? = some s := by rw [List.getElem?_take_of_lt (by omega)] at hs; exact hs
      obtain ⟨q, hq⟩ : ∃ q, qs[i - 1 - m]? = some q := ⟨_, List.getElem?_eq_getElem (by have := (List.getElem?_eq_some_iff.mp hs').1; omega)⟩
      have hF := (hcol _ q s hq hs').keepX x2
      have hsok := hok s (List.mem_of_getElem? hs')
      have hL2 := x2 _ _ hL
      rw [hdr] at hb
      walk_at "g"
      refine g_ixL (SqL.of hL2) (v := .ref q) (by
        rw [show (i : Int) - 1 - (0 + (m : Int)) = ((i - 1 - m : Nat) : Int) by omega]
        exact atI_nat (by rw [List.getElem?_map, hq]; rfl)) ?_
      walk_at "g"
      have same : ∀ s', s.st = s' → (∀ r c, backF (s' :: r) c acc = backF r c acc) → D'.nx [some (.ref L), some (.int (i : Int)), some (.ref A), some (.int tn), some (.int (0 + (m : Int))), some (.ref q), s6, s7, s8] H2 := fun s' e h => hnx _ _ ⟨tn, b, acc, _, _, _, _, _, rfl, tn0, by omega, tnb, x2, hA2, by omega, by rw [hb, e, h]⟩
      cases s with
      | flip =>
        have hW : H2 q = some (.tup [.str "flip"]) := hF
        refine g_ixT (SqT.of hW) (v := .str "flip") (by rfl) ?_
        walk_at "g"
        refine g_dec (fun _ => ?_) (fun h => absurd rfl h)
        walk_at "g"
        refine g_ixT (SqT.of hW) (v := .str "flip") (by rfl) ?_
        walk_at "g"
        refine g_dec (fun h => absurd h (show ("flip" : Str) ≠ "sort" by decide +kernel)) (fun _ => ?_)
        exact hnx _ _ ⟨tn + 1, !b, acc, _, _, _, _, _, rfl, by omega, by omega, by cases b <;> simp at tnb ⊢ <;> omega, x2, hA2, by omega, hb⟩
      | keep a =>
        obtain ⟨t, hW, _⟩ := hF
        refine g_ixT (SqT.of hW) (v := .str "keep") (by rfl) ?_
        walk_at "g"
        refine g_dec (fun h => absurd h (show ("keep" : Str) ≠ "flip" by decide +kernel)) (fun _ => ?_)
        walk_at "g"
        refine g_ixT (SqT.of hW) (v := .str "keep") (by rfl) ?_
        walk_at "g"
        refine g_dec (fun h => absurd h (show ("keep" : Str) ≠ "sort" by decide +kernel)) (fun _ => ?_)
        exact same _ rfl fun _ _ => rfl
      | dist ns =>
        obtain ⟨t, hW, _⟩ := hF
        refine g_ixT (SqT.of hW) (v := .str "distinct") (by rfl) ?_
        walk_at "g"
        refine g_dec (fun h => absurd h (show ("distinct" : Str) ≠ "flip" by decide +kernel)) (fun _ => ?_)
        walk_at "g"
        refine g_ixT (SqT.of hW) (v := .str "distinct") (by rfl) ?_
        walk_at "g"
        refine g_dec (fun h => absurd h (show ("distinct" : Str) ≠ "sort" by decide +kernel)) (fun _ => ?_)
        exact same _ rfl fun _ _ => rfl
      | first =>
        have hW : H2 q = some (.tup [.str "first"]) := hF
        refine g_ixT (SqT.of hW) (v := .str "first") (by rfl) ?_
        walk_at "g"
        refine g_dec (fun h => absurd h (show ("first" : Str) ≠ "flip" by decide +kernel)) (fun _ => ?_)
        walk_at "g"
        refine g_ixT (SqT.of hW) (v := .str "first") (by rfl) ?_
        walk_at "g"
        refine g_dec (fun h => absurd h (show ("first" : Str) ≠ "sort" by decide +kernel)) (fun _ => ?_)
        exact same _ rfl fun _ _ => rfl
      | sort o =>
        obtain ⟨lo, hW0, hO0⟩ := hcol _ q _ hq hs'
        have hW := x2 _ _ hW0
        obtain ⟨os, ho1, ho2, ho3⟩ := id hO0
        rw [List.length_map] at ho2
        have hle := hsok.le
        refine g_ixT (SqT.of hW) (v := .str "sort") (by rfl) ?_
        walk_at "g"
        refine g_dec (fun h => absurd h (show ("sort" : Str) ≠ "flip" by decide +kernel)) (fun _ => ?_)
        walk_at "g"
        refine g_ixT (SqT.of hW) (v := .str "sort") (by rfl) ?_
        walk_at "g"
        refine g_dec (fun _ => ?_) (fun h => absurd rfl h)
        walk_at "g"
        refine g_ixT (SqT.of hW) (v := .ref lo) (by rfl) ?_
        walk_at "g"
        refine ⟨lo, rfl, ⟨_, SqL.of (x2 _ _ ho1)⟩, ?_⟩
        refine for_listA (xs := os.map V.ref) (fun j σ' H' => ∃ s6 s7 s8 : Option V, σ' = [some (.ref L), some (.int (i : Int)), some (.ref A), some (.int tn), some (.int (0 + (m : Int))), some (.ref q), s6, s7, s8] ∧ XT H H' ∧ LAt H' A ((acc ++ outS acc (twO b (o.take j))).map pt)) ⟨_, _, _, rfl, x2, by rw [List.take_zero, show twO b [] = [] by cases b <;> rfl, show outS acc [] = [] from rfl, List.append_nil]; exact hA2⟩ (fun j σ H' _ e => by obtain ⟨_, _, _, _, xx, _⟩ := e; exact SqL.of (xx _ _ ho1)) ?_ ?_
        · rintro j y σ' H3 D3 hj ⟨s6, s7, s8, rfl, x3, hA3⟩ hnx3 hct3 hbk3 hrt3
          rw [List.getElem?_map] at hj
          obtain ⟨u, hu, rfl⟩ := Option.map_eq_some_iff.mp hj
          have hjl : j < o.length := by
            have := (List.getElem?_eq_some_iff.mp hu).1
            omega
          obtain ⟨c, hc⟩ : ∃ c, o[j]? = some c := ⟨_, List.getElem?_eq_getElem hjl⟩
          have hu0 := ho3 j u (pt c) hu (by rw [List.getElem?_map, hc]; rfl)
          have hu3 := x3 _ _ hu0
          have hol : (outS acc (twO b (o.take j))).length ≤ 3 := by
            have h1 := List.length_filter_le (fun c : Str × Bool => decide (c.1 ∉ acc.map (·.1))) (twO b (o.take j))
            have h2 : (twO b (o.take j)).length ≤ o.length := by
              rw [← List.length_map (f := fun c : Str × Bool => c.1), twO_names, List.length_map, List.length_take]
              omega
            show (List.filter _ _).length ≤ 3
            omega
          generalize hAcc : acc ++ outS acc (twO b (o.take j)) = ac at hA3
          have hacl : ac.length ≤ 3 * m + 3 := by rw [← hAcc, List.length_append]; omega
          obtain ⟨ks, hk1, hk2, hk3⟩ := id hA3
          rw [List.length_map] at hk2
          refine g_name ?_
          walk_at "g"
          refine g_ixT (SqT.of hu3) (v := .str c.1) (show atI (pt c) 0 = some (.str c.1) from rfl) ?_
          walk_at "g"
          refine ⟨A, rfl, ⟨_, SqL.of hk1⟩, fun D hD => ?_⟩
          refine lc_new (ks.map V.ref) (fun i y _ => ∃ x, ac[i]? = some x ∧ y = .str x.1) hD (fun H5 k5 => fits_l (SqL.of (k5 _ _ hk1))) (by rw [List.length_map]; omega) (fun i y Ha Hb _ h _ => h) (fun i y Hh R S hy kh _ hR => ?_) (fun H4 ys x4 hW4 hyl hys => ?_)
          · rw [List.getElem?_map] at hy
            obtain ⟨q5, hq5, rfl⟩ := Option.map_eq_some_iff.mp hy
            obtain ⟨x, hx⟩ : ∃ x, ac[i]? = some x := ⟨_, List.getElem?_eq_getElem (by have := (List.getElem?_eq_some_iff.mp hq5).1; omega)⟩
            have e5 := kh _ _ (hk3 i q5 (pt x) hq5 (by rw [List.getElem?_map, hx]; rfl))
            walk_at "g"
            refine ⟨rfl, ?_⟩
            walk_at "g"
            refine g_ixT (SqT.of e5) (v := .str x.1) (show atI (pt x) 0 = some (.str x.1) from rfl) ?_
            exact hR _ _ (fun _ _ h => h) ⟨x, hx, rfl⟩
          obtain rfl : ys = (ac.map (·.1)).map V.str := by
            refine List.ext_getElem (by rw [hyl, List.length_map, List.length_map, List.length_map, hk2]) fun i g1 g2 => ?_
            obtain ⟨x, hx, e⟩ := hys i _ (List.getElem?_eq_getElem g1)
            rw [e, List.getElem_map, List.getElem_map]
            obtain ⟨h3, h4⟩ := List.getElem?_eq_some_iff.mp hx
            rw [h4]
          have x34 : XT H H4 := XT.trans x3 x4
          have hA4 := hA3.keep x4
          have hu4 := x4 _ _ hu3
          have hmem := out_mem (acc := acc) (b := b) hsok.nd hc
          rw [hAcc] at hmem
          have hnext := out_take (acc := acc) (b := b) hc
          refine .inr ⟨_, (ac.map (·.1)).map V.str, rfl, .inl (SqL.of hW4), rfl, Tw.flat_strs _, ?_⟩
          rw [if_pos rfl, inV_strs]
          walk_at "g"
          refine g_ndec (fun hn => ?_) (fun hn => ?_)
          rotate_left
          · walk_at "g"
            refine hnx3 _ _ ⟨_, _, _, rfl, x34, ?_⟩
            rw [hnext, show outS acc (twO b [c]) = [] from ?_, List.append_nil, hAcc]
            · exact hA4
            · have h1 := hmem.mp hn
              cases b with
              | true => show List.filter _ [(c.1, !c.2)] = []; rw [List.filter_cons, if_neg (fun h => (of_decide_eq_true h) h1)]; rfl
              | false => show List.filter _ [c] = []; rw [List.filter_cons, if_neg (fun h => (of_decide_eq_true h) h1)]; rfl
          have hn1 : c.1 ∉ acc.map (·.1) := fun h => hn (hmem.mpr h)
          have hout : outS acc (twO b [c]) = [(c.1, if b = true then !c.2 else c.2)] := by
            cases b with
            | true => show List.filter _ [(c.1, !c.2)] = _; rw [List.filter_cons, if_pos (decide_eq_true hn1)]; rfl
            | false => show List.filter _ [c] = _; rw [List.filter_cons, if_pos (decide_eq_true hn1)]; rfl
          walk_at "g"
          refine g_ixT (SqT.of hu4) (v := .str (dS c.2)) (show atI (pt c) 1 = some (.str (dS c.2)) from rfl) ?_
          walk_at "g"
          refine g_cutA (M := fun σ' H' => ∃ s8 : Option V, σ' = [some (.ref L), some (.int (i : Int)), some (.ref A), some (.int tn), some (.int (0 + (m : Int))), some (.ref q), some (.ref u), some (.str (dS (if b = true then !c.2 else c.2))), s8] ∧ XT H4 H') (fun D4 hn4 hr4 _ _ => ?_) ?_
          · walk_at "g"
            cases b with
            | false =>
              have : tn % 2 = 0 := tnb
              refine g_dec (fun h => absurd h (by omega)) (fun _ => ?_)
              exact hn4 _ _ ⟨_, rfl, XT.refl⟩
            | true =>
              have : tn % 2 = 1 := tnb
              refine g_dec (fun _ => ?_) (fun h => absurd this h)
              walk_at "g"
              refine ⟨by show 2 ≤ sizeLine; decide, fun l hl => ?_⟩
              have hul := ext_new (o := .lst [.str (Str.ofString "up"), .str (Str.ofString "down")]) hl _ _ hu4
              have el : (upd H4 l (.lst [.str (Str.ofString "up"), .str (Str.ofString "down")])) l = some (.lst [.str (Str.ofString "up"), .str (Str.ofString "down")]) := upd_same
              walk_at "g"
              refine g_ixT (SqT.of hul) (v := .str (dS c.2)) (show atI (pt c) 1 = some (.str (dS c.2)) from rfl) ?_
              walk_at "g"
              have hix : atI [V.str (Str.ofString "up"), V.str (Str.ofString "down")] (if decide (dS c.2 = Str.ofString "up") = true then 1 else 0) = some (.str (dS (!c.2))) := by
                cases c.2 with
                | true => rw [decide_eq_true (show dS true = Str.ofString "up" from rfl)]; rfl
                | false => rw [decide_eq_false (show ¬ dS false = Str.ofString "up" by decide +kernel)]; rfl
              refine g_ixL (SqL.of el) hix ?_
              exact hn4 _ _ ⟨_, rfl, ext_new hl⟩
          rintro σ' H5 ⟨s8', rfl, x5⟩
          have hu5 := x5 _ _ hu4
          have hA5 := hA4.keep x5
          obtain ⟨ks5, hk5, hk5l, _⟩ := id hA5
          rw [List.length_map] at hk5l
          walk_at "g"
          refine g_ixT (SqT.of hu5) (v := .str c.1) (show atI (pt c) 0 = some (.str c.1) from rfl) ?_
          walk_at "g"
          refine ⟨by show 2 ≤ sizeLine; decide, fun t ht => ?_⟩
          have happ := hA5.app (x := pt (c.1, if b = true then !c.2 else c.2)) hk5 ht
          have hkt := ext_new (o := .tup [.str c.1, .str (dS (if b = true then !c.2 else c.2))]) ht _ _ hk5
          walk_at "g"
          refine hnx3 _ _ ⟨_, _, _, rfl, XT.late (XT.trans x34 (XT.trans x5 (ext_new ht))) hA, ?_⟩
          rw [hnext, hout, ← List.append_assoc, hAcc, List.map_append]
          exact happ
        · rintro σ' H3 ⟨s6, s7, s8, rfl, x3, hA3⟩
          rw [List.length_map, ho2, List.take_length] at hA3
          have hol : (outS acc (twO b o)).length ≤ 3 := by
            have h1 := List.length_filter_le (fun c : Str × Bool => decide (c.1 ∉ acc.map (·.1))) (twO b o)
            have h2 : (twO b o).length = o.length := by
              rw [← List.length_map (f := fun c : Str × Bool => c.1), twO_names, List.length_map]
            show (List.filter _ _).length ≤ 3
            omega
          exact hnx _ _ ⟨tn, b, _, _, _, _, _, _, rfl, tn0, by omega, tnb, x3, hA3, by rw [List.length_append]; omega, hb⟩
    · rintro σ' H2 ⟨tn, b, acc, s4, s5, s6, s7, s8, rfl, tn0, tn1, tnb, x2, hA2, hal, hb⟩
      walk_at "g"
      refine k A H2 x2 ?_
      rw [hb, List.drop_of_length_le (by rw [List.length_reverse]; omega)]
      exact hA2
end
section
variable {X : Cx} {K : PySem.W.Frag} {H : Hp} {Q : VK}
theorem hu64_of {A : Around} {k : Nat} (hr : Room k A) : A.units + 64 < cLine := by
  have := hr.un
  omega
theorem op_neDu (h : X.K = K) (hu : X.A.units + 64 < cLine) : OpR X (compareOp .NotEq) (rNeD K) := by subst h; exact op_neD hu
theorem op_eqDu (h : X.K = K) (hu : X.A.units + 64 < cLine) : OpR X (compareOp .Eq) (rEqD K) := by subst h; exact op_eqD hu
/-- two tuples of the same two texts -/
theorem g_neSame {p q : Addr} {a b : Str} (h1 : H p = some (.tup [.str a, .str b])) (h2 : H q = some (.tup [.str a, .str b])) (hs : SeqAt.shaped (.tuple [.str a, .str b]) = true) (he : PyData.eqv (.tuple [.str a, .str b]) (.tuple [.str a, .str b]) = true) (k : Q (.bl false) H) : rNeD K (.ref p) (.ref q) H Q :=
  ⟨.tuple [.str a, .str b], .tuple [.str a, .str b], .tup (SqT.of h1) (.cons (.str a) (.cons (.str b) .nil)), .tup (SqT.of h2) (.cons (.str a) (.cons (.str b) .nil)), hs, hs, by rw [he]; exact k⟩
end
theorem hu0_of {A : Around} {k : Nat} (hr : Room k A) : A.units < cLine := by
  have := hr.un
  omega
theorem call_sortedSG {X : Cx} {K : PySem.W.Frag} (h : X.K = K) : CallR X (.builtin "sorted") (rSortedS K) := by subst h; exact cr_sortedS
def spLaw (K : PySem.W.Frag) : Sp := fun vs H Q _ => ∃ (a : Addr) (ns : List Int), vs = [.ref a] ∧ SqL K H a (ns.map V.int) ∧ ns.length ≤ 63 ∧ ∀ H', Q (.bl true) H'
def StL (A : Addr) (H : Hp) (q : Addr) : LS → Prop
  | .sort _ => ∀ l, (∃ w, H q = some (.tup [w, .ref l])) → l ≠ A
  | .dist _ => ∀ l, (∃ w, H q = some (.tup [w, .ref l])) → l ≠ A
  | _ => True
/-- the drawn steps, none of which holds the list of steps -/
def StsN (H : Hp) (A : Addr) (ss : List LS) : Prop := ∃ qs : List Addr, H A = some (.lst (qs.map V.ref)) ∧ qs.length = ss.length ∧ ∀ (i : Nat) q s, qs[i]? = some q → ss[i]? = some s → StFm H q s ∧ StL A H q s
theorem StL.same {A q : Addr} {H H' : Hp} {s : LS} (h : StL A H q s) (e : H' q = H q) : StL A H' q s := by
  cases s with
  | sort o => intro l ⟨w, h1⟩; exact h l ⟨w, by rw [← e]; exact h1⟩
  | dist ns => intro l ⟨w, h1⟩; exact h l ⟨w, by rw [← e]; exact h1⟩
  | _ => exact True.intro
theorem StFm.tupq {q : Addr} {H : Hp} {s : LS} (h : StFm H q s) : ∃ r, H q = some (.tup r) := by
  cases s with
  | keep a => obtain ⟨t, x, _⟩ := h; exact ⟨_, x⟩
  | sort o => obtain ⟨t, x, _⟩ := h; exact ⟨_, x⟩
  | dist ns => obtain ⟨t, x, _⟩ := h; exact ⟨_, x⟩
  | first => exact ⟨_, h⟩
  | flip => exact ⟨_, h⟩
theorem StsN.keep {A : Addr} {H H' : Hp} {ss : List LS} (h : StsN H A ss) (k : XT H H') : StsN H' A ss := by
  obtain ⟨qs, h1, h2, h3⟩ := h
  refine ⟨qs, k _ _ h1, h2, fun i q s hq hs => ?_⟩
  obtain ⟨a, b⟩ := h3 i q s hq hs
  obtain ⟨r, hr⟩ := a.tupq
  exact ⟨a.keepX k, b.same (by rw [k _ _ hr, hr])⟩
theorem StsN.f {A : Addr} {H : Hp} {ss : List LS} (h : StsN H A ss) : StsF H A ss := by
  obtain ⟨qs, h1, h2, h3⟩ := h
  exact ⟨qs, h1, h2, fun i q s hq hs => (h3 i q s hq hs).1⟩
theorem StFm.keepA {A q : Addr} {H H' : Hp} {s : LS} {rs : List Addr} (h : StFm H q s) (b : StL A H q s) (hA : H A = some (.lst (rs.map V.ref))) (k : ∀ b o, b ≠ A → H b = some o → H' b = some o) : StFm H' q s ∧ StL A H' q s := by
  have kt : ∀ {b : Addr} {l : List V}, H b = some (.tup l) → H' b = some (.tup l) := fun {b l} h => k _ _ (fun z => by rw [z, hA] at h; cases h) h
  obtain ⟨r, hr⟩ := h.tupq
  refine ⟨?_, b.same (by rw [kt hr, hr])⟩
  cases s with
  | keep a => obtain ⟨t, x, y⟩ := h; exact ⟨t, kt x, AtomForm.keepN y k ⟨_, hA, NF.refs⟩⟩
  | sort o =>
    obtain ⟨t, x, qs, h1, h2, h3⟩ := h
    exact ⟨t, kt x, qs, k _ _ (b t ⟨_, x⟩) h1, h2, fun i q t hq ht => by
      rw [List.getElem?_map] at ht
      obtain ⟨c, hc, rfl⟩ := Option.map_eq_some_iff.mp ht
      exact kt (h3 i q (pt c) hq (by rw [List.getElem?_map, hc]; rfl))⟩
  | dist ns => obtain ⟨t, x, y⟩ := h; exact ⟨t, kt x, k _ _ (b t ⟨_, x⟩) y⟩
  | first => exact kt h
  | flip => exact kt h
theorem StsN.app {A q : Addr} {H : Hp} {ss : List LS} {s : LS} {qs : List Addr} (h : StsN H A ss) (e : H A = some (.lst (qs.map V.ref))) (hq : StFm H q s) (hl : StL A H q s) : StsN (upd H A (.lst (qs.map V.ref ++ [.ref q]))) A (ss ++ [s]) := by
  obtain ⟨qs', h1, h2, h3⟩ := h
  obtain rfl : qs' = qs := by
    rw [e] at h1
    injection h1 with e
    injection e with e
    exact ((List.map_inj_right (fun a b h => by injection h)).mp e).symm
  have kk : ∀ b o, b ≠ A → H b = some o → (upd H A (.lst (qs'.map V.ref ++ [.ref q]))) b = some o := fun b o nb h => by rw [upd_ne nb]; exact h
  refine ⟨qs' ++ [q], by rw [upd_same, List.map_append]; rfl, by rw [List.length_append, List.length_append, h2]; rfl, fun i u t hu ht => ?_⟩
  by_cases hi : i < qs'.length
  · rw [List.getElem?_append_left hi] at hu
    rw [List.getElem?_append_left (by omega)] at ht
    obtain ⟨a, b⟩ := h3 i u t hu ht
    exact a.keepA b e kk
  · rw [List.getElem?_append_right (by omega)] at hu
    rw [List.getElem?_append_right (by omega), ← h2] at ht
    obtain ⟨h0, _⟩ := List.getElem?_eq_some_iff.mp hu
    have : i - qs'.length = 0 := by simpa using h0
    rw [this] at hu ht
    obtain rfl : q = u := by simpa using hu
    obtain rfl : s = t := by simpa using ht
    exact hq.keepA hl e kk
theorem StL.fresh {A q : Addr} {H H0 : Hp} {s : LS} {o : HO} (hF : StFm H q s) (hfr : ∀ l xs, (∃ w, H q = some (.tup [w, .ref l])) → H l = some (.lst xs) → H0 l = none) (e : H0 A = some o) : StL A H q s := by
  cases s with
  | sort ps =>
    obtain ⟨l', h1, qs, h2, _⟩ := hF
    intro l ⟨w, hw⟩
    rw [h1] at hw
    obtain rfl : l' = l := by injection hw with e; injection e with e; injection e with _ e; injection e with e _; injection e
    exact fun z => by have := hfr l' _ ⟨_, h1⟩ h2; rw [z, e] at this; cases this
  | dist ns =>
    obtain ⟨l', h1, h2⟩ := hF
    intro l ⟨w, hw⟩
    rw [h1] at hw
    obtain rfl : l' = l := by injection hw with e; injection e with e; injection e with _ e; injection e with e _; injection e
    exact fun z => by have := hfr l' _ ⟨_, h1⟩ h2; rw [z, e] at this; cases this
  | _ => exact True.intro
theorem stand_nm : ∀ {ss : List Stp}, (∀ s ∈ ss, StOk s) → ∀ c ∈ standF ss, nameP c.1 := by
  intro ss
  refine rev_ind (P := fun ss => (∀ s ∈ ss, StOk s) → ∀ c ∈ standF ss, nameP c.1) ?_ ?_ ss
  · intro _ c hc; cases hc
  · intro r s ih h
    have h1 := ih fun x hx => h x (List.mem_append.mpr (.inl hx))
    have h2 := h s (List.mem_append.mpr (.inr List.mem_cons_self))
    rw [standF_app]
    cases s with
    | sort o =>
      intro c hc
      rcases List.mem_append.mp hc with hc | hc
      · exact h2.nm c hc
      · exact h1 c (List.mem_filter.mp hc).1
    | flip =>
      intro c hc
      obtain ⟨d, hd, rfl⟩ := List.mem_map.mp hc
      exact h1 d hd
    | keep ts => exact h1
    | dist ns => exact h1
    | first => exact h1
theorem name_strOk {z : Str} (h : nameP z) : PySem.PyData.strOk z = true := by
  unfold PySem.PyData.strOk
  rw [← Array.all_toList, List.all_eq_true]
  intro c hc
  have : ∀ c ∈ nameSigns, c < 128 := by decide +kernel
  have := this c (h.2.2.2.2 c hc)
  exact decide_eq_true (by omega)
def pdOf (ps : List (Str × Bool)) : PyData := .list (ps.map fun c => .tuple [.str c.1, .str (dS c.2)])
theorem dp_order {K : PySem.W.Frag} {H : Hp} : ∀ {ps : List (Str × Bool)} {qs : List Addr}, qs.length = ps.length → (∀ (i : Nat) (q : Addr) (c : Str × Bool), qs[i]? = some q → ps[i]? = some c → H q = some (.tup (pt c))) → DpAll K H (qs.map V.ref) (ps.map fun c => .tuple [.str c.1, .str (dS c.2)])
  | [], [], _, _ => .nil
  | _ :: _, [], h, _ => nomatch h
  | [], _ :: _, h, _ => nomatch h
  | c :: ps, q :: qs, h, k => .cons (.tup (SqT.of (k 0 q c rfl rfl)) (.cons (.str _) (.cons (.str _) .nil))) (dp_order (by simpa using h) fun i q c hq hc => k (i + 1) q c hq hc)
theorem sh_order {ps : List (Str × Bool)} (h : ∀ c ∈ ps, nameP c.1) : SeqAt.shaped (pdOf ps) = true := by
  have key : ∀ ps : List (Str × Bool), (∀ c ∈ ps, nameP c.1) → PyData.canLayAll0 (ps.map fun c => PyData.tuple [.str c.1, .str (dS c.2)]) = true ∧ PyData.depthAll (ps.map fun c => PyData.tuple [.str c.1, .str (dS c.2)]) ≤ 1 := by
    intro ps
    induction ps with
    | nil => intro _; exact ⟨by simp [PyData.canLayAll0], by simp [PyData.depthAll]⟩
    | cons c r ih =>
      intro h
      obtain ⟨h1, h2⟩ := ih fun d hd => h d (List.mem_cons_of_mem _ hd)
      have e1 : PySem.PyData.strOk c.1 = true := name_strOk (h c List.mem_cons_self)
      have e2 : PySem.PyData.strOk (dS c.2) = true := by cases c.2 <;> decide +kernel
      rw [List.map_cons]
      refine ⟨by simp [PyData.canLayAll0, PyData.canLay0, e1, e2, h1], ?_⟩
      simp only [PyData.depthAll, PyData.depth]
      omega
  obtain ⟨h1, h2⟩ := key ps h
  unfold SeqAt.shaped pdOf
  rw [Bool.and_eq_true]
  refine ⟨by simp only [PyData.canLay0]; exact h1, decide_eq_true ?_⟩
  simp only [PyData.depth]
  omega
section
variable {P : Program} {w : World} {K : PySem.W.Frag} {mg : Str → Option Value} {base : Heap}
theorem ok_law (T : TxtW w K mg) {f : Addr} {fd : FuncData} (F : Fun K "law" "law" S_law f fd) : FnOk P w K mg base CX0 13 f fd ["_law_script"] (spLaw K) := by
  refine Fun.okM F sc_law (fun vs H Q E h => ?_) (fun cdv A outer s H vs Q E hr h => ?_)
  · obtain ⟨a, ns, rfl, _⟩ := h
    rfl
  · obtain ⟨a, ns, rfl, hS, hlen, k⟩ := h
    refine ⟨_, (pss_cons (ps_set (i := 1) sc_law.nd rfl (Or.inl rfl) (pe_def (ok__law_columns T) hr rfl (pa_cons (pe_def (ok__law_pool T) hr rfl (pa_cons (pv 0) (pa_cons pe_int pa_nil))) (pa_cons pe_int pa_nil))))
  (pss_cons (ps_set (i := 2) sc_law.nd rfl (Or.inl rfl) (pe_lst pa_nil))
  (pss_cons (ps_for PassesOwn.never rfl (pi_range1 rfl T.h_range (pa_cons (pe_def (ok__law_draw T) hr rfl (pa_cons (pe_def (ok__law_pool T) hr rfl (pa_cons (pv 0) (pa_cons pe_int pa_nil))) (pa_cons pe_int pa_nil))) pa_nil)) (pg_name (i := 3) sc_law.nd rfl (Or.inl rfl))
  (pss_cons (ps_set (i := 4) sc_law.nd rfl (Or.inl rfl) (pe_def (ok__law_pool T) hr rfl (pa_cons (pv 0) (pa_cons (pe_op op_addG pe_int (pv 3)) pa_nil))))
  (pss_cons (ps_set (i := 5) sc_law.nd rfl (Or.inl rfl) (pe_def (ok__law_draw T) hr rfl (pa_cons (pv 4) (pa_cons pe_int pa_nil))))
  (pss_one (ps_if (pt_cmpR op_eq (pv 5) pe_int (nomark _))
  (pss_one (ps_expr (pe_bm PySem.F.plainAttrs_list PySem.F.slot_list_append PySem.F.type_list_append mt_append (pv 2) (pa_cons (pe_def (ok__law_step T) hr rfl (pa_cons (pv 4) (pa_cons (pv 1) pa_nil))) pa_nil))))
  (pss_one (ps_if (pt_cmpR op_eq (pv 5) pe_int (nomark _))
  (pss_one (ps_expr (pe_bm PySem.F.plainAttrs_list PySem.F.slot_list_append PySem.F.type_list_append mt_append (pv 2) (pa_cons (pe_tup (pa_cons pe_str pa_nil)) pa_nil))))
  (pss_one (ps_expr (pe_bm PySem.F.plainAttrs_list PySem.F.slot_list_append PySem.F.type_list_append mt_append (pv 2) (pa_cons (pe_tup (pa_cons pe_str (pa_cons (pe_def (ok__law_order T) hr rfl (pa_cons (pv 4) (pa_cons (pv 1) pa_nil))) pa_nil))) pa_nil)))))))))))
  (pss_cons (ps_set (i := 6) sc_law.nd rfl (Or.inl rfl) (pe_def (ok__law_planned T) hr rfl (pa_cons (pv 2) pa_nil)))
  (pss_cons (ps_for PassesOwn.never rfl (pi_range1 rfl T.h_range (pa_cons (pe_op op_addG (pe_callB (call_lenG (K := K) rfl) (by rfl) T.h_len (by decide +kernel) (pa_cons (pv 2) pa_nil)) pe_int) pa_nil)) (pg_name (i := 3) sc_law.nd rfl (Or.inl rfl))
  (pss_one (ps_for PassesOwn.never rfl (pi_list (pe_lst (pa_cons (pv 3) (pa_cons (pe_op op_subG (pe_callB (call_lenG (K := K) rfl) (by rfl) T.h_len (by decide +kernel) (pa_cons (pv 2) pa_nil)) (pv 3)) pa_nil)))) (pg_name (i := 7) sc_law.nd rfl (Or.inl rfl))
  (pss_cons (ps_set (i := 8) sc_law.nd rfl (Or.inl rfl) (pe_def (ok_standing_order T) hr rfl (pa_cons (pv 6) (pa_cons (pv 7) pa_nil))))
  (pss_one (ps_if (PW.pt (pw_or (pt_not (pt_val (pe_callB (call_isiG (K := K) rfl) (by rfl) T.h_isinstance (by decide +kernel) (pa_cons (pv 8) (pa_cons (pe_bltn (v := .ty "tuple") (by rfl) T.h_tuple (by decide +kernel) rfl) pa_nil))))) (pw_or1 (pt_cmpR (op_neDu (K := K) rfl (hu64_of hr)) (pe_callTy (call_listG (K := K) rfl) (by rfl) T.h_list (by decide +kernel) (pa_cons (pv 8) pa_nil)) (pe_def (ok__law_standing T) hr rfl (pa_cons (pv 2) (pa_cons (pv 7) pa_nil))) (nomark _)))))
  (pss_one (ps_ret pe_bl))
  pss_nil))))))
  (pss_one (ps_ret pe_bl))))))), ?_⟩
    walk_at "g"
    refine ⟨a, ns, 0, rfl, hS, hlen, by decide, fun p0 H1 hp0 S1 D0 => ?_⟩
    walk_at "g"
    refine ⟨p0, 3, 200000, rfl, D0, by decide, by decide, by decide, fun L cs H2 hcs hC hL0 K2 => ?_⟩
    have x2 : XT H H2 := XT.pool S1 hp0 K2
    clear D0 S1 hp0 K2
    walk_at "g"
    refine ⟨Nat.zero_le _, fun St hSt => ?_⟩
    have x3 : XT H2 (upd H2 St (.lst [])) := ext_new hSt
    have e3 : (upd H2 St (.lst [])) St = some (.lst (([] : List Addr).map V.ref)) := upd_same
    have hC3 := hC.keep x3
    have hLS : L ≠ St := by obtain ⟨qs, h1, _⟩ := hC; exact ne_of_none h1 hSt
    have hStH : H St = none := by
      cases e : H St with
      | none => rfl
      | some o => rw [x2 _ _ e] at hSt; cases hSt
    generalize upd H2 St (.lst []) = H3 at x3 e3 hC3
    have x03 : XT H H3 := XT.trans x2 x3
    walk_at "g"
    refine ⟨a, ns, 1, rfl, xtL hS x03, hlen, by decide, fun p1 H4 hp1 S4 D4 => ?_⟩
    walk_at "g"
    refine ⟨_, _, _, rfl, D4, by omega, by decide, by decide +kernel, fun r H5 r0 r1 D5 K5 => ?_⟩
    have x35 : XT H3 H5 := XT.pool S4 hp1 K5
    walk_at "g"
    refine ⟨_, rfl, by omega, by omega, ?_⟩
    refine for_rangeA (fun i σ' H' => ∃ (ss : List LS) (s3 s4 s5 s6 s7 s8 : Option V), σ' = [some (.ref a), some (.ref L), some (.ref St), s3, s4, s5, s6, s7, s8] ∧ XT H H' ∧ LAt H' L (cs.map ct) ∧ StsN H' St ss ∧ ss.length = i ∧ ∀ s ∈ ss, LOk s) ⟨[], _, _, _, _, _, _, rfl, XT.trans x03 x35, hC3.keep x35, ⟨[], x35 _ _ e3, rfl, fun i q s h => by simp at h⟩, rfl, fun s h => nomatch h⟩ ?_ ?_
    · rintro i σ' H6 D' hi ⟨ss, s3, s4, s5, s6, s7, s8, rfl, x6, hC6, hN6, hsl, hsok⟩ hnx hct hbk hrt
      have hi5 : i < 5 := by omega
      walk_at "g"
      refine ⟨a, ns, 2 + i, by rw [show ((2 + i : Nat) : Int) = 2 + (0 + (i : Int)) by omega], xtL hS x6, hlen, by omega, fun p H7 hp S7 D7 => ?_⟩
      have hLp : L ≠ p := by obtain ⟨qs, h1, _⟩ := hC6; exact ne_of_none h1 hp
      walk_at "g"
      refine ⟨_, _, _, rfl, D7, by omega, by decide, by decide +kernel, fun r8 H8 r80 r81 D8 K8 => ?_⟩
      have x68 : XT H6 H8 := XT.pool S7 hp K8
      have hC8 := hC6.keep x68
      have hN8 := hN6.keep x68
      have add : ∀ (q : Addr) (s : LS) (H9 : Hp) (qs : List Addr) (s3 s4 s5 s6 s7 s8 : Option V), XT H6 H9 → H9 St = some (.lst (qs.map V.ref)) → StFm H9 q s → StL St H9 q s → LOk s → D'.nx [some (.ref a), some (.ref L), some (.ref St), s3, s4, s5, s6, s7, s8] (upd H9 St (.lst (qs.map V.ref ++ [.ref q]))) := fun q s H9 qs s3 s4 s5 s6 s7 s8 x9 e9 hF hl hk => by
        refine hnx _ _ ⟨ss ++ [s], _, _, _, _, _, _, rfl, XT.late (XT.trans x6 x9) hStH, (hC6.keep x9).keepP hLS ⟨_, e9⟩ fun b o nb h => by rw [upd_ne nb]; exact h, (hN6.keep x9).app e9 hF hl, by rw [List.length_append, hsl]; rfl, fun t ht => ?_⟩
        rcases List.mem_append.mp ht with ht | ht
        · exact hsok t ht
        · rw [List.mem_singleton.mp ht]; exact hk
      obtain ⟨qs8, e8, _⟩ := id hN8
      walk_at "g"
      refine g_dec (fun h0 => ?_) (fun h0 => ?_)
      · walk_at "g"
        refine ⟨p, L, cs, _, rfl, D8, by omega, hC8, hcs, hLp, fun q s H9 hF hk hfr K9 => ?_⟩
        have x69 : XT H6 H9 := XT.pool S7 hp (K8.trans K9)
        obtain ⟨qs9, e9, _⟩ := id (hN6.keep x69)
        walk_at "g"
        exact add q s H9 qs9 _ _ _ _ _ _ x69 e9 hF (StL.fresh hF hfr e8) hk
      · walk_at "g"
        refine g_dec (fun h1 => ?_) (fun h1 => ?_)
        · walk_at "g"
          refine ⟨by show 1 ≤ sizeLine; decide, fun t ht => ?_⟩
          have e9 := ext_new (o := .tup [.str (Str.ofString "flip")]) ht _ _ e8
          walk_at "g"
          exact add t .flip _ qs8 _ _ _ _ _ _ (XT.trans x68 (ext_new ht)) e9 upd_same True.intro True.intro
        · walk_at "g"
          refine ⟨p, L, cs, _, rfl, D8, by omega, hC8, hcs, hLp, fun O ps H9 hok hO hO0 hC9 K9 D9 => ?_⟩
          have x69 : XT H6 H9 := XT.pool S7 hp (K8.trans K9)
          obtain ⟨qs9, e9, _⟩ := id (hN6.keep x69)
          walk_at "g"
          refine ⟨by show 2 ≤ sizeLine; decide, fun t ht => ?_⟩
          have e10 := ext_new (o := .tup [.str (Str.ofString "sort"), .ref O]) ht _ _ e9
          walk_at "g"
          exact add t (.sort ps) _ qs9 _ _ _ _ _ _ (XT.trans x69 (ext_new ht)) e10 ⟨O, upd_same, hO.keep (ext_new ht)⟩ (fun l ⟨w', hw'⟩ => by
            obtain rfl := second hw'
            exact fun z => by rw [z, e8] at hO0; cases hO0) hok
    · rintro σ' H6 ⟨ss, s3, s4, s5, s6, s7, s8, rfl, x6, hC6, hN6, hsl, hsok⟩
      have hsl5 : ss.length ≤ 5 := by omega
      clear hsl
      walk_at "g"
      refine ⟨St, ss, rfl, hN6.f, hsl5, hsok, fun x H7 x7 hP => ?_⟩
      have hN7 := hN6.keep x7
      obtain ⟨qs7, e7, hq7, _⟩ := id hN7
      have hl7 : (qs7.map V.ref).length = ss.length := by rw [List.length_map, hq7]
      walk_at "g"
      rw [hl7]
      refine ⟨_, rfl, by omega, by omega, ?_⟩
      refine for_rangeA (fun j σ' H' => ∃ s3 s4 s5 s7 s8 : Option V, σ' = [some (.ref a), some (.ref L), some (.ref St), s3, s4, s5, some (.ref x), s7, s8] ∧ XT H7 H') ⟨_, _, _, _, _, rfl, XT.refl⟩ ?_ ?_
      · rintro j σ' H8 D' hj ⟨s3, s4, s5, s7, s8, rfl, x8⟩ hnx hct hbk hrt
        have e8 := x8 _ _ e7
        walk_at "g"
        refine ⟨by show 2 ≤ sizeLine; decide, fun l2 hl2 => ?_⟩
        have hl7' : ((qs7.map V.ref).length : Int) = (ss.length : Int) := by rw [hl7]
        generalize htwo : [V.int (0 + (j : Int)), V.int (((qs7.map V.ref).length : Int) - (0 + (j : Int)))] = two
        have x9 : XT H8 (upd H8 l2 (.lst two)) := ext_new hl2
        have el : (upd H8 l2 (.lst two)) l2 = some (.lst two) := upd_same
        generalize upd H8 l2 (.lst two) = H9 at x9 el
        have x79 : XT H7 H9 := XT.trans x8 x9
        refine ⟨l2, rfl, ⟨_, SqL.of el⟩, ?_⟩
        refine for_listA (xs := two) (fun m σ' H' => ∃ s3 s4 s5 s7 s8 : Option V, σ' = [some (.ref a), some (.ref L), some (.ref St), s3, s4, s5, some (.ref x), s7, s8] ∧ XT H9 H') ⟨_, _, _, _, _, rfl, XT.refl⟩ (fun m σ H' _ e => by obtain ⟨_, _, _, _, _, _, xx⟩ := e; exact SqL.of (xx _ _ el)) ?_ ?_
        · rintro m y σ' H10 D2 hy ⟨s3, s4, s5, s7, s8, rfl, x10⟩ hnx2 hct2 hbk2 hrt2
          obtain ⟨i, rfl, hi⟩ : ∃ i : Nat, y = .int (i : Int) ∧ i ≤ ss.length := by
            have hm := List.mem_of_getElem? hy
            rw [← htwo] at hm
            rcases List.mem_cons.mp hm with e | hm
            · exact ⟨j, by rw [e]; congr 1; omega, by omega⟩
            · exact ⟨ss.length - j, by rw [List.mem_singleton.mp hm]; congr 1; omega, by omega⟩
          have x710 : XT H7 H10 := XT.trans x79 x10
          have hst : ∀ s ∈ ss.map LS.st, StOk s := fun s hs => by
            obtain ⟨s0, hs0, rfl⟩ := List.mem_map.mp hs
            exact (hsok s0 hs0).st
          refine g_name ?_
          walk_at "g"
          refine ⟨x, i, ss.map LS.st, rfl, hP.keep x710, by rw [List.length_map]; exact hsl5, hst, by rw [List.length_map]; exact hi, fun t H11 x11 hO => ?_⟩
          obtain ⟨ts, ht, htl, htc⟩ := hO
          walk_at "g"
          refine g_isi (.base (.tup ht)) (show kitB "tuple" "tuple" = some true by decide +kernel) ?_
          walk_at "g"
          refine ⟨t, _, rfl, .inr (SqT.of ht), fun l hl => ?_⟩
          have xl : XT H11 (upd H11 l (.lst (ts.map V.ref))) := ext_new hl
          have hll : (upd H11 l (.lst (ts.map V.ref))) l = some (.lst (ts.map V.ref)) := upd_same
          generalize upd H11 l (.lst (ts.map V.ref)) = H12 at xl hll
          walk_at "g"
          refine ⟨St, i, ss, rfl, (hN7.keep (XT.trans x710 (XT.trans x11 xl))).f, hsl5, hsok, hi, fun l' H13 x13 hLA => ?_⟩
          have hb := back_is ((ss.take i).map LS.st) false []
          rw [show outS [] (twO false (standF ((ss.take i).map LS.st))) = standF ((ss.take i).map LS.st) from List.filter_eq_self.mpr fun c _ => decide_eq_true (fun h => nomatch h), List.nil_append] at hb
          rw [hb] at hLA
          rw [← List.map_take] at htl htc
          generalize hsf : standF ((ss.take i).map LS.st) = sf at hLA htl htc
          obtain ⟨us, hu1, hu2, hu3⟩ := hLA
          rw [List.length_map] at hu2
          have hsh : SeqAt.shaped (pdOf sf) = true := sh_order (by
            rw [← hsf]
            exact stand_nm fun s hs => by
              obtain ⟨s0, hs0, rfl⟩ := List.mem_map.mp hs
              exact (hsok s0 (List.mem_of_mem_take hs0)).st)
          walk_at "g"
          refine ⟨pdOf sf, pdOf sf, .lst (SqL.of (x13 _ _ hll)) (dp_order htl fun i q c hq hc => x13 _ _ (xl _ _ (htc i q c hq hc))), .lst (SqL.of hu1) (dp_order hu2 fun i q c hq hc => hu3 i q (pt c) hq (by rw [List.getElem?_map, hc]; rfl)), hsh, hsh, ?_⟩
          rw [SeqAt.eqv_refl _ (SeqAt.canLay_of_shaped hsh)]
          walk_at "g"
          exact hnx2 _ _ ⟨_, _, _, _, _, rfl, XT.trans x10 (XT.trans x11 (XT.trans xl x13))⟩
        · rintro σ' H10 ⟨s3, s4, s5, s7, s8, rfl, x10⟩
          exact hnx _ _ ⟨_, _, _, _, _, rfl, XT.trans x79 x10⟩
      · rintro σ' H8 ⟨s3, s4, s5, s7, s8, rfl, x8⟩
        walk_at "g"
        exact k _
end
theorem kitSelf {K : PySem.W.Frag} {C : Addr} : PySem.W.kitOne K (.ref C) (.ref C) = some true := by
  unfold PySem.W.kitOne
  rw [if_pos (beq_self_eq_true _)]
theorem kitNo {K : PySem.W.Frag} {C : Addr} {T : String} (h2 : PySem.W.isClsIn K C = true) (h3 : PySem.W.typeIn K (.ref C) = some (.type "type")) (h4 : PySem.W.subIn K (.type T) (.ref C) = some false) : PySem.W.kitOne K (.type T) (.ref C) = some false := by
  have e1 : ¬ (Value.type T == Value.ref C) = true := fun z => nomatch (beq_iff_eq.mp z)
  have e2 : ((PySem.W.clsIn K C).isSome && PySem.W.typeIn K (.ref C) == some (.type "type")) = true := by
    have h2' : (PySem.W.clsIn K C).isSome = true := h2
    rw [h2', h3] <;> rfl
  show (if (Value.type T == Value.ref C) = true then some true else (if ((PySem.W.clsIn K C).isSome && PySem.W.typeIn K (.ref C) == some (.type "type")) = true then PySem.W.subIn K (.type T) (.ref C) else none)) = some false
  rw [if_neg e1, if_pos e2]
  exact h4
theorem kitOwnT {K : PySem.W.Frag} {C R : Addr} (h2 : PySem.W.isClsIn K R = true) (h3 : PySem.W.typeIn K (.ref R) = some (.type "type")) (h4 : PySem.W.subIn K (.ref C) (.ref R) = some true) : PySem.W.kitOne K (.ref C) (.ref R) = some true := by
  have e2 : ((PySem.W.clsIn K R).isSome && PySem.W.typeIn K (.ref R) == some (.type "type")) = true := by
    have h2' : (PySem.W.clsIn K R).isSome = true := h2
    rw [h2', h3] <;> rfl
  show (if (Value.ref C == Value.ref R) = true then some true else (if ((PySem.W.clsIn K R).isSome && PySem.W.typeIn K (.ref R) == some (.type "type")) = true then PySem.W.subIn K (.ref C) (.ref R) else none)) = some true
  by_cases e1 : (Value.ref C == Value.ref R) = true
  · rw [if_pos e1]
  · rw [if_neg e1, if_pos e2]
    exact h4
theorem kitOwn {K : PySem.W.Frag} {C R : Addr} (h1 : PySem.W.subIn K (.ref C) (.ref C) = some true) (h2 : PySem.W.isClsIn K R = true) (h3 : PySem.W.typeIn K (.ref R) = some (.type "type")) (h4 : PySem.W.subIn K (.ref C) (.ref R) = some false) : PySem.W.kitOne K (.ref C) (.ref R) = some false := by
  have e2 : ((PySem.W.clsIn K R).isSome && PySem.W.typeIn K (.ref R) == some (.type "type")) = true := by
    have h2' : (PySem.W.clsIn K R).isSome = true := h2
    rw [h2', h3] <;> rfl
  show (if (Value.ref C == Value.ref R) = true then some true else (if ((PySem.W.clsIn K R).isSome && PySem.W.typeIn K (.ref R) == some (.type "type")) = true then PySem.W.subIn K (.ref C) (.ref R) else none)) = some false
  rw [if_neg (fun e => by
    have e' : C = R := Value.ref.inj (beq_iff_eq.mp e)
    rw [e'] at h1 h4
    rw [h1] at h4
    cases h4), if_pos e2]
  exact h4
theorem exmSelf {K : PySem.W.Frag} {S : Addr} (h1 : PySem.W.subIn K (.ref S) (.type "BaseException") = some true) (h2 : PySem.W.isClsIn K S = true) (h3 : PySem.W.typeIn K (.ref S) = some (.type "type")) (h4 : PySem.W.subIn K (.ref S) (.ref S) = some true) : PySem.W.exmOne K (.ref S) (.ref S) = some true := by
  have e1 : (PySem.W.subIn K (.ref S) (.type "BaseException") == some true) = true := by rw [h1] <;> rfl
  have e2 : ((PySem.W.clsIn K S).isSome && PySem.W.typeIn K (.ref S) == some (.type "type")) = true := by
    have h2' : (PySem.W.clsIn K S).isSome = true := h2
    rw [h2', h3] <;> rfl
  show (if (PySem.W.subIn K (.ref S) (.type "BaseException") == some true) = true then (if ((PySem.W.clsIn K S).isSome && PySem.W.typeIn K (.ref S) == some (.type "type")) = true then PySem.W.subIn K (.ref S) (.ref S) else none) else none) = some true
  rw [if_pos e1, if_pos e2]
  exact h4
theorem all_mk {l : PySem.W.OpenLaw} {w : World} {K : PySem.W.Frag} {h : Heap} {mg : Str → Option Value} {fa f_is_integer f_is_sequence f_is_worded f_is_text f_is_name f_kind_of f_Test_init f_Test_and f_Test_or f_Test_invert f_size_of f_depth_of f_combined f_need_column f_need_op f_need_values f_compare f_against f_among f_begins f_empty f_always f_never f_sure f_is_short f_are_names f_is_part f_need_order f_turned f_Plan_init f_Plan_steps f_is_step f_is_order f_step_of f_columns_of_order f_standing_order f__law_pool f__law_draw f__law_value f__law_name f__law_columns f__law_atom f__law_make f__law_order f__law_step f__law_made_step f__law_planned f__law_standing f_law : Addr} {c_Test c_Plan : Addr} {c_BadTest feBadTest : Addr} {c_BadOrder feBadOrder : Addr} (X : K.In h) (G : h.Ns mainGlobals mg) (hfa : mg "law" = some (.ref fa))
    {od_is_integer an_is_integer : Option Addr} {sl_is_integer : Array (Option Value)} {oc_is_integer kV_is_integer dc_is_integer pm_is_integer cd_is_integer ct_is_integer : Value}
    {od_is_sequence an_is_sequence : Option Addr} {sl_is_sequence : Array (Option Value)} {oc_is_sequence kV_is_sequence dc_is_sequence pm_is_sequence cd_is_sequence ct_is_sequence : Value}
    {od_is_worded an_is_worded : Option Addr} {sl_is_worded : Array (Option Value)} {oc_is_worded kV_is_worded dc_is_worded pm_is_worded cd_is_worded ct_is_worded : Value}
    {od_is_text an_is_text : Option Addr} {sl_is_text : Array (Option Value)} {oc_is_text kV_is_text dc_is_text pm_is_text cd_is_text ct_is_text : Value}
    {od_is_name an_is_name : Option Addr} {sl_is_name : Array (Option Value)} {oc_is_name kV_is_name dc_is_name pm_is_name cd_is_name ct_is_name : Value}
    {od_kind_of an_kind_of : Option Addr} {sl_kind_of : Array (Option Value)} {oc_kind_of kV_kind_of dc_kind_of pm_kind_of cd_kind_of ct_kind_of : Value}
    {od_Test_init an_Test_init : Option Addr} {sl_Test_init : Array (Option Value)} {oc_Test_init kV_Test_init dc_Test_init pm_Test_init cd_Test_init ct_Test_init : Value}
    {od_Test_and an_Test_and : Option Addr} {sl_Test_and : Array (Option Value)} {oc_Test_and kV_Test_and dc_Test_and pm_Test_and cd_Test_and ct_Test_and : Value}
    {od_Test_or an_Test_or : Option Addr} {sl_Test_or : Array (Option Value)} {oc_Test_or kV_Test_or dc_Test_or pm_Test_or cd_Test_or ct_Test_or : Value}
    {od_Test_invert an_Test_invert : Option Addr} {sl_Test_invert : Array (Option Value)} {oc_Test_invert kV_Test_invert dc_Test_invert pm_Test_invert cd_Test_invert ct_Test_invert : Value}
    {od_size_of an_size_of : Option Addr} {sl_size_of : Array (Option Value)} {oc_size_of kV_size_of dc_size_of pm_size_of cd_size_of ct_size_of : Value}
    {od_depth_of an_depth_of : Option Addr} {sl_depth_of : Array (Option Value)} {oc_depth_of kV_depth_of dc_depth_of pm_depth_of cd_depth_of ct_depth_of : Value}
    {od_combined an_combined : Option Addr} {sl_combined : Array (Option Value)} {oc_combined kV_combined dc_combined pm_combined cd_combined ct_combined : Value}
    {od_need_column an_need_column : Option Addr} {sl_need_column : Array (Option Value)} {oc_need_column kV_need_column dc_need_column pm_need_column cd_need_column ct_need_column : Value}
    {od_need_op an_need_op : Option Addr} {sl_need_op : Array (Option Value)} {oc_need_op kV_need_op dc_need_op pm_need_op cd_need_op ct_need_op : Value}
    {od_need_values an_need_values : Option Addr} {sl_need_values : Array (Option Value)} {oc_need_values kV_need_values dc_need_values pm_need_values cd_need_values ct_need_values : Value}
    {od_compare an_compare : Option Addr} {sl_compare : Array (Option Value)} {oc_compare kV_compare dc_compare pm_compare cd_compare ct_compare : Value}
    {od_against an_against : Option Addr} {sl_against : Array (Option Value)} {oc_against dc_against pm_against cd_against ct_against : Value}
    {od_among an_among : Option Addr} {sl_among : Array (Option Value)} {oc_among kV_among dc_among pm_among cd_among ct_among : Value}
    {od_begins an_begins : Option Addr} {sl_begins : Array (Option Value)} {oc_begins kV_begins dc_begins pm_begins cd_begins ct_begins : Value}
    {od_empty an_empty : Option Addr} {sl_empty : Array (Option Value)} {oc_empty kV_empty dc_empty pm_empty cd_empty ct_empty : Value}
    {od_always an_always : Option Addr} {sl_always : Array (Option Value)} {oc_always kV_always dc_always pm_always cd_always ct_always : Value}
    {od_never an_never : Option Addr} {sl_never : Array (Option Value)} {oc_never kV_never dc_never pm_never cd_never ct_never : Value}
    {od_sure an_sure : Option Addr} {sl_sure : Array (Option Value)} {oc_sure kV_sure dc_sure pm_sure cd_sure ct_sure : Value}
    {od_is_short an_is_short : Option Addr} {sl_is_short : Array (Option Value)} {oc_is_short kV_is_short dc_is_short pm_is_short cd_is_short ct_is_short : Value}
    {od_are_names an_are_names : Option Addr} {sl_are_names : Array (Option Value)} {oc_are_names kV_are_names dc_are_names pm_are_names cd_are_names ct_are_names : Value}
    {od_is_part an_is_part : Option Addr} {sl_is_part : Array (Option Value)} {oc_is_part kV_is_part dc_is_part pm_is_part cd_is_part ct_is_part : Value}
    {od_need_order an_need_order : Option Addr} {sl_need_order : Array (Option Value)} {oc_need_order kV_need_order dc_need_order pm_need_order cd_need_order ct_need_order : Value}
    {od_turned an_turned : Option Addr} {sl_turned : Array (Option Value)} {oc_turned kV_turned dc_turned pm_turned cd_turned ct_turned : Value}
    {od_Plan_init an_Plan_init : Option Addr} {sl_Plan_init : Array (Option Value)} {oc_Plan_init kV_Plan_init dc_Plan_init pm_Plan_init cd_Plan_init ct_Plan_init : Value}
    {od_Plan_steps an_Plan_steps : Option Addr} {sl_Plan_steps : Array (Option Value)} {oc_Plan_steps kV_Plan_steps dc_Plan_steps pm_Plan_steps cd_Plan_steps ct_Plan_steps : Value}
    {od_is_step an_is_step : Option Addr} {sl_is_step : Array (Option Value)} {oc_is_step kV_is_step dc_is_step pm_is_step cd_is_step ct_is_step : Value}
    {od_is_order an_is_order : Option Addr} {sl_is_order : Array (Option Value)} {oc_is_order kV_is_order dc_is_order pm_is_order cd_is_order ct_is_order : Value}
    {od_step_of an_step_of : Option Addr} {sl_step_of : Array (Option Value)} {oc_step_of kV_step_of dc_step_of pm_step_of cd_step_of ct_step_of : Value}
    {od_columns_of_order an_columns_of_order : Option Addr} {sl_columns_of_order : Array (Option Value)} {oc_columns_of_order kV_columns_of_order dc_columns_of_order pm_columns_of_order cd_columns_of_order ct_columns_of_order : Value}
    {od_standing_order an_standing_order : Option Addr} {sl_standing_order : Array (Option Value)} {oc_standing_order kV_standing_order dc_standing_order pm_standing_order cd_standing_order ct_standing_order : Value}
    {od__law_pool an__law_pool : Option Addr} {sl__law_pool : Array (Option Value)} {oc__law_pool kV__law_pool dc__law_pool pm__law_pool cd__law_pool ct__law_pool : Value}
    {od__law_draw an__law_draw : Option Addr} {sl__law_draw : Array (Option Value)} {oc__law_draw kV__law_draw dc__law_draw pm__law_draw cd__law_draw ct__law_draw : Value}
    {od__law_value an__law_value : Option Addr} {sl__law_value : Array (Option Value)} {oc__law_value kV__law_value dc__law_value pm__law_value cd__law_value ct__law_value : Value}
    {od__law_name an__law_name : Option Addr} {sl__law_name : Array (Option Value)} {oc__law_name kV__law_name dc__law_name pm__law_name cd__law_name ct__law_name : Value}
    {od__law_columns an__law_columns : Option Addr} {sl__law_columns : Array (Option Value)} {oc__law_columns kV__law_columns dc__law_columns pm__law_columns cd__law_columns ct__law_columns : Value}
    {od__law_atom an__law_atom : Option Addr} {sl__law_atom : Array (Option Value)} {oc__law_atom kV__law_atom dc__law_atom pm__law_atom cd__law_atom ct__law_atom : Value}
    {od__law_make an__law_make : Option Addr} {sl__law_make : Array (Option Value)} {oc__law_make kV__law_make dc__law_make pm__law_make cd__law_make ct__law_make : Value}
    {od__law_order an__law_order : Option Addr} {sl__law_order : Array (Option Value)} {oc__law_order kV__law_order dc__law_order pm__law_order cd__law_order ct__law_order : Value}
    {od__law_step an__law_step : Option Addr} {sl__law_step : Array (Option Value)} {oc__law_step kV__law_step dc__law_step pm__law_step cd__law_step ct__law_step : Value}
    {od__law_made_step an__law_made_step : Option Addr} {sl__law_made_step : Array (Option Value)} {oc__law_made_step kV__law_made_step dc__law_made_step pm__law_made_step cd__law_made_step ct__law_made_step : Value}
    {od__law_planned an__law_planned : Option Addr} {sl__law_planned : Array (Option Value)} {oc__law_planned kV__law_planned dc__law_planned pm__law_planned cd__law_planned ct__law_planned : Value}
    {od__law_standing an__law_standing : Option Addr} {sl__law_standing : Array (Option Value)} {oc__law_standing kV__law_standing dc__law_standing pm__law_standing cd__law_standing ct__law_standing : Value}
    {od_law an_law : Option Addr} {sl_law : Array (Option Value)} {oc_law kV_law dc_law pm_law cd_law ct_law : Value}
    (a_Test : PySem.W.nsIn K mainGlobals "Test" = some (some (.ref c_Test))) (pg_Test : PySem.W.plainGet K c_Test Str.empty = true) (hd_Test : PySem.W.hasDictIn K c_Test = true) (po_Test : PySem.W.plainOver K c_Test = true) (sa_Test : PySem.W.findIn K (.ref c_Test) "__setattr__" = some (some (.builtin "object.__setattr__"))) (mk_Test : PySem.W.makesIn K c_Test = true) (kc_Test : PySem.W.keepIn K (.ref c_Test) = true)
    (sf_Test : PySem.W.selfFirst K c_Test = true)
    (nr_Test_and : PySem.W.findIn K (.ref c_Test) (dunderR "and") = some none)
    (nr_Test_or : PySem.W.findIn K (.ref c_Test) (dunderR "or") = some none)
    (ia_Test : PySem.W.findIn K (.ref c_Test) "__class__" = some (some (.builtin "object.__class__"))) (in_Test : PySem.W.specialIn K (.builtin "object.__class__") "__get__" = some (some (.builtin "getset_descriptor.__get__"))) (it_Test : PySem.W.takesIn K (.builtin "object.__class__") = some true) (im_Test : PySem.W.mroIn K c_Test (.type "object") = some true) (io_Test : PySem.W.isClsIn K c_Test = true) (iy_Test : PySem.W.typeIn K (.ref c_Test) = some (.type "type"))
    (iz_Test_NoneType : PySem.W.subIn K (.type "NoneType") (.ref c_Test) = some false)
    (iz_Test_bool : PySem.W.subIn K (.type "bool") (.ref c_Test) = some false)
    (iz_Test_int : PySem.W.subIn K (.type "int") (.ref c_Test) = some false)
    (iz_Test_str : PySem.W.subIn K (.type "str") (.ref c_Test) = some false)
    (iz_Test_list : PySem.W.subIn K (.type "list") (.ref c_Test) = some false)
    (iz_Test_tuple : PySem.W.subIn K (.type "tuple") (.ref c_Test) = some false)
    (iz_Test_dict : PySem.W.subIn K (.type "dict") (.ref c_Test) = some false)
    (n_Test_word : PySem.W.findIn K (.ref c_Test) "word" = some none)
    (n_Test_inner : PySem.W.findIn K (.ref c_Test) "inner" = some none)
    (n_Test_fields : PySem.W.findIn K (.ref c_Test) "fields" = some none)
    (n_Test_terms : PySem.W.findIn K (.ref c_Test) "terms" = some none)
    (n_Test_size : PySem.W.findIn K (.ref c_Test) "size" = some none)
    (n_Test_depth : PySem.W.findIn K (.ref c_Test) "depth" = some none)
    (a_Plan : PySem.W.nsIn K mainGlobals "Plan" = some (some (.ref c_Plan))) (pg_Plan : PySem.W.plainGet K c_Plan Str.empty = true) (hd_Plan : PySem.W.hasDictIn K c_Plan = true) (po_Plan : PySem.W.plainOver K c_Plan = true) (sa_Plan : PySem.W.findIn K (.ref c_Plan) "__setattr__" = some (some (.builtin "object.__setattr__"))) (mk_Plan : PySem.W.makesIn K c_Plan = true) (kc_Plan : PySem.W.keepIn K (.ref c_Plan) = true)
    (sf_Plan : PySem.W.selfFirst K c_Plan = true)
    (nr_Plan_and : PySem.W.findIn K (.ref c_Plan) (dunderR "and") = some none)
    (nr_Plan_or : PySem.W.findIn K (.ref c_Plan) (dunderR "or") = some none)
    (ia_Plan : PySem.W.findIn K (.ref c_Plan) "__class__" = some (some (.builtin "object.__class__"))) (in_Plan : PySem.W.specialIn K (.builtin "object.__class__") "__get__" = some (some (.builtin "getset_descriptor.__get__"))) (it_Plan : PySem.W.takesIn K (.builtin "object.__class__") = some true) (im_Plan : PySem.W.mroIn K c_Plan (.type "object") = some true) (io_Plan : PySem.W.isClsIn K c_Plan = true) (iy_Plan : PySem.W.typeIn K (.ref c_Plan) = some (.type "type"))
    (iz_Plan_NoneType : PySem.W.subIn K (.type "NoneType") (.ref c_Plan) = some false)
    (iz_Plan_bool : PySem.W.subIn K (.type "bool") (.ref c_Plan) = some false)
    (iz_Plan_int : PySem.W.subIn K (.type "int") (.ref c_Plan) = some false)
    (iz_Plan_str : PySem.W.subIn K (.type "str") (.ref c_Plan) = some false)
    (iz_Plan_list : PySem.W.subIn K (.type "list") (.ref c_Plan) = some false)
    (iz_Plan_tuple : PySem.W.subIn K (.type "tuple") (.ref c_Plan) = some false)
    (iz_Plan_dict : PySem.W.subIn K (.type "dict") (.ref c_Plan) = some false)
    (n_Plan_course : PySem.W.findIn K (.ref c_Plan) "course" = some none)
    {nm_eBadTest q_eBadTest : Str} {N_eBadTest : Addr} {bs_eBadTest bm_eBadTest : List Value} {sn_eBadTest : List Str} {su_eBadTest : List Value} {ab_eBadTest : Bool} {co_eBadTest : Option Bool} {dd_eBadTest : Option Addr} {m0_eBadTest m1_eBadTest m2_eBadTest m3_eBadTest m5_eBadTest : Option Value} {oc_eBadTest doc_eBadTest pm_eBadTest cd_eBadTest ct_eBadTest : Value} {od_eBadTest an_eBadTest : Option Addr} {sl_eBadTest : Array (Option Value)} {p1_eBadTest p2_eBadTest q1_eBadTest q2_eBadTest q3_eBadTest q4_eBadTest : Pos} {sc_eBadTest : Scope}
    (a_eBadTest : PySem.W.nsIn K mainGlobals "BadTest" = some (some (.ref c_BadTest))) (x_eBadTest : K.lookup c_BadTest = some (excClassObj nm_eBadTest q_eBadTest c_BadTest N_eBadTest bs_eBadTest bm_eBadTest true sn_eBadTest su_eBadTest ab_eBadTest co_eBadTest dd_eBadTest m0_eBadTest m1_eBadTest m2_eBadTest m3_eBadTest m5_eBadTest "Exception.__new__")) (o_eBadTest : PySem.TwX.OwnEx bm_eBadTest) (sa_eBadTest : PySem.W.findIn K (.ref c_BadTest) "__setattr__" = some (some (.builtin "object.__setattr__"))) (ga_eBadTest : PySem.W.findIn K (.ref c_BadTest) "__getattribute__" = some (some (.builtin "BaseException.__getattribute__"))) (gg_eBadTest : PySem.W.findIn K (.ref c_BadTest) "__getattr__" = some none) (nb_eBadTest : PySem.W.findIn K (.ref c_BadTest) "why" = some none) (i_eBadTest : PySem.W.findIn K (.ref c_BadTest) "__init__" = some (some (.ref feBadTest))) (t_eBadTest : PySem.W.typeIn K (.ref feBadTest) = some (.type "function"))
    (l_eBadTest : K.lookup feBadTest = some ⟨oc_eBadTest, od_eBadTest, .func (PySem.W.fnOf "__init__" "BadTest.__init__" (PySem.ErBadTest.inA p1_eBadTest p2_eBadTest) (PySem.ErBadTest.inB q1_eBadTest q2_eBadTest q3_eBadTest q4_eBadTest) sc_eBadTest .none .none doc_eBadTest pm_eBadTest an_eBadTest cd_eBadTest ct_eBadTest), sl_eBadTest⟩) (cc_eBadTest : PySem.W.codeIn K cd_eBadTest "BadTest.__init__" = true) (s1_eBadTest : sc_eBadTest.kind = .function) (s2_eBadTest : sc_eBadTest.names = [(PySem.Str.ofString "self", .local), (PySem.Str.ofString "why", .local)]) (s3_eBadTest : sc_eBadTest.isGenerator = false) (s4_eBadTest : sc_eBadTest.isCoroutine = false)
    (k_eBadTest : PySem.W.keepIn K (.ref c_BadTest) = true) (eC_eBadTest : PySem.W.subIn K (.ref c_BadTest) (.type "BaseException") = some true) (tC_eBadTest : PySem.W.typeIn K (.ref c_BadTest) = some (.type "type")) (hC_eBadTest : PySem.W.hasDictIn K c_BadTest = true) (te_eBadTest : PySem.W.isClsIn K c_BadTest = true) (tf_eBadTest : PySem.W.subIn K (.ref c_BadTest) (.ref c_BadTest) = some true)
    {nm_eBadOrder q_eBadOrder : Str} {N_eBadOrder : Addr} {bs_eBadOrder bm_eBadOrder : List Value} {sn_eBadOrder : List Str} {su_eBadOrder : List Value} {ab_eBadOrder : Bool} {co_eBadOrder : Option Bool} {dd_eBadOrder : Option Addr} {m0_eBadOrder m1_eBadOrder m2_eBadOrder m3_eBadOrder m5_eBadOrder : Option Value} {oc_eBadOrder doc_eBadOrder pm_eBadOrder cd_eBadOrder ct_eBadOrder : Value} {od_eBadOrder an_eBadOrder : Option Addr} {sl_eBadOrder : Array (Option Value)} {p1_eBadOrder p2_eBadOrder q1_eBadOrder q2_eBadOrder q3_eBadOrder q4_eBadOrder : Pos} {sc_eBadOrder : Scope}
    (a_eBadOrder : PySem.W.nsIn K mainGlobals "BadOrder" = some (some (.ref c_BadOrder))) (x_eBadOrder : K.lookup c_BadOrder = some (excClassObj nm_eBadOrder q_eBadOrder c_BadOrder N_eBadOrder bs_eBadOrder bm_eBadOrder true sn_eBadOrder su_eBadOrder ab_eBadOrder co_eBadOrder dd_eBadOrder m0_eBadOrder m1_eBadOrder m2_eBadOrder m3_eBadOrder m5_eBadOrder "Exception.__new__")) (o_eBadOrder : PySem.TwX.OwnEx bm_eBadOrder) (sa_eBadOrder : PySem.W.findIn K (.ref c_BadOrder) "__setattr__" = some (some (.builtin "object.__setattr__"))) (ga_eBadOrder : PySem.W.findIn K (.ref c_BadOrder) "__getattribute__" = some (some (.builtin "BaseException.__getattribute__"))) (gg_eBadOrder : PySem.W.findIn K (.ref c_BadOrder) "__getattr__" = some none) (nb_eBadOrder : PySem.W.findIn K (.ref c_BadOrder) "at" = some none) (i_eBadOrder : PySem.W.findIn K (.ref c_BadOrder) "__init__" = some (some (.ref feBadOrder))) (t_eBadOrder : PySem.W.typeIn K (.ref feBadOrder) = some (.type "function"))
    (l_eBadOrder : K.lookup feBadOrder = some ⟨oc_eBadOrder, od_eBadOrder, .func (PySem.W.fnOf "__init__" "BadOrder.__init__" (PySem.ErBadOrder.inA p1_eBadOrder p2_eBadOrder) (PySem.ErBadOrder.inB q1_eBadOrder q2_eBadOrder q3_eBadOrder q4_eBadOrder) sc_eBadOrder .none .none doc_eBadOrder pm_eBadOrder an_eBadOrder cd_eBadOrder ct_eBadOrder), sl_eBadOrder⟩) (cc_eBadOrder : PySem.W.codeIn K cd_eBadOrder "BadOrder.__init__" = true) (s1_eBadOrder : sc_eBadOrder.kind = .function) (s2_eBadOrder : sc_eBadOrder.names = [(PySem.Str.ofString "self", .local), (PySem.Str.ofString "at", .local)]) (s3_eBadOrder : sc_eBadOrder.isGenerator = false) (s4_eBadOrder : sc_eBadOrder.isCoroutine = false)
    (k_eBadOrder : PySem.W.keepIn K (.ref c_BadOrder) = true) (eC_eBadOrder : PySem.W.subIn K (.ref c_BadOrder) (.type "BaseException") = some true) (tC_eBadOrder : PySem.W.typeIn K (.ref c_BadOrder) = some (.type "type")) (hC_eBadOrder : PySem.W.hasDictIn K c_BadOrder = true) (te_eBadOrder : PySem.W.isClsIn K c_BadOrder = true) (tf_eBadOrder : PySem.W.subIn K (.ref c_BadOrder) (.ref c_BadOrder) = some true)
    (a_is_integer : PySem.W.nsIn K mainGlobals "is_integer" = some (some (.ref f_is_integer))) (l_is_integer : K.lookup f_is_integer = some ⟨oc_is_integer, od_is_integer, .func (PySem.W.fnOf "is_integer" "is_integer" (defArgs S_is_integer) (defBody S_is_integer) (defScope S_is_integer) .none kV_is_integer dc_is_integer pm_is_integer an_is_integer cd_is_integer ct_is_integer), sl_is_integer⟩) (c_is_integer : PySem.W.codeIn K cd_is_integer "is_integer" = true) (k_is_integer : PySem.W.keepIn K (.ref f_is_integer) = true)
    (a_is_sequence : PySem.W.nsIn K mainGlobals "is_sequence" = some (some (.ref f_is_sequence))) (l_is_sequence : K.lookup f_is_sequence = some ⟨oc_is_sequence, od_is_sequence, .func (PySem.W.fnOf "is_sequence" "is_sequence" (defArgs S_is_sequence) (defBody S_is_sequence) (defScope S_is_sequence) .none kV_is_sequence dc_is_sequence pm_is_sequence an_is_sequence cd_is_sequence ct_is_sequence), sl_is_sequence⟩) (c_is_sequence : PySem.W.codeIn K cd_is_sequence "is_sequence" = true) (k_is_sequence : PySem.W.keepIn K (.ref f_is_sequence) = true)
    (a_is_worded : PySem.W.nsIn K mainGlobals "is_worded" = some (some (.ref f_is_worded))) (l_is_worded : K.lookup f_is_worded = some ⟨oc_is_worded, od_is_worded, .func (PySem.W.fnOf "is_worded" "is_worded" (defArgs S_is_worded) (defBody S_is_worded) (defScope S_is_worded) .none kV_is_worded dc_is_worded pm_is_worded an_is_worded cd_is_worded ct_is_worded), sl_is_worded⟩) (c_is_worded : PySem.W.codeIn K cd_is_worded "is_worded" = true) (k_is_worded : PySem.W.keepIn K (.ref f_is_worded) = true)
    (a_is_text : PySem.W.nsIn K mainGlobals "is_text" = some (some (.ref f_is_text))) (l_is_text : K.lookup f_is_text = some ⟨oc_is_text, od_is_text, .func (PySem.W.fnOf "is_text" "is_text" (defArgs S_is_text) (defBody S_is_text) (defScope S_is_text) .none kV_is_text dc_is_text pm_is_text an_is_text cd_is_text ct_is_text), sl_is_text⟩) (c_is_text : PySem.W.codeIn K cd_is_text "is_text" = true) (k_is_text : PySem.W.keepIn K (.ref f_is_text) = true)
    (a_is_name : PySem.W.nsIn K mainGlobals "is_name" = some (some (.ref f_is_name))) (l_is_name : K.lookup f_is_name = some ⟨oc_is_name, od_is_name, .func (PySem.W.fnOf "is_name" "is_name" (defArgs S_is_name) (defBody S_is_name) (defScope S_is_name) .none kV_is_name dc_is_name pm_is_name an_is_name cd_is_name ct_is_name), sl_is_name⟩) (c_is_name : PySem.W.codeIn K cd_is_name "is_name" = true) (k_is_name : PySem.W.keepIn K (.ref f_is_name) = true)
    (a_kind_of : PySem.W.nsIn K mainGlobals "kind_of" = some (some (.ref f_kind_of))) (l_kind_of : K.lookup f_kind_of = some ⟨oc_kind_of, od_kind_of, .func (PySem.W.fnOf "kind_of" "kind_of" (defArgs S_kind_of) (defBody S_kind_of) (defScope S_kind_of) .none kV_kind_of dc_kind_of pm_kind_of an_kind_of cd_kind_of ct_kind_of), sl_kind_of⟩) (c_kind_of : PySem.W.codeIn K cd_kind_of "kind_of" = true) (k_kind_of : PySem.W.keepIn K (.ref f_kind_of) = true)
    (a_Test_init : PySem.W.findIn K (.ref c_Test) "__init__" = some (some (.ref f_Test_init))) (i_Test_init : PySem.W.isFn K (.ref f_Test_init) = true) (l_Test_init : K.lookup f_Test_init = some ⟨oc_Test_init, od_Test_init, .func (PySem.W.fnOf "__init__" "Test.__init__" (defArgs S_Test_init) (defBody S_Test_init) (defScope S_Test_init) .none kV_Test_init dc_Test_init pm_Test_init an_Test_init cd_Test_init ct_Test_init), sl_Test_init⟩) (c_Test_init : PySem.W.codeIn K cd_Test_init "Test.__init__" = true) (k_Test_init : PySem.W.keepIn K (.ref f_Test_init) = true)
    (a_Test_and : PySem.W.findIn K (.ref c_Test) "__and__" = some (some (.ref f_Test_and))) (i_Test_and : PySem.W.isFn K (.ref f_Test_and) = true) (l_Test_and : K.lookup f_Test_and = some ⟨oc_Test_and, od_Test_and, .func (PySem.W.fnOf "__and__" "Test.__and__" (defArgs S_Test_and) (defBody S_Test_and) (defScope S_Test_and) .none kV_Test_and dc_Test_and pm_Test_and an_Test_and cd_Test_and ct_Test_and), sl_Test_and⟩) (c_Test_and : PySem.W.codeIn K cd_Test_and "Test.__and__" = true) (k_Test_and : PySem.W.keepIn K (.ref f_Test_and) = true)
    (a_Test_or : PySem.W.findIn K (.ref c_Test) "__or__" = some (some (.ref f_Test_or))) (i_Test_or : PySem.W.isFn K (.ref f_Test_or) = true) (l_Test_or : K.lookup f_Test_or = some ⟨oc_Test_or, od_Test_or, .func (PySem.W.fnOf "__or__" "Test.__or__" (defArgs S_Test_or) (defBody S_Test_or) (defScope S_Test_or) .none kV_Test_or dc_Test_or pm_Test_or an_Test_or cd_Test_or ct_Test_or), sl_Test_or⟩) (c_Test_or : PySem.W.codeIn K cd_Test_or "Test.__or__" = true) (k_Test_or : PySem.W.keepIn K (.ref f_Test_or) = true)
    (a_Test_invert : PySem.W.findIn K (.ref c_Test) "__invert__" = some (some (.ref f_Test_invert))) (i_Test_invert : PySem.W.isFn K (.ref f_Test_invert) = true) (l_Test_invert : K.lookup f_Test_invert = some ⟨oc_Test_invert, od_Test_invert, .func (PySem.W.fnOf "__invert__" "Test.__invert__" (defArgs S_Test_invert) (defBody S_Test_invert) (defScope S_Test_invert) .none kV_Test_invert dc_Test_invert pm_Test_invert an_Test_invert cd_Test_invert ct_Test_invert), sl_Test_invert⟩) (c_Test_invert : PySem.W.codeIn K cd_Test_invert "Test.__invert__" = true) (k_Test_invert : PySem.W.keepIn K (.ref f_Test_invert) = true)
    (a_size_of : PySem.W.nsIn K mainGlobals "size_of" = some (some (.ref f_size_of))) (l_size_of : K.lookup f_size_of = some ⟨oc_size_of, od_size_of, .func (PySem.W.fnOf "size_of" "size_of" (defArgs S_size_of) (defBody S_size_of) (defScope S_size_of) .none kV_size_of dc_size_of pm_size_of an_size_of cd_size_of ct_size_of), sl_size_of⟩) (c_size_of : PySem.W.codeIn K cd_size_of "size_of" = true) (k_size_of : PySem.W.keepIn K (.ref f_size_of) = true)
    (a_depth_of : PySem.W.nsIn K mainGlobals "depth_of" = some (some (.ref f_depth_of))) (l_depth_of : K.lookup f_depth_of = some ⟨oc_depth_of, od_depth_of, .func (PySem.W.fnOf "depth_of" "depth_of" (defArgs S_depth_of) (defBody S_depth_of) (defScope S_depth_of) .none kV_depth_of dc_depth_of pm_depth_of an_depth_of cd_depth_of ct_depth_of), sl_depth_of⟩) (c_depth_of : PySem.W.codeIn K cd_depth_of "depth_of" = true) (k_depth_of : PySem.W.keepIn K (.ref f_depth_of) = true)
    (a_combined : PySem.W.nsIn K mainGlobals "combined" = some (some (.ref f_combined))) (l_combined : K.lookup f_combined = some ⟨oc_combined, od_combined, .func (PySem.W.fnOf "combined" "combined" (defArgs S_combined) (defBody S_combined) (defScope S_combined) .none kV_combined dc_combined pm_combined an_combined cd_combined ct_combined), sl_combined⟩) (c_combined : PySem.W.codeIn K cd_combined "combined" = true) (k_combined : PySem.W.keepIn K (.ref f_combined) = true)
    (a_need_column : PySem.W.nsIn K mainGlobals "need_column" = some (some (.ref f_need_column))) (l_need_column : K.lookup f_need_column = some ⟨oc_need_column, od_need_column, .func (PySem.W.fnOf "need_column" "need_column" (defArgs S_need_column) (defBody S_need_column) (defScope S_need_column) .none kV_need_column dc_need_column pm_need_column an_need_column cd_need_column ct_need_column), sl_need_column⟩) (c_need_column : PySem.W.codeIn K cd_need_column "need_column" = true) (k_need_column : PySem.W.keepIn K (.ref f_need_column) = true)
    (a_need_op : PySem.W.nsIn K mainGlobals "need_op" = some (some (.ref f_need_op))) (l_need_op : K.lookup f_need_op = some ⟨oc_need_op, od_need_op, .func (PySem.W.fnOf "need_op" "need_op" (defArgs S_need_op) (defBody S_need_op) (defScope S_need_op) .none kV_need_op dc_need_op pm_need_op an_need_op cd_need_op ct_need_op), sl_need_op⟩) (c_need_op : PySem.W.codeIn K cd_need_op "need_op" = true) (k_need_op : PySem.W.keepIn K (.ref f_need_op) = true)
    (a_need_values : PySem.W.nsIn K mainGlobals "need_values" = some (some (.ref f_need_values))) (l_need_values : K.lookup f_need_values = some ⟨oc_need_values, od_need_values, .func (PySem.W.fnOf "need_values" "need_values" (defArgs S_need_values) (defBody S_need_values) (defScope S_need_values) .none kV_need_values dc_need_values pm_need_values an_need_values cd_need_values ct_need_values), sl_need_values⟩) (c_need_values : PySem.W.codeIn K cd_need_values "need_values" = true) (k_need_values : PySem.W.keepIn K (.ref f_need_values) = true)
    (a_compare : PySem.W.nsIn K mainGlobals "compare" = some (some (.ref f_compare))) (l_compare : K.lookup f_compare = some ⟨oc_compare, od_compare, .func (PySem.W.fnOf "compare" "compare" (defArgs S_compare) (defBody S_compare) (defScope S_compare) .none kV_compare dc_compare pm_compare an_compare cd_compare ct_compare), sl_compare⟩) (c_compare : PySem.W.codeIn K cd_compare "compare" = true) (k_compare : PySem.W.keepIn K (.ref f_compare) = true)
    {kD_against : Addr} {kt_against : Tok}
    (a_against : PySem.W.nsIn K mainGlobals "against" = some (some (.ref f_against))) (l_against : K.lookup f_against = some ⟨oc_against, od_against, .func (PySem.W.fnOf "against" "against" (defArgs S_against) (defBody S_against) (defScope S_against) .none (.ref kD_against) dc_against pm_against an_against cd_against ct_against), sl_against⟩) (c_against : PySem.W.codeIn K cd_against "against" = true) (k_against : PySem.W.keepIn K (.ref f_against) = true)
    (kn_against : PySem.W.nsIn K kD_against "more" = some (some (.int 0 kt_against)))
    (a_among : PySem.W.nsIn K mainGlobals "among" = some (some (.ref f_among))) (l_among : K.lookup f_among = some ⟨oc_among, od_among, .func (PySem.W.fnOf "among" "among" (defArgs S_among) (defBody S_among) (defScope S_among) .none kV_among dc_among pm_among an_among cd_among ct_among), sl_among⟩) (c_among : PySem.W.codeIn K cd_among "among" = true) (k_among : PySem.W.keepIn K (.ref f_among) = true)
    (a_begins : PySem.W.nsIn K mainGlobals "begins" = some (some (.ref f_begins))) (l_begins : K.lookup f_begins = some ⟨oc_begins, od_begins, .func (PySem.W.fnOf "begins" "begins" (defArgs S_begins) (defBody S_begins) (defScope S_begins) .none kV_begins dc_begins pm_begins an_begins cd_begins ct_begins), sl_begins⟩) (c_begins : PySem.W.codeIn K cd_begins "begins" = true) (k_begins : PySem.W.keepIn K (.ref f_begins) = true)
    (a_empty : PySem.W.nsIn K mainGlobals "empty" = some (some (.ref f_empty))) (l_empty : K.lookup f_empty = some ⟨oc_empty, od_empty, .func (PySem.W.fnOf "empty" "empty" (defArgs S_empty) (defBody S_empty) (defScope S_empty) .none kV_empty dc_empty pm_empty an_empty cd_empty ct_empty), sl_empty⟩) (c_empty : PySem.W.codeIn K cd_empty "empty" = true) (k_empty : PySem.W.keepIn K (.ref f_empty) = true)
    (a_always : PySem.W.nsIn K mainGlobals "always" = some (some (.ref f_always))) (l_always : K.lookup f_always = some ⟨oc_always, od_always, .func (PySem.W.fnOf "always" "always" (defArgs S_always) (defBody S_always) (defScope S_always) .none kV_always dc_always pm_always an_always cd_always ct_always), sl_always⟩) (c_always : PySem.W.codeIn K cd_always "always" = true) (k_always : PySem.W.keepIn K (.ref f_always) = true)
    (a_never : PySem.W.nsIn K mainGlobals "never" = some (some (.ref f_never))) (l_never : K.lookup f_never = some ⟨oc_never, od_never, .func (PySem.W.fnOf "never" "never" (defArgs S_never) (defBody S_never) (defScope S_never) .none kV_never dc_never pm_never an_never cd_never ct_never), sl_never⟩) (c_never : PySem.W.codeIn K cd_never "never" = true) (k_never : PySem.W.keepIn K (.ref f_never) = true)
    (a_sure : PySem.W.nsIn K mainGlobals "sure" = some (some (.ref f_sure))) (l_sure : K.lookup f_sure = some ⟨oc_sure, od_sure, .func (PySem.W.fnOf "sure" "sure" (defArgs S_sure) (defBody S_sure) (defScope S_sure) .none kV_sure dc_sure pm_sure an_sure cd_sure ct_sure), sl_sure⟩) (c_sure : PySem.W.codeIn K cd_sure "sure" = true) (k_sure : PySem.W.keepIn K (.ref f_sure) = true)
    (a_is_short : PySem.W.nsIn K mainGlobals "is_short" = some (some (.ref f_is_short))) (l_is_short : K.lookup f_is_short = some ⟨oc_is_short, od_is_short, .func (PySem.W.fnOf "is_short" "is_short" (defArgs S_is_short) (defBody S_is_short) (defScope S_is_short) .none kV_is_short dc_is_short pm_is_short an_is_short cd_is_short ct_is_short), sl_is_short⟩) (c_is_short : PySem.W.codeIn K cd_is_short "is_short" = true) (k_is_short : PySem.W.keepIn K (.ref f_is_short) = true)
    (a_are_names : PySem.W.nsIn K mainGlobals "are_names" = some (some (.ref f_are_names))) (l_are_names : K.lookup f_are_names = some ⟨oc_are_names, od_are_names, .func (PySem.W.fnOf "are_names" "are_names" (defArgs S_are_names) (defBody S_are_names) (defScope S_are_names) .none kV_are_names dc_are_names pm_are_names an_are_names cd_are_names ct_are_names), sl_are_names⟩) (c_are_names : PySem.W.codeIn K cd_are_names "are_names" = true) (k_are_names : PySem.W.keepIn K (.ref f_are_names) = true)
    (a_is_part : PySem.W.nsIn K mainGlobals "is_part" = some (some (.ref f_is_part))) (l_is_part : K.lookup f_is_part = some ⟨oc_is_part, od_is_part, .func (PySem.W.fnOf "is_part" "is_part" (defArgs S_is_part) (defBody S_is_part) (defScope S_is_part) .none kV_is_part dc_is_part pm_is_part an_is_part cd_is_part ct_is_part), sl_is_part⟩) (c_is_part : PySem.W.codeIn K cd_is_part "is_part" = true) (k_is_part : PySem.W.keepIn K (.ref f_is_part) = true)
    (a_need_order : PySem.W.nsIn K mainGlobals "need_order" = some (some (.ref f_need_order))) (l_need_order : K.lookup f_need_order = some ⟨oc_need_order, od_need_order, .func (PySem.W.fnOf "need_order" "need_order" (defArgs S_need_order) (defBody S_need_order) (defScope S_need_order) .none kV_need_order dc_need_order pm_need_order an_need_order cd_need_order ct_need_order), sl_need_order⟩) (c_need_order : PySem.W.codeIn K cd_need_order "need_order" = true) (k_need_order : PySem.W.keepIn K (.ref f_need_order) = true)
    (a_turned : PySem.W.nsIn K mainGlobals "turned" = some (some (.ref f_turned))) (l_turned : K.lookup f_turned = some ⟨oc_turned, od_turned, .func (PySem.W.fnOf "turned" "turned" (defArgs S_turned) (defBody S_turned) (defScope S_turned) .none kV_turned dc_turned pm_turned an_turned cd_turned ct_turned), sl_turned⟩) (c_turned : PySem.W.codeIn K cd_turned "turned" = true) (k_turned : PySem.W.keepIn K (.ref f_turned) = true)
    (a_Plan_init : PySem.W.findIn K (.ref c_Plan) "__init__" = some (some (.ref f_Plan_init))) (i_Plan_init : PySem.W.isFn K (.ref f_Plan_init) = true) (l_Plan_init : K.lookup f_Plan_init = some ⟨oc_Plan_init, od_Plan_init, .func (PySem.W.fnOf "__init__" "Plan.__init__" (defArgs S_Plan_init) (defBody S_Plan_init) (defScope S_Plan_init) .none kV_Plan_init dc_Plan_init pm_Plan_init an_Plan_init cd_Plan_init ct_Plan_init), sl_Plan_init⟩) (c_Plan_init : PySem.W.codeIn K cd_Plan_init "Plan.__init__" = true) (k_Plan_init : PySem.W.keepIn K (.ref f_Plan_init) = true)
    (a_Plan_steps : PySem.W.findIn K (.ref c_Plan) "steps" = some (some (.ref f_Plan_steps))) (i_Plan_steps : PySem.W.isFn K (.ref f_Plan_steps) = true) (l_Plan_steps : K.lookup f_Plan_steps = some ⟨oc_Plan_steps, od_Plan_steps, .func (PySem.W.fnOf "steps" "Plan.steps" (defArgs S_Plan_steps) (defBody S_Plan_steps) (defScope S_Plan_steps) .none kV_Plan_steps dc_Plan_steps pm_Plan_steps an_Plan_steps cd_Plan_steps ct_Plan_steps), sl_Plan_steps⟩) (c_Plan_steps : PySem.W.codeIn K cd_Plan_steps "Plan.steps" = true) (k_Plan_steps : PySem.W.keepIn K (.ref f_Plan_steps) = true)
    (a_is_step : PySem.W.nsIn K mainGlobals "is_step" = some (some (.ref f_is_step))) (l_is_step : K.lookup f_is_step = some ⟨oc_is_step, od_is_step, .func (PySem.W.fnOf "is_step" "is_step" (defArgs S_is_step) (defBody S_is_step) (defScope S_is_step) .none kV_is_step dc_is_step pm_is_step an_is_step cd_is_step ct_is_step), sl_is_step⟩) (c_is_step : PySem.W.codeIn K cd_is_step "is_step" = true) (k_is_step : PySem.W.keepIn K (.ref f_is_step) = true)
    (a_is_order : PySem.W.nsIn K mainGlobals "is_order" = some (some (.ref f_is_order))) (l_is_order : K.lookup f_is_order = some ⟨oc_is_order, od_is_order, .func (PySem.W.fnOf "is_order" "is_order" (defArgs S_is_order) (defBody S_is_order) (defScope S_is_order) .none kV_is_order dc_is_order pm_is_order an_is_order cd_is_order ct_is_order), sl_is_order⟩) (c_is_order : PySem.W.codeIn K cd_is_order "is_order" = true) (k_is_order : PySem.W.keepIn K (.ref f_is_order) = true)
    (a_step_of : PySem.W.nsIn K mainGlobals "step_of" = some (some (.ref f_step_of))) (l_step_of : K.lookup f_step_of = some ⟨oc_step_of, od_step_of, .func (PySem.W.fnOf "step_of" "step_of" (defArgs S_step_of) (defBody S_step_of) (defScope S_step_of) .none kV_step_of dc_step_of pm_step_of an_step_of cd_step_of ct_step_of), sl_step_of⟩) (c_step_of : PySem.W.codeIn K cd_step_of "step_of" = true) (k_step_of : PySem.W.keepIn K (.ref f_step_of) = true)
    (a_columns_of_order : PySem.W.nsIn K mainGlobals "columns_of_order" = some (some (.ref f_columns_of_order))) (l_columns_of_order : K.lookup f_columns_of_order = some ⟨oc_columns_of_order, od_columns_of_order, .func (PySem.W.fnOf "columns_of_order" "columns_of_order" (defArgs S_columns_of_order) (defBody S_columns_of_order) (defScope S_columns_of_order) .none kV_columns_of_order dc_columns_of_order pm_columns_of_order an_columns_of_order cd_columns_of_order ct_columns_of_order), sl_columns_of_order⟩) (c_columns_of_order : PySem.W.codeIn K cd_columns_of_order "columns_of_order" = true) (k_columns_of_order : PySem.W.keepIn K (.ref f_columns_of_order) = true)
    (a_standing_order : PySem.W.nsIn K mainGlobals "standing_order" = some (some (.ref f_standing_order))) (l_standing_order : K.lookup f_standing_order = some ⟨oc_standing_order, od_standing_order, .func (PySem.W.fnOf "standing_order" "standing_order" (defArgs S_standing_order) (defBody S_standing_order) (defScope S_standing_order) .none kV_standing_order dc_standing_order pm_standing_order an_standing_order cd_standing_order ct_standing_order), sl_standing_order⟩) (c_standing_order : PySem.W.codeIn K cd_standing_order "standing_order" = true) (k_standing_order : PySem.W.keepIn K (.ref f_standing_order) = true)
    (a__law_pool : PySem.W.nsIn K mainGlobals "_law_pool" = some (some (.ref f__law_pool))) (l__law_pool : K.lookup f__law_pool = some ⟨oc__law_pool, od__law_pool, .func (PySem.W.fnOf "_law_pool" "_law_pool" (defArgs S__law_pool) (defBody S__law_pool) (defScope S__law_pool) .none kV__law_pool dc__law_pool pm__law_pool an__law_pool cd__law_pool ct__law_pool), sl__law_pool⟩) (c__law_pool : PySem.W.codeIn K cd__law_pool "_law_pool" = true) (k__law_pool : PySem.W.keepIn K (.ref f__law_pool) = true)
    (a__law_draw : PySem.W.nsIn K mainGlobals "_law_draw" = some (some (.ref f__law_draw))) (l__law_draw : K.lookup f__law_draw = some ⟨oc__law_draw, od__law_draw, .func (PySem.W.fnOf "_law_draw" "_law_draw" (defArgs S__law_draw) (defBody S__law_draw) (defScope S__law_draw) .none kV__law_draw dc__law_draw pm__law_draw an__law_draw cd__law_draw ct__law_draw), sl__law_draw⟩) (c__law_draw : PySem.W.codeIn K cd__law_draw "_law_draw" = true) (k__law_draw : PySem.W.keepIn K (.ref f__law_draw) = true)
    (a__law_value : PySem.W.nsIn K mainGlobals "_law_value" = some (some (.ref f__law_value))) (l__law_value : K.lookup f__law_value = some ⟨oc__law_value, od__law_value, .func (PySem.W.fnOf "_law_value" "_law_value" (defArgs S__law_value) (defBody S__law_value) (defScope S__law_value) .none kV__law_value dc__law_value pm__law_value an__law_value cd__law_value ct__law_value), sl__law_value⟩) (c__law_value : PySem.W.codeIn K cd__law_value "_law_value" = true) (k__law_value : PySem.W.keepIn K (.ref f__law_value) = true)
    (a__law_name : PySem.W.nsIn K mainGlobals "_law_name" = some (some (.ref f__law_name))) (l__law_name : K.lookup f__law_name = some ⟨oc__law_name, od__law_name, .func (PySem.W.fnOf "_law_name" "_law_name" (defArgs S__law_name) (defBody S__law_name) (defScope S__law_name) .none kV__law_name dc__law_name pm__law_name an__law_name cd__law_name ct__law_name), sl__law_name⟩) (c__law_name : PySem.W.codeIn K cd__law_name "_law_name" = true) (k__law_name : PySem.W.keepIn K (.ref f__law_name) = true)
    (a__law_columns : PySem.W.nsIn K mainGlobals "_law_columns" = some (some (.ref f__law_columns))) (l__law_columns : K.lookup f__law_columns = some ⟨oc__law_columns, od__law_columns, .func (PySem.W.fnOf "_law_columns" "_law_columns" (defArgs S__law_columns) (defBody S__law_columns) (defScope S__law_columns) .none kV__law_columns dc__law_columns pm__law_columns an__law_columns cd__law_columns ct__law_columns), sl__law_columns⟩) (c__law_columns : PySem.W.codeIn K cd__law_columns "_law_columns" = true) (k__law_columns : PySem.W.keepIn K (.ref f__law_columns) = true)
    (a__law_atom : PySem.W.nsIn K mainGlobals "_law_atom" = some (some (.ref f__law_atom))) (l__law_atom : K.lookup f__law_atom = some ⟨oc__law_atom, od__law_atom, .func (PySem.W.fnOf "_law_atom" "_law_atom" (defArgs S__law_atom) (defBody S__law_atom) (defScope S__law_atom) .none kV__law_atom dc__law_atom pm__law_atom an__law_atom cd__law_atom ct__law_atom), sl__law_atom⟩) (c__law_atom : PySem.W.codeIn K cd__law_atom "_law_atom" = true) (k__law_atom : PySem.W.keepIn K (.ref f__law_atom) = true)
    (a__law_make : PySem.W.nsIn K mainGlobals "_law_make" = some (some (.ref f__law_make))) (l__law_make : K.lookup f__law_make = some ⟨oc__law_make, od__law_make, .func (PySem.W.fnOf "_law_make" "_law_make" (defArgs S__law_make) (defBody S__law_make) (defScope S__law_make) .none kV__law_make dc__law_make pm__law_make an__law_make cd__law_make ct__law_make), sl__law_make⟩) (c__law_make : PySem.W.codeIn K cd__law_make "_law_make" = true) (k__law_make : PySem.W.keepIn K (.ref f__law_make) = true)
    (a__law_order : PySem.W.nsIn K mainGlobals "_law_order" = some (some (.ref f__law_order))) (l__law_order : K.lookup f__law_order = some ⟨oc__law_order, od__law_order, .func (PySem.W.fnOf "_law_order" "_law_order" (defArgs S__law_order) (defBody S__law_order) (defScope S__law_order) .none kV__law_order dc__law_order pm__law_order an__law_order cd__law_order ct__law_order), sl__law_order⟩) (c__law_order : PySem.W.codeIn K cd__law_order "_law_order" = true) (k__law_order : PySem.W.keepIn K (.ref f__law_order) = true)
    (a__law_step : PySem.W.nsIn K mainGlobals "_law_step" = some (some (.ref f__law_step))) (l__law_step : K.lookup f__law_step = some ⟨oc__law_step, od__law_step, .func (PySem.W.fnOf "_law_step" "_law_step" (defArgs S__law_step) (defBody S__law_step) (defScope S__law_step) .none kV__law_step dc__law_step pm__law_step an__law_step cd__law_step ct__law_step), sl__law_step⟩) (c__law_step : PySem.W.codeIn K cd__law_step "_law_step" = true) (k__law_step : PySem.W.keepIn K (.ref f__law_step) = true)
    (a__law_made_step : PySem.W.nsIn K mainGlobals "_law_made_step" = some (some (.ref f__law_made_step))) (l__law_made_step : K.lookup f__law_made_step = some ⟨oc__law_made_step, od__law_made_step, .func (PySem.W.fnOf "_law_made_step" "_law_made_step" (defArgs S__law_made_step) (defBody S__law_made_step) (defScope S__law_made_step) .none kV__law_made_step dc__law_made_step pm__law_made_step an__law_made_step cd__law_made_step ct__law_made_step), sl__law_made_step⟩) (c__law_made_step : PySem.W.codeIn K cd__law_made_step "_law_made_step" = true) (k__law_made_step : PySem.W.keepIn K (.ref f__law_made_step) = true)
    (a__law_planned : PySem.W.nsIn K mainGlobals "_law_planned" = some (some (.ref f__law_planned))) (l__law_planned : K.lookup f__law_planned = some ⟨oc__law_planned, od__law_planned, .func (PySem.W.fnOf "_law_planned" "_law_planned" (defArgs S__law_planned) (defBody S__law_planned) (defScope S__law_planned) .none kV__law_planned dc__law_planned pm__law_planned an__law_planned cd__law_planned ct__law_planned), sl__law_planned⟩) (c__law_planned : PySem.W.codeIn K cd__law_planned "_law_planned" = true) (k__law_planned : PySem.W.keepIn K (.ref f__law_planned) = true)
    (a__law_standing : PySem.W.nsIn K mainGlobals "_law_standing" = some (some (.ref f__law_standing))) (l__law_standing : K.lookup f__law_standing = some ⟨oc__law_standing, od__law_standing, .func (PySem.W.fnOf "_law_standing" "_law_standing" (defArgs S__law_standing) (defBody S__law_standing) (defScope S__law_standing) .none kV__law_standing dc__law_standing pm__law_standing an__law_standing cd__law_standing ct__law_standing), sl__law_standing⟩) (c__law_standing : PySem.W.codeIn K cd__law_standing "_law_standing" = true) (k__law_standing : PySem.W.keepIn K (.ref f__law_standing) = true)
    (a_law : PySem.W.nsIn K mainGlobals "law" = some (some (.ref f_law))) (l_law : K.lookup f_law = some ⟨oc_law, od_law, .func (PySem.W.fnOf "law" "law" (defArgs S_law) (defBody S_law) (defScope S_law) .none kV_law dc_law pm_law an_law cd_law ct_law), sl_law⟩) (c_law : PySem.W.codeIn K cd_law "law" = true) (k_law : PySem.W.keepIn K (.ref f_law) = true)
    (z_isinstance : PySem.W.nsIn K mainGlobals "isinstance" = some none)
    (z_int : PySem.W.nsIn K mainGlobals "int" = some none)
    (z_bool : PySem.W.nsIn K mainGlobals "bool" = some none)
    (z_list : PySem.W.nsIn K mainGlobals "list" = some none)
    (z_tuple : PySem.W.nsIn K mainGlobals "tuple" = some none)
    (z_str : PySem.W.nsIn K mainGlobals "str" = some none)
    (z_len : PySem.W.nsIn K mainGlobals "len" = some none)
    (z_all : PySem.W.nsIn K mainGlobals "all" = some none)
    (z_sum : PySem.W.nsIn K mainGlobals "sum" = some none)
    (z_set : PySem.W.nsIn K mainGlobals "set" = some none)
    (z_enumerate : PySem.W.nsIn K mainGlobals "enumerate" = some none)
    (z_range : PySem.W.nsIn K mainGlobals "range" = some none)
    {t_SIGNS : Tok} (g_SIGNS : PySem.W.nsIn K mainGlobals "SIGNS" = some (some (.str C_SIGNS t_SIGNS)))
    {t_LONGEST_NAME : Tok} (g_LONGEST_NAME : PySem.W.nsIn K mainGlobals "LONGEST_NAME" = some (some (.int 8 t_LONGEST_NAME)))
    {t_LETTERS : Tok} (g_LETTERS : PySem.W.nsIn K mainGlobals "LETTERS" = some (some (.str C_LETTERS t_LETTERS)))
    {ca_WORDS : Addr} {co_WORDS : Obj} {ci_WORDS : Array Value} {cn_WORDS : Nat} (g_WORDS : PySem.W.nsIn K mainGlobals "WORDS" = some (some (.ref ca_WORDS))) (gl_WORDS : K.lookup ca_WORDS = some co_WORDS) (gc_WORDS : co_WORDS.cls = .type "tuple") (gd_WORDS : co_WORDS.data = .seq ci_WORDS cn_WORDS) (gs_WORDS : ci_WORDS.size ≤ sizeLine) (gv_WORDS : Vals C_WORDS ci_WORDS.toList)
    {t_NAME_SIGNS : Tok} (g_NAME_SIGNS : PySem.W.nsIn K mainGlobals "NAME_SIGNS" = some (some (.str C_NAME_SIGNS t_NAME_SIGNS)))
    {t_MOST_ATOMS : Tok} (g_MOST_ATOMS : PySem.W.nsIn K mainGlobals "MOST_ATOMS" = some (some (.int 24 t_MOST_ATOMS)))
    {t_MOST_LEVELS : Tok} (g_MOST_LEVELS : PySem.W.nsIn K mainGlobals "MOST_LEVELS" = some (some (.int 12 t_MOST_LEVELS)))
    {ca_OPS : Addr} {co_OPS : Obj} {ci_OPS : Array Value} {cn_OPS : Nat} (g_OPS : PySem.W.nsIn K mainGlobals "OPS" = some (some (.ref ca_OPS))) (gl_OPS : K.lookup ca_OPS = some co_OPS) (gc_OPS : co_OPS.cls = .type "tuple") (gd_OPS : co_OPS.data = .seq ci_OPS cn_OPS) (gs_OPS : ci_OPS.size ≤ sizeLine) (gv_OPS : Vals C_OPS ci_OPS.toList)
    {t_MOST_VALUES : Tok} (g_MOST_VALUES : PySem.W.nsIn K mainGlobals "MOST_VALUES" = some (some (.int 8 t_MOST_VALUES)))
    {ca_DIRECTIONS : Addr} {co_DIRECTIONS : Obj} {ci_DIRECTIONS : Array Value} {cn_DIRECTIONS : Nat} (g_DIRECTIONS : PySem.W.nsIn K mainGlobals "DIRECTIONS" = some (some (.ref ca_DIRECTIONS))) (gl_DIRECTIONS : K.lookup ca_DIRECTIONS = some co_DIRECTIONS) (gc_DIRECTIONS : co_DIRECTIONS.cls = .type "tuple") (gd_DIRECTIONS : co_DIRECTIONS.data = .seq ci_DIRECTIONS cn_DIRECTIONS) (gs_DIRECTIONS : ci_DIRECTIONS.size ≤ sizeLine) (gv_DIRECTIONS : Vals C_DIRECTIONS ci_DIRECTIONS.toList)
    {t_MOST_PARTS : Tok} (g_MOST_PARTS : PySem.W.nsIn K mainGlobals "MOST_PARTS" = some (some (.int 3 t_MOST_PARTS)))
    {t_MOST_STEPS : Tok} (g_MOST_STEPS : PySem.W.nsIn K mainGlobals "MOST_STEPS" = some (some (.int 5 t_MOST_STEPS)))
    {dt_STEP_SIZES : Addr} {de_STEP_SIZES : Array DictEntry} {dn_STEP_SIZES : Nat} (g_STEP_SIZES : PySem.W.nsIn K mainGlobals "STEP_SIZES" = some (some (.ref dt_STEP_SIZES))) (kd_STEP_SIZES : K.lookup dt_STEP_SIZES = some ⟨.type "dict", none, .dict de_STEP_SIZES dn_STEP_SIZES, #[]⟩) (kt_STEP_SIZES : de_STEP_SIZES.toList.map He.keyOf = He.keysIn w.params ["keep", "sort", "distinct", "first", "flip"]) (km_STEP_SIZES : (dt_STEP_SIZES == sysModules) = false)
    {tk0_STEP_SIZES : Tok} (ki0_STEP_SIZES : PySem.W.nsIn K dt_STEP_SIZES "keep" = some (some (.int 2 tk0_STEP_SIZES)))
    {tk1_STEP_SIZES : Tok} (ki1_STEP_SIZES : PySem.W.nsIn K dt_STEP_SIZES "sort" = some (some (.int 2 tk1_STEP_SIZES)))
    {tk2_STEP_SIZES : Tok} (ki2_STEP_SIZES : PySem.W.nsIn K dt_STEP_SIZES "distinct" = some (some (.int 2 tk2_STEP_SIZES)))
    {tk3_STEP_SIZES : Tok} (ki3_STEP_SIZES : PySem.W.nsIn K dt_STEP_SIZES "first" = some (some (.int 1 tk3_STEP_SIZES)))
    {tk4_STEP_SIZES : Tok} (ki4_STEP_SIZES : PySem.W.nsIn K dt_STEP_SIZES "flip" = some (some (.int 1 tk4_STEP_SIZES)))
    : ∃ fd : FuncData, (∀ (s : Shared) (v : Value), BindsTo s fd ⟨[v], []⟩ [("_law_script", v)]) ∧ ∀ base : Heap, K.In base → base.Ns mainGlobals mg → FnOk l.prog w K mg base CX0 13 fa fd ["_law_script"] (spLaw K) := by
  have e := hfa.symm.trans (PySem.W.mg_of X G a_law)
  cases e
  have hc_Test : cadr mg "Test" = c_Test := cadr_of (PySem.W.mg_of X G a_Test)
  have hc_Plan : cadr mg "Plan" = c_Plan := cadr_of (PySem.W.mg_of X G a_Plan)
  have T : TxtW w K mg := {
    h_isinstance := PySem.W.mg_none_of X G z_isinstance
    h_int := PySem.W.mg_none_of X G z_int
    h_bool := PySem.W.mg_none_of X G z_bool
    h_list := PySem.W.mg_none_of X G z_list
    h_tuple := PySem.W.mg_none_of X G z_tuple
    h_str := PySem.W.mg_none_of X G z_str
    h_len := PySem.W.mg_none_of X G z_len
    h_all := PySem.W.mg_none_of X G z_all
    h_sum := PySem.W.mg_none_of X G z_sum
    h_set := PySem.W.mg_none_of X G z_set
    h_enumerate := PySem.W.mg_none_of X G z_enumerate
    h_range := PySem.W.mg_none_of X G z_range
    d_is_integer := ⟨f_is_integer, _, fun_mk (st := S_is_integer) l_is_integer c_is_integer k_is_integer, PySem.W.mg_of X G a_is_integer, (fun_mk (st := S_is_integer) l_is_integer c_is_integer k_is_integer).binds (ps := ["thing"]) fun _ _ _ _ _ _ us hl => match us, hl with | [_], _ => rfl⟩
    d_is_sequence := ⟨f_is_sequence, _, fun_mk (st := S_is_sequence) l_is_sequence c_is_sequence k_is_sequence, PySem.W.mg_of X G a_is_sequence, (fun_mk (st := S_is_sequence) l_is_sequence c_is_sequence k_is_sequence).binds (ps := ["thing"]) fun _ _ _ _ _ _ us hl => match us, hl with | [_], _ => rfl⟩
    d_is_worded := ⟨f_is_worded, _, fun_mk (st := S_is_worded) l_is_worded c_is_worded k_is_worded, PySem.W.mg_of X G a_is_worded, (fun_mk (st := S_is_worded) l_is_worded c_is_worded k_is_worded).binds (ps := ["thing"]) fun _ _ _ _ _ _ us hl => match us, hl with | [_], _ => rfl⟩
    d_is_text := ⟨f_is_text, _, fun_mk (st := S_is_text) l_is_text c_is_text k_is_text, PySem.W.mg_of X G a_is_text, (fun_mk (st := S_is_text) l_is_text c_is_text k_is_text).binds (ps := ["thing"]) fun _ _ _ _ _ _ us hl => match us, hl with | [_], _ => rfl⟩
    d_is_name := ⟨f_is_name, _, fun_mk (st := S_is_name) l_is_name c_is_name k_is_name, PySem.W.mg_of X G a_is_name, (fun_mk (st := S_is_name) l_is_name c_is_name k_is_name).binds (ps := ["thing"]) fun _ _ _ _ _ _ us hl => match us, hl with | [_], _ => rfl⟩
    d_kind_of := ⟨f_kind_of, _, fun_mk (st := S_kind_of) l_kind_of c_kind_of k_kind_of, PySem.W.mg_of X G a_kind_of, (fun_mk (st := S_kind_of) l_kind_of c_kind_of k_kind_of).binds (ps := ["value"]) fun _ _ _ _ _ _ us hl => match us, hl with | [_], _ => rfl⟩
    d_Test_init := by rw [hc_Test]; exact ⟨f_Test_init, _, fun_mk (st := S_Test_init) l_Test_init c_Test_init k_Test_init, ⟨mk_Test, a_Test_init, i_Test_init, kc_Test⟩, (fun_mk (st := S_Test_init) l_Test_init c_Test_init k_Test_init).binds (ps := ["self", "word", "inner", "fields", "terms"]) fun _ _ _ _ _ _ us hl => match us, hl with | [_, _, _, _, _], _ => rfl⟩
    d_Test_and := by rw [hc_Test]; exact ⟨f_Test_and, _, fun_mk (st := S_Test_and) l_Test_and c_Test_and k_Test_and, ⟨a_Test_and, i_Test_and, k_Test_and⟩, (fun_mk (st := S_Test_and) l_Test_and c_Test_and k_Test_and).binds (ps := ["self", "other"]) fun _ _ _ _ _ _ us hl => match us, hl with | [_, _], _ => rfl⟩
    d_Test_or := by rw [hc_Test]; exact ⟨f_Test_or, _, fun_mk (st := S_Test_or) l_Test_or c_Test_or k_Test_or, ⟨a_Test_or, i_Test_or, k_Test_or⟩, (fun_mk (st := S_Test_or) l_Test_or c_Test_or k_Test_or).binds (ps := ["self", "other"]) fun _ _ _ _ _ _ us hl => match us, hl with | [_, _], _ => rfl⟩
    d_Test_invert := by rw [hc_Test]; exact ⟨f_Test_invert, _, fun_mk (st := S_Test_invert) l_Test_invert c_Test_invert k_Test_invert, ⟨a_Test_invert, i_Test_invert, k_Test_invert⟩, (fun_mk (st := S_Test_invert) l_Test_invert c_Test_invert k_Test_invert).binds (ps := ["self"]) fun _ _ _ _ _ _ us hl => match us, hl with | [_], _ => rfl⟩
    d_size_of := ⟨f_size_of, _, fun_mk (st := S_size_of) l_size_of c_size_of k_size_of, PySem.W.mg_of X G a_size_of, (fun_mk (st := S_size_of) l_size_of c_size_of k_size_of).binds (ps := ["inner"]) fun _ _ _ _ _ _ us hl => match us, hl with | [_], _ => rfl⟩
    d_depth_of := ⟨f_depth_of, _, fun_mk (st := S_depth_of) l_depth_of c_depth_of k_depth_of, PySem.W.mg_of X G a_depth_of, (fun_mk (st := S_depth_of) l_depth_of c_depth_of k_depth_of).binds (ps := ["inner"]) fun _ _ _ _ _ _ us hl => match us, hl with | [_], _ => rfl⟩
    d_combined := ⟨f_combined, _, fun_mk (st := S_combined) l_combined c_combined k_combined, PySem.W.mg_of X G a_combined, (fun_mk (st := S_combined) l_combined c_combined k_combined).binds (ps := ["word", "inner"]) fun _ _ _ _ _ _ us hl => match us, hl with | [_, _], _ => rfl⟩
    d_need_column := ⟨f_need_column, _, fun_mk (st := S_need_column) l_need_column c_need_column k_need_column, PySem.W.mg_of X G a_need_column, (fun_mk (st := S_need_column) l_need_column c_need_column k_need_column).binds (ps := ["thing"]) fun _ _ _ _ _ _ us hl => match us, hl with | [_], _ => rfl⟩
    d_need_op := ⟨f_need_op, _, fun_mk (st := S_need_op) l_need_op c_need_op k_need_op, PySem.W.mg_of X G a_need_op, (fun_mk (st := S_need_op) l_need_op c_need_op k_need_op).binds (ps := ["thing"]) fun _ _ _ _ _ _ us hl => match us, hl with | [_], _ => rfl⟩
    d_need_values := ⟨f_need_values, _, fun_mk (st := S_need_values) l_need_values c_need_values k_need_values, PySem.W.mg_of X G a_need_values, (fun_mk (st := S_need_values) l_need_values c_need_values k_need_values).binds (ps := ["thing"]) fun _ _ _ _ _ _ us hl => match us, hl with | [_], _ => rfl⟩
    d_compare := ⟨f_compare, _, fun_mk (st := S_compare) l_compare c_compare k_compare, PySem.W.mg_of X G a_compare, (fun_mk (st := S_compare) l_compare c_compare k_compare).binds (ps := ["column", "op", "value"]) fun _ _ _ _ _ _ us hl => match us, hl with | [_, _, _], _ => rfl⟩
    d_against := ⟨f_against, _, fun_mk (st := S_against) l_against c_against k_against, PySem.W.mg_of X G a_against, kw_bd rfl kn_against (fun us hl u => match us, hl with | [_, _, _], _ => ⟨_, _, _, _, _, _, rfl, rfl, rfl⟩), kw_kb (fun us hl u => match us, hl with | [_, _, _], _ => rfl)⟩
    d_among := ⟨f_among, _, fun_mk (st := S_among) l_among c_among k_among, PySem.W.mg_of X G a_among, (fun_mk (st := S_among) l_among c_among k_among).binds (ps := ["column", "values"]) fun _ _ _ _ _ _ us hl => match us, hl with | [_, _], _ => rfl⟩
    d_begins := ⟨f_begins, _, fun_mk (st := S_begins) l_begins c_begins k_begins, PySem.W.mg_of X G a_begins, (fun_mk (st := S_begins) l_begins c_begins k_begins).binds (ps := ["column", "prefix"]) fun _ _ _ _ _ _ us hl => match us, hl with | [_, _], _ => rfl⟩
    d_empty := ⟨f_empty, _, fun_mk (st := S_empty) l_empty c_empty k_empty, PySem.W.mg_of X G a_empty, (fun_mk (st := S_empty) l_empty c_empty k_empty).binds (ps := ["column"]) fun _ _ _ _ _ _ us hl => match us, hl with | [_], _ => rfl⟩
    d_always := ⟨f_always, _, fun_mk (st := S_always) l_always c_always k_always, PySem.W.mg_of X G a_always, (fun_mk (st := S_always) l_always c_always k_always).binds (ps := []) fun _ _ _ _ _ _ us hl => match us, hl with | [], _ => rfl⟩
    d_never := ⟨f_never, _, fun_mk (st := S_never) l_never c_never k_never, PySem.W.mg_of X G a_never, (fun_mk (st := S_never) l_never c_never k_never).binds (ps := []) fun _ _ _ _ _ _ us hl => match us, hl with | [], _ => rfl⟩
    d_sure := ⟨f_sure, _, fun_mk (st := S_sure) l_sure c_sure k_sure, PySem.W.mg_of X G a_sure, (fun_mk (st := S_sure) l_sure c_sure k_sure).binds (ps := ["test"]) fun _ _ _ _ _ _ us hl => match us, hl with | [_], _ => rfl⟩
    d_is_short := ⟨f_is_short, _, fun_mk (st := S_is_short) l_is_short c_is_short k_is_short, PySem.W.mg_of X G a_is_short, (fun_mk (st := S_is_short) l_is_short c_is_short k_is_short).binds (ps := ["thing", "least", "most"]) fun _ _ _ _ _ _ us hl => match us, hl with | [_, _, _], _ => rfl⟩
    d_are_names := ⟨f_are_names, _, fun_mk (st := S_are_names) l_are_names c_are_names k_are_names, PySem.W.mg_of X G a_are_names, (fun_mk (st := S_are_names) l_are_names c_are_names k_are_names).binds (ps := ["thing", "least", "most"]) fun _ _ _ _ _ _ us hl => match us, hl with | [_, _, _], _ => rfl⟩
    d_is_part := ⟨f_is_part, _, fun_mk (st := S_is_part) l_is_part c_is_part k_is_part, PySem.W.mg_of X G a_is_part, (fun_mk (st := S_is_part) l_is_part c_is_part k_is_part).binds (ps := ["thing"]) fun _ _ _ _ _ _ us hl => match us, hl with | [_], _ => rfl⟩
    d_need_order := ⟨f_need_order, _, fun_mk (st := S_need_order) l_need_order c_need_order k_need_order, PySem.W.mg_of X G a_need_order, (fun_mk (st := S_need_order) l_need_order c_need_order k_need_order).binds (ps := ["thing"]) fun _ _ _ _ _ _ us hl => match us, hl with | [_], _ => rfl⟩
    d_turned := ⟨f_turned, _, fun_mk (st := S_turned) l_turned c_turned k_turned, PySem.W.mg_of X G a_turned, (fun_mk (st := S_turned) l_turned c_turned k_turned).binds (ps := ["order"]) fun _ _ _ _ _ _ us hl => match us, hl with | [_], _ => rfl⟩
    d_Plan_init := by rw [hc_Plan]; exact ⟨f_Plan_init, _, fun_mk (st := S_Plan_init) l_Plan_init c_Plan_init k_Plan_init, ⟨mk_Plan, a_Plan_init, i_Plan_init, kc_Plan⟩, (fun_mk (st := S_Plan_init) l_Plan_init c_Plan_init k_Plan_init).binds (ps := ["self", "steps"]) fun _ _ _ _ _ _ us hl => match us, hl with | [_, _], _ => rfl⟩
    d_Plan_steps := by rw [hc_Plan]; exact ⟨f_Plan_steps, _, fun_mk (st := S_Plan_steps) l_Plan_steps c_Plan_steps k_Plan_steps, ⟨a_Plan_steps, i_Plan_steps, k_Plan_steps⟩, (fun_mk (st := S_Plan_steps) l_Plan_steps c_Plan_steps k_Plan_steps).binds (ps := ["self"]) fun _ _ _ _ _ _ us hl => match us, hl with | [_], _ => rfl⟩
    d_is_step := ⟨f_is_step, _, fun_mk (st := S_is_step) l_is_step c_is_step k_is_step, PySem.W.mg_of X G a_is_step, (fun_mk (st := S_is_step) l_is_step c_is_step k_is_step).binds (ps := ["thing"]) fun _ _ _ _ _ _ us hl => match us, hl with | [_], _ => rfl⟩
    d_is_order := ⟨f_is_order, _, fun_mk (st := S_is_order) l_is_order c_is_order k_is_order, PySem.W.mg_of X G a_is_order, (fun_mk (st := S_is_order) l_is_order c_is_order k_is_order).binds (ps := ["thing"]) fun _ _ _ _ _ _ us hl => match us, hl with | [_], _ => rfl⟩
    d_step_of := ⟨f_step_of, _, fun_mk (st := S_step_of) l_step_of c_step_of k_step_of, PySem.W.mg_of X G a_step_of, (fun_mk (st := S_step_of) l_step_of c_step_of k_step_of).binds (ps := ["step"]) fun _ _ _ _ _ _ us hl => match us, hl with | [_], _ => rfl⟩
    d_columns_of_order := ⟨f_columns_of_order, _, fun_mk (st := S_columns_of_order) l_columns_of_order c_columns_of_order k_columns_of_order, PySem.W.mg_of X G a_columns_of_order, (fun_mk (st := S_columns_of_order) l_columns_of_order c_columns_of_order k_columns_of_order).binds (ps := ["order"]) fun _ _ _ _ _ _ us hl => match us, hl with | [_], _ => rfl⟩
    d_standing_order := ⟨f_standing_order, _, fun_mk (st := S_standing_order) l_standing_order c_standing_order k_standing_order, PySem.W.mg_of X G a_standing_order, (fun_mk (st := S_standing_order) l_standing_order c_standing_order k_standing_order).binds (ps := ["plan", "i"]) fun _ _ _ _ _ _ us hl => match us, hl with | [_, _], _ => rfl⟩
    d__law_pool := ⟨f__law_pool, _, fun_mk (st := S__law_pool) l__law_pool c__law_pool k__law_pool, PySem.W.mg_of X G a__law_pool, (fun_mk (st := S__law_pool) l__law_pool c__law_pool k__law_pool).binds (ps := ["_law_script", "_law_place"]) fun _ _ _ _ _ _ us hl => match us, hl with | [_, _], _ => rfl⟩
    d__law_draw := ⟨f__law_draw, _, fun_mk (st := S__law_draw) l__law_draw c__law_draw k__law_draw, PySem.W.mg_of X G a__law_draw, (fun_mk (st := S__law_draw) l__law_draw c__law_draw k__law_draw).binds (ps := ["_law_pool_here", "_law_many"]) fun _ _ _ _ _ _ us hl => match us, hl with | [_, _], _ => rfl⟩
    d__law_value := ⟨f__law_value, _, fun_mk (st := S__law_value) l__law_value c__law_value k__law_value, PySem.W.mg_of X G a__law_value, (fun_mk (st := S__law_value) l__law_value c__law_value k__law_value).binds (ps := ["_law_pool_here", "_law_kind"]) fun _ _ _ _ _ _ us hl => match us, hl with | [_, _], _ => rfl⟩
    d__law_name := ⟨f__law_name, _, fun_mk (st := S__law_name) l__law_name c__law_name k__law_name, PySem.W.mg_of X G a__law_name, (fun_mk (st := S__law_name) l__law_name c__law_name k__law_name).binds (ps := ["_law_pool_here", "_law_taken"]) fun _ _ _ _ _ _ us hl => match us, hl with | [_, _], _ => rfl⟩
    d__law_columns := ⟨f__law_columns, _, fun_mk (st := S__law_columns) l__law_columns c__law_columns k__law_columns, PySem.W.mg_of X G a__law_columns, (fun_mk (st := S__law_columns) l__law_columns c__law_columns k__law_columns).binds (ps := ["_law_pool_here", "_law_most"]) fun _ _ _ _ _ _ us hl => match us, hl with | [_, _], _ => rfl⟩
    d__law_atom := ⟨f__law_atom, _, fun_mk (st := S__law_atom) l__law_atom c__law_atom k__law_atom, PySem.W.mg_of X G a__law_atom, (fun_mk (st := S__law_atom) l__law_atom c__law_atom k__law_atom).binds (ps := ["_law_pool_here", "_law_columns_here"]) fun _ _ _ _ _ _ us hl => match us, hl with | [_, _], _ => rfl⟩
    d__law_make := ⟨f__law_make, _, fun_mk (st := S__law_make) l__law_make c__law_make k__law_make, PySem.W.mg_of X G a__law_make, (fun_mk (st := S__law_make) l__law_make c__law_make k__law_make).binds (ps := ["_law_term"]) fun _ _ _ _ _ _ us hl => match us, hl with | [_], _ => rfl⟩
    d__law_order := ⟨f__law_order, _, fun_mk (st := S__law_order) l__law_order c__law_order k__law_order, PySem.W.mg_of X G a__law_order, (fun_mk (st := S__law_order) l__law_order c__law_order k__law_order).binds (ps := ["_law_pool_here", "_law_columns_here"]) fun _ _ _ _ _ _ us hl => match us, hl with | [_, _], _ => rfl⟩
    d__law_step := ⟨f__law_step, _, fun_mk (st := S__law_step) l__law_step c__law_step k__law_step, PySem.W.mg_of X G a__law_step, (fun_mk (st := S__law_step) l__law_step c__law_step k__law_step).binds (ps := ["_law_pool_here", "_law_columns_here"]) fun _ _ _ _ _ _ us hl => match us, hl with | [_, _], _ => rfl⟩
    d__law_made_step := ⟨f__law_made_step, _, fun_mk (st := S__law_made_step) l__law_made_step c__law_made_step k__law_made_step, PySem.W.mg_of X G a__law_made_step, (fun_mk (st := S__law_made_step) l__law_made_step c__law_made_step k__law_made_step).binds (ps := ["_law_step_here"]) fun _ _ _ _ _ _ us hl => match us, hl with | [_], _ => rfl⟩
    d__law_planned := ⟨f__law_planned, _, fun_mk (st := S__law_planned) l__law_planned c__law_planned k__law_planned, PySem.W.mg_of X G a__law_planned, (fun_mk (st := S__law_planned) l__law_planned c__law_planned k__law_planned).binds (ps := ["_law_steps"]) fun _ _ _ _ _ _ us hl => match us, hl with | [_], _ => rfl⟩
    d__law_standing := ⟨f__law_standing, _, fun_mk (st := S__law_standing) l__law_standing c__law_standing k__law_standing, PySem.W.mg_of X G a__law_standing, (fun_mk (st := S__law_standing) l__law_standing c__law_standing k__law_standing).binds (ps := ["_law_steps", "_law_i"]) fun _ _ _ _ _ _ us hl => match us, hl with | [_, _], _ => rfl⟩
    x_BadTest := by rw [show cadr mg "BadTest" = c_BadTest from cadr_of (PySem.W.mg_of X G a_eBadTest)]; exact ⟨feBadTest, { gC := PySem.W.mg_of X G a_eBadTest, cls := ⟨_, _, _, _, _, _, _, _, _, _, _, _, _, _, _, x_eBadTest, o_eBadTest⟩, sa := sa_eBadTest, ga := ga_eBadTest, gg := gg_eBadTest, noF := nb_eBadTest, ini := i_eBadTest, tyI := t_eBadTest, kC := k_eBadTest, exC := eC_eBadTest, tyC := tC_eBadTest, hdC := hC_eBadTest, te := exmSelf eC_eBadTest te_eBadTest tC_eBadTest tf_eBadTest, fn := ⟨_, _, _, _, _, _, _, _, _, _, _, _, _, _, _, l_eBadTest, cc_eBadTest, s1_eBadTest, s2_eBadTest, s3_eBadTest, s4_eBadTest⟩ }⟩
    x_BadOrder := by rw [show cadr mg "BadOrder" = c_BadOrder from cadr_of (PySem.W.mg_of X G a_eBadOrder)]; exact ⟨feBadOrder, { gC := PySem.W.mg_of X G a_eBadOrder, cls := ⟨_, _, _, _, _, _, _, _, _, _, _, _, _, _, _, x_eBadOrder, o_eBadOrder⟩, sa := sa_eBadOrder, ga := ga_eBadOrder, gg := gg_eBadOrder, noF := nb_eBadOrder, ini := i_eBadOrder, tyI := t_eBadOrder, kC := k_eBadOrder, exC := eC_eBadOrder, tyC := tC_eBadOrder, hdC := hC_eBadOrder, te := exmSelf eC_eBadOrder te_eBadOrder tC_eBadOrder tf_eBadOrder, fn := ⟨_, _, _, _, _, _, _, _, _, _, _, _, _, _, _, l_eBadOrder, cc_eBadOrder, s1_eBadOrder, s2_eBadOrder, s3_eBadOrder, s4_eBadOrder⟩ }⟩
    e_Test := by rw [hc_Test]; exact PySem.W.mg_of X G a_Test
    sf_Test := by rw [hc_Test]; exact sf_Test
    nr_Test_and := by rw [hc_Test]; exact nr_Test_and
    nr_Test_or := by rw [hc_Test]; exact nr_Test_or
    is_Test := by rw [hc_Test]; exact ⟨ia_Test, in_Test, it_Test, im_Test, kitSelf, fun T h => kitNo io_Test iy_Test (by unfold kinds7 at h; simp only [List.mem_cons, List.not_mem_nil, or_false] at h; rcases h with rfl | rfl | rfl | rfl | rfl | rfl | rfl <;> assumption)⟩
    cl_Test := by rw [hc_Test]; exact ⟨pg_Test, hd_Test, po_Test, sa_Test⟩
    n_Test_word := by rw [hc_Test]; exact n_Test_word
    n_Test_inner := by rw [hc_Test]; exact n_Test_inner
    n_Test_fields := by rw [hc_Test]; exact n_Test_fields
    n_Test_terms := by rw [hc_Test]; exact n_Test_terms
    n_Test_size := by rw [hc_Test]; exact n_Test_size
    n_Test_depth := by rw [hc_Test]; exact n_Test_depth
    e_Plan := by rw [hc_Plan]; exact PySem.W.mg_of X G a_Plan
    sf_Plan := by rw [hc_Plan]; exact sf_Plan
    nr_Plan_and := by rw [hc_Plan]; exact nr_Plan_and
    nr_Plan_or := by rw [hc_Plan]; exact nr_Plan_or
    is_Plan := by rw [hc_Plan]; exact ⟨ia_Plan, in_Plan, it_Plan, im_Plan, kitSelf, fun T h => kitNo io_Plan iy_Plan (by unfold kinds7 at h; simp only [List.mem_cons, List.not_mem_nil, or_false] at h; rcases h with rfl | rfl | rfl | rfl | rfl | rfl | rfl <;> assumption)⟩
    cl_Plan := by rw [hc_Plan]; exact ⟨pg_Plan, hd_Plan, po_Plan, sa_Plan⟩
    n_Plan_course := by rw [hc_Plan]; exact n_Plan_course
    k_SIGNS := ⟨t_SIGNS, PySem.W.mg_of X G g_SIGNS⟩
    k_LONGEST_NAME := ⟨t_LONGEST_NAME, PySem.W.mg_of X G g_LONGEST_NAME⟩
    k_LETTERS := ⟨t_LETTERS, PySem.W.mg_of X G g_LETTERS⟩
    k_WORDS := ⟨ca_WORDS, PySem.W.mg_of X G g_WORDS, fun _ => Or.inr ⟨co_WORDS, ci_WORDS, cn_WORDS, gl_WORDS, gc_WORDS, gd_WORDS, gs_WORDS, gv_WORDS⟩⟩
    k_NAME_SIGNS := ⟨t_NAME_SIGNS, PySem.W.mg_of X G g_NAME_SIGNS⟩
    k_MOST_ATOMS := ⟨t_MOST_ATOMS, PySem.W.mg_of X G g_MOST_ATOMS⟩
    k_MOST_LEVELS := ⟨t_MOST_LEVELS, PySem.W.mg_of X G g_MOST_LEVELS⟩
    k_OPS := ⟨ca_OPS, PySem.W.mg_of X G g_OPS, fun _ => Or.inr ⟨co_OPS, ci_OPS, cn_OPS, gl_OPS, gc_OPS, gd_OPS, gs_OPS, gv_OPS⟩⟩
    k_MOST_VALUES := ⟨t_MOST_VALUES, PySem.W.mg_of X G g_MOST_VALUES⟩
    k_DIRECTIONS := ⟨ca_DIRECTIONS, PySem.W.mg_of X G g_DIRECTIONS, fun _ => Or.inr ⟨co_DIRECTIONS, ci_DIRECTIONS, cn_DIRECTIONS, gl_DIRECTIONS, gc_DIRECTIONS, gd_DIRECTIONS, gs_DIRECTIONS, gv_DIRECTIONS⟩⟩
    k_MOST_PARTS := ⟨t_MOST_PARTS, PySem.W.mg_of X G g_MOST_PARTS⟩
    k_MOST_STEPS := ⟨t_MOST_STEPS, PySem.W.mg_of X G g_MOST_STEPS⟩
    k_STEP_SIZES := ⟨dt_STEP_SIZES, PySem.W.mg_of X G g_STEP_SIZES, kdic_of kd_STEP_SIZES kt_STEP_SIZES km_STEP_SIZES (fun p hp => by simp only [List.mem_cons, List.not_mem_nil, or_false] at hp; rcases hp with rfl | rfl | rfl | rfl | rfl <;> exact ⟨_, by assumption⟩)⟩ }
  exact ⟨PySem.W.fnOf "law" "law" (defArgs S_law) (defBody S_law) (defScope S_law) .none kV_law dc_law pm_law an_law cd_law ct_law, fun s v => .of_eq rfl, fun base _ _ => ok_law T (fun_mk (st := S_law) l_law c_law k_law)⟩
theorem walk {l : PySem.W.OpenLaw} {q : Program} {loose : List Str} {XP : (Str → Option Value) → Heap → Prop} {YP : World → Heap → Prop} {d : DefRec} {K : Params → PySem.W.Frag} (hn : l.most = some 63) (hdf : d.params.defaults = [])
    (hY : ∀ (w : World) (h : Heap), YP w h → (K w.params).In h)
    (F : ∀ (w : World) (mg : Str → Option Value) (fa : Addr) (h : Heap), (K w.params).In h → h.Ns mainGlobals mg → mg d.name = some (.ref fa) →
      ∃ fd : FuncData, (∀ (s : Shared) (u : Value), BindsTo s fd ⟨[u], []⟩ [("_law_script", u)]) ∧ ∀ base : Heap, (K w.params).In base → base.Ns mainGlobals mg → FnOk l.prog w (K w.params) mg base CX0 13 fa fd ["_law_script"] (spLaw (K w.params))) :
    PySem.W.WalkO q loose XP YP l.row.toRowW d [] (fun f vs => PySem.call f vs) :=
  L2.walk_of (n := 63) (k := 13) (x := "_law_script") (CX := fun _ => CX0) (sp := fun w => spLaw (K w.params)) hn (by decide) hdf ⟨rfl, by decide, by decide⟩ hY F (fun _ _ a ns hl _ hS => ⟨a, ns, rfl, hS, hl, fun _ => rfl⟩) fun _ _ _ _ _ z => z
end L
open PySem PySem.W PyProof.Rows
set_option maxRecDepth 100000 in
set_option maxHeartbeats 0 in
theorem PySem.Challenge.cw_tworows_k58_standing_orders_holds : PySem.Challenge.rw_tworows_k58_standing_orders.Holds := by
  w_on; o_law; k_head; (case hw => w_witness2)
  k_fill
  refine L.walk (l := PySem.Challenge.rw_tworows_k58_standing_orders) rfl rfl (fun w h Y => PySem.W.kIn_of Y) ?F
  case F =>
    intro w mg fa h KX G hmg
    refine' L.all_mk KX G hmg ?a_Test ?pg_Test ?hd_Test ?po_Test ?sa_Test ?mk_Test ?kc_Test ?sf_Test ?nr_Test_and ?nr_Test_or ?ia_Test ?in_Test ?it_Test ?im_Test ?io_Test ?iy_Test ?iz_Test_NoneType ?iz_Test_bool ?iz_Test_int ?iz_Test_str ?iz_Test_list ?iz_Test_tuple ?iz_Test_dict ?n_Test_word ?n_Test_inner ?n_Test_fields ?n_Test_terms ?n_Test_size ?n_Test_depth ?a_Plan ?pg_Plan ?hd_Plan ?po_Plan ?sa_Plan ?mk_Plan ?kc_Plan ?sf_Plan ?nr_Plan_and ?nr_Plan_or ?ia_Plan ?in_Plan ?it_Plan ?im_Plan ?io_Plan ?iy_Plan ?iz_Plan_NoneType ?iz_Plan_bool ?iz_Plan_int ?iz_Plan_str ?iz_Plan_list ?iz_Plan_tuple ?iz_Plan_dict ?n_Plan_course ?a_eBadTest ?x_eBadTest ?o_eBadTest ?sa_eBadTest ?ga_eBadTest ?gg_eBadTest ?nb_eBadTest ?i_eBadTest ?t_eBadTest ?l_eBadTest ?cc_eBadTest ?s1_eBadTest ?s2_eBadTest ?s3_eBadTest ?s4_eBadTest ?k_eBadTest ?eC_eBadTest ?tC_eBadTest ?hC_eBadTest ?te_eBadTest ?tf_eBadTest ?a_eBadOrder ?x_eBadOrder ?o_eBadOrder ?sa_eBadOrder ?ga_eBadOrder ?gg_eBadOrder ?nb_eBadOrder ?i_eBadOrder ?t_eBadOrder ?l_eBadOrder ?cc_eBadOrder ?s1_eBadOrder ?s2_eBadOrder ?s3_eBadOrder ?s4_eBadOrder ?k_eBadOrder ?eC_eBadOrder ?tC_eBadOrder ?hC_eBadOrder ?te_eBadOrder ?tf_eBadOrder ?a_is_integer ?l_is_integer ?c_is_integer ?k_is_integer ?a_is_sequence ?l_is_sequence ?c_is_sequence ?k_is_sequence ?a_is_worded ?l_is_worded ?c_is_worded ?k_is_worded ?a_is_text ?l_is_text ?c_is_text ?k_is_text ?a_is_name ?l_is_name ?c_is_name ?k_is_name ?a_kind_of ?l_kind_of ?c_kind_of ?k_kind_of ?a_Test_init ?i_Test_init ?l_Test_init ?c_Test_init ?k_Test_init ?a_Test_and ?i_Test_and ?l_Test_and ?c_Test_and ?k_Test_and ?a_Test_or ?i_Test_or ?l_Test_or ?c_Test_or ?k_Test_or ?a_Test_invert ?i_Test_invert ?l_Test_invert ?c_Test_invert ?k_Test_invert ?a_size_of ?l_size_of ?c_size_of ?k_size_of ?a_depth_of ?l_depth_of ?c_depth_of ?k_depth_of ?a_combined ?l_combined ?c_combined ?k_combined ?a_need_column ?l_need_column ?c_need_column ?k_need_column ?a_need_op ?l_need_op ?c_need_op ?k_need_op ?a_need_values ?l_need_values ?c_need_values ?k_need_values ?a_compare ?l_compare ?c_compare ?k_compare ?a_against ?l_against ?c_against ?k_against ?kn_against ?a_among ?l_among ?c_among ?k_among ?a_begins ?l_begins ?c_begins ?k_begins ?a_empty ?l_empty ?c_empty ?k_empty ?a_always ?l_always ?c_always ?k_always ?a_never ?l_never ?c_never ?k_never ?a_sure ?l_sure ?c_sure ?k_sure ?a_is_short ?l_is_short ?c_is_short ?k_is_short ?a_are_names ?l_are_names ?c_are_names ?k_are_names ?a_is_part ?l_is_part ?c_is_part ?k_is_part ?a_need_order ?l_need_order ?c_need_order ?k_need_order ?a_turned ?l_turned ?c_turned ?k_turned ?a_Plan_init ?i_Plan_init ?l_Plan_init ?c_Plan_init ?k_Plan_init ?a_Plan_steps ?i_Plan_steps ?l_Plan_steps ?c_Plan_steps ?k_Plan_steps ?a_is_step ?l_is_step ?c_is_step ?k_is_step ?a_is_order ?l_is_order ?c_is_order ?k_is_order ?a_step_of ?l_step_of ?c_step_of ?k_step_of ?a_columns_of_order ?l_columns_of_order ?c_columns_of_order ?k_columns_of_order ?a_standing_order ?l_standing_order ?c_standing_order ?k_standing_order ?a__law_pool ?l__law_pool ?c__law_pool ?k__law_pool ?a__law_draw ?l__law_draw ?c__law_draw ?k__law_draw ?a__law_value ?l__law_value ?c__law_value ?k__law_value ?a__law_name ?l__law_name ?c__law_name ?k__law_name ?a__law_columns ?l__law_columns ?c__law_columns ?k__law_columns ?a__law_atom ?l__law_atom ?c__law_atom ?k__law_atom ?a__law_make ?l__law_make ?c__law_make ?k__law_make ?a__law_order ?l__law_order ?c__law_order ?k__law_order ?a__law_step ?l__law_step ?c__law_step ?k__law_step ?a__law_made_step ?l__law_made_step ?c__law_made_step ?k__law_made_step ?a__law_planned ?l__law_planned ?c__law_planned ?k__law_planned ?a__law_standing ?l__law_standing ?c__law_standing ?k__law_standing ?a_law ?l_law ?c_law ?k_law ?z_isinstance ?z_int ?z_bool ?z_list ?z_tuple ?z_str ?z_len ?z_all ?z_sum ?z_set ?z_enumerate ?z_range ?g_SIGNS ?g_LONGEST_NAME ?g_LETTERS ?g_WORDS ?gl_WORDS ?gc_WORDS ?gd_WORDS ?gs_WORDS ?gv_WORDS ?g_NAME_SIGNS ?g_MOST_ATOMS ?g_MOST_LEVELS ?g_OPS ?gl_OPS ?gc_OPS ?gd_OPS ?gs_OPS ?gv_OPS ?g_MOST_VALUES ?g_DIRECTIONS ?gl_DIRECTIONS ?gc_DIRECTIONS ?gd_DIRECTIONS ?gs_DIRECTIONS ?gv_DIRECTIONS ?g_MOST_PARTS ?g_MOST_STEPS ?g_STEP_SIZES ?kd_STEP_SIZES ?kt_STEP_SIZES ?km_STEP_SIZES ?ki0_STEP_SIZES ?ki1_STEP_SIZES ?ki2_STEP_SIZES ?ki3_STEP_SIZES ?ki4_STEP_SIZES
    (case a_Test => k_is)
    (case pg_Test => k_is)
    (case hd_Test => k_is)
    (case po_Test => k_is)
    (case sa_Test => k_is)
    (case mk_Test => k_is)
    (case kc_Test => k_is)
    (case sf_Test => k_is)
    (case nr_Test_and => k_is)
    (case nr_Test_or => k_is)
    (case ia_Test => k_is)
    (case in_Test => k_is)
    (case it_Test => k_is)
    (case im_Test => k_is)
    (case io_Test => k_is)
    (case iy_Test => k_is)
    (case iz_Test_NoneType => k_is)
    (case iz_Test_bool => k_is)
    (case iz_Test_int => k_is)
    (case iz_Test_str => k_is)
    (case iz_Test_list => k_is)
    (case iz_Test_tuple => k_is)
    (case iz_Test_dict => k_is)
    (case n_Test_word => k_is)
    (case n_Test_inner => k_is)
    (case n_Test_fields => k_is)
    (case n_Test_terms => k_is)
    (case n_Test_size => k_is)
    (case n_Test_depth => k_is)
    (case a_Plan => k_is)
    (case pg_Plan => k_is)
    (case hd_Plan => k_is)
    (case po_Plan => k_is)
    (case sa_Plan => k_is)
    (case mk_Plan => k_is)
    (case kc_Plan => k_is)
    (case sf_Plan => k_is)
    (case nr_Plan_and => k_is)
    (case nr_Plan_or => k_is)
    (case ia_Plan => k_is)
    (case in_Plan => k_is)
    (case it_Plan => k_is)
    (case im_Plan => k_is)
    (case io_Plan => k_is)
    (case iy_Plan => k_is)
    (case iz_Plan_NoneType => k_is)
    (case iz_Plan_bool => k_is)
    (case iz_Plan_int => k_is)
    (case iz_Plan_str => k_is)
    (case iz_Plan_list => k_is)
    (case iz_Plan_tuple => k_is)
    (case iz_Plan_dict => k_is)
    (case n_Plan_course => k_is)
    (case a_eBadTest => k_is)
    (case x_eBadTest => k_is)
    (case o_eBadTest => (repeat (first | exact PySem.TwX.OwnEx.tail | refine PySem.TwX.OwnEx.own _ ?_)))
    (case sa_eBadTest => k_is)
    (case ga_eBadTest => k_is)
    (case gg_eBadTest => k_is)
    (case nb_eBadTest => k_is)
    (case i_eBadTest => k_is)
    (case t_eBadTest => k_is)
    (case l_eBadTest => k_is)
    (case cc_eBadTest => k_is)
    (case s1_eBadTest => rfl)
    (case s2_eBadTest => rfl)
    (case s3_eBadTest => rfl)
    (case s4_eBadTest => rfl)
    (case k_eBadTest => k_is)
    (case eC_eBadTest => k_is)
    (case tC_eBadTest => k_is)
    (case hC_eBadTest => k_is)
    (case te_eBadTest => k_is)
    (case tf_eBadTest => k_is)
    (case a_eBadOrder => k_is)
    (case x_eBadOrder => k_is)
    (case o_eBadOrder => (repeat (first | exact PySem.TwX.OwnEx.tail | refine PySem.TwX.OwnEx.own _ ?_)))
    (case sa_eBadOrder => k_is)
    (case ga_eBadOrder => k_is)
    (case gg_eBadOrder => k_is)
    (case nb_eBadOrder => k_is)
    (case i_eBadOrder => k_is)
    (case t_eBadOrder => k_is)
    (case l_eBadOrder => k_is)
    (case cc_eBadOrder => k_is)
    (case s1_eBadOrder => rfl)
    (case s2_eBadOrder => rfl)
    (case s3_eBadOrder => rfl)
    (case s4_eBadOrder => rfl)
    (case k_eBadOrder => k_is)
    (case eC_eBadOrder => k_is)
    (case tC_eBadOrder => k_is)
    (case hC_eBadOrder => k_is)
    (case te_eBadOrder => k_is)
    (case tf_eBadOrder => k_is)
    (case a_is_integer => k_is)
    (case l_is_integer => k_is)
    (case c_is_integer => k_is)
    (case k_is_integer => k_is)
    (case a_is_sequence => k_is)
    (case l_is_sequence => k_is)
    (case c_is_sequence => k_is)
    (case k_is_sequence => k_is)
    (case a_is_worded => k_is)
    (case l_is_worded => k_is)
    (case c_is_worded => k_is)
    (case k_is_worded => k_is)
    (case a_is_text => k_is)
    (case l_is_text => k_is)
    (case c_is_text => k_is)
    (case k_is_text => k_is)
    (case a_is_name => k_is)
    (case l_is_name => k_is)
    (case c_is_name => k_is)
    (case k_is_name => k_is)
    (case a_kind_of => k_is)
    (case l_kind_of => k_is)
    (case c_kind_of => k_is)
    (case k_kind_of => k_is)
    (case a_Test_init => k_is)
    (case i_Test_init => k_is)
    (case l_Test_init => k_is)
    (case c_Test_init => k_is)
    (case k_Test_init => k_is)
    (case a_Test_and => k_is)
    (case i_Test_and => k_is)
    (case l_Test_and => k_is)
    (case c_Test_and => k_is)
    (case k_Test_and => k_is)
    (case a_Test_or => k_is)
    (case i_Test_or => k_is)
    (case l_Test_or => k_is)
    (case c_Test_or => k_is)
    (case k_Test_or => k_is)
    (case a_Test_invert => k_is)
    (case i_Test_invert => k_is)
    (case l_Test_invert => k_is)
    (case c_Test_invert => k_is)
    (case k_Test_invert => k_is)
    (case a_size_of => k_is)
    (case l_size_of => k_is)
    (case c_size_of => k_is)
    (case k_size_of => k_is)
    (case a_depth_of => k_is)
    (case l_depth_of => k_is)
    (case c_depth_of => k_is)
    (case k_depth_of => k_is)
    (case a_combined => k_is)
    (case l_combined => k_is)
    (case c_combined => k_is)
    (case k_combined => k_is)
    (case a_need_column => k_is)
    (case l_need_column => k_is)
    (case c_need_column => k_is)
    (case k_need_column => k_is)
    (case a_need_op => k_is)
    (case l_need_op => k_is)
    (case c_need_op => k_is)
    (case k_need_op => k_is)
    (case a_need_values => k_is)
    (case l_need_values => k_is)
    (case c_need_values => k_is)
    (case k_need_values => k_is)
    (case a_compare => k_is)
    (case l_compare => k_is)
    (case c_compare => k_is)
    (case k_compare => k_is)
    (case a_against => k_is)
    (case l_against => k_is)
    (case c_against => k_is)
    (case k_against => k_is)
    (case kn_against => k_is)
    (case a_among => k_is)
    (case l_among => k_is)
    (case c_among => k_is)
    (case k_among => k_is)
    (case a_begins => k_is)
    (case l_begins => k_is)
    (case c_begins => k_is)
    (case k_begins => k_is)
    (case a_empty => k_is)
    (case l_empty => k_is)
    (case c_empty => k_is)
    (case k_empty => k_is)
    (case a_always => k_is)
    (case l_always => k_is)
    (case c_always => k_is)
    (case k_always => k_is)
    (case a_never => k_is)
    (case l_never => k_is)
    (case c_never => k_is)
    (case k_never => k_is)
    (case a_sure => k_is)
    (case l_sure => k_is)
    (case c_sure => k_is)
    (case k_sure => k_is)
    (case a_is_short => k_is)
    (case l_is_short => k_is)
    (case c_is_short => k_is)
    (case k_is_short => k_is)
    (case a_are_names => k_is)
    (case l_are_names => k_is)
    (case c_are_names => k_is)
    (case k_are_names => k_is)
    (case a_is_part => k_is)
    (case l_is_part => k_is)
    (case c_is_part => k_is)
    (case k_is_part => k_is)
    (case a_need_order => k_is)
    (case l_need_order => k_is)
    (case c_need_order => k_is)
    (case k_need_order => k_is)
    (case a_turned => k_is)
    (case l_turned => k_is)
    (case c_turned => k_is)
    (case k_turned => k_is)
    (case a_Plan_init => k_is)
    (case i_Plan_init => k_is)
    (case l_Plan_init => k_is)
    (case c_Plan_init => k_is)
    (case k_Plan_init => k_is)
    (case a_Plan_steps => k_is)
    (case i_Plan_steps => k_is)
    (case l_Plan_steps => k_is)
    (case c_Plan_steps => k_is)
    (case k_Plan_steps => k_is)
    (case a_is_step => k_is)
    (case l_is_step => k_is)
    (case c_is_step => k_is)
    (case k_is_step => k_is)
    (case a_is_order => k_is)
    (case l_is_order => k_is)
    (case c_is_order => k_is)
    (case k_is_order => k_is)
    (case a_step_of => k_is)
    (case l_step_of => k_is)
    (case c_step_of => k_is)
    (case k_step_of => k_is)
    (case a_columns_of_order => k_is)
    (case l_columns_of_order => k_is)
    (case c_columns_of_order => k_is)
    (case k_columns_of_order => k_is)
    (case a_standing_order => k_is)
    (case l_standing_order => k_is)
    (case c_standing_order => k_is)
    (case k_standing_order => k_is)
    (case a__law_pool => k_is)
    (case l__law_pool => k_is)
    (case c__law_pool => k_is)
    (case k__law_pool => k_is)
    (case a__law_draw => k_is)
    (case l__law_draw => k_is)
    (case c__law_draw => k_is)
    (case k__law_draw => k_is)
    (case a__law_value => k_is)
    (case l__law_value => k_is)
    (case c__law_value => k_is)
    (case k__law_value => k_is)
    (case a__law_name => k_is)
    (case l__law_name => k_is)
    (case c__law_name => k_is)
    (case k__law_name => k_is)
    (case a__law_columns => k_is)
    (case l__law_columns => k_is)
    (case c__law_columns => k_is)
    (case k__law_columns => k_is)
    (case a__law_atom => k_is)
    (case l__law_atom => k_is)
    (case c__law_atom => k_is)
    (case k__law_atom => k_is)
    (case a__law_make => k_is)
    (case l__law_make => k_is)
    (case c__law_make => k_is)
    (case k__law_make => k_is)
    (case a__law_order => k_is)
    (case l__law_order => k_is)
    (case c__law_order => k_is)
    (case k__law_order => k_is)
    (case a__law_step => k_is)
    (case l__law_step => k_is)
    (case c__law_step => k_is)
    (case k__law_step => k_is)
    (case a__law_made_step => k_is)
    (case l__law_made_step => k_is)
    (case c__law_made_step => k_is)
    (case k__law_made_step => k_is)
    (case a__law_planned => k_is)
    (case l__law_planned => k_is)
    (case c__law_planned => k_is)
    (case k__law_planned => k_is)
    (case a__law_standing => k_is)
    (case l__law_standing => k_is)
    (case c__law_standing => k_is)
    (case k__law_standing => k_is)
    (case a_law => k_is)
    (case l_law => k_is)
    (case c_law => k_is)
    (case k_law => k_is)
    (case z_isinstance => k_is)
    (case z_int => k_is)
    (case z_bool => k_is)
    (case z_list => k_is)
    (case z_tuple => k_is)
    (case z_str => k_is)
    (case z_len => k_is)
    (case z_all => k_is)
    (case z_sum => k_is)
    (case z_set => k_is)
    (case z_enumerate => k_is)
    (case z_range => k_is)
    (case g_SIGNS => k_is)
    (case g_LONGEST_NAME => k_is)
    (case g_LETTERS => k_is)
    (case g_WORDS => k_is)
    (case gl_WORDS => k_is)
    (case gc_WORDS => rfl)
    (case gd_WORDS => rfl)
    (case gs_WORDS => decide)
    (case gv_WORDS => (repeat (first | exact .nil | refine .cons ⟨_, rfl⟩ ?_)))
    (case g_NAME_SIGNS => k_is)
    (case g_MOST_ATOMS => k_is)
    (case g_MOST_LEVELS => k_is)
    (case g_OPS => k_is)
    (case gl_OPS => k_is)
    (case gc_OPS => rfl)
    (case gd_OPS => rfl)
    (case gs_OPS => decide)
    (case gv_OPS => (repeat (first | exact .nil | refine .cons ⟨_, rfl⟩ ?_)))
    (case g_MOST_VALUES => k_is)
    (case g_DIRECTIONS => k_is)
    (case gl_DIRECTIONS => k_is)
    (case gc_DIRECTIONS => rfl)
    (case gd_DIRECTIONS => rfl)
    (case gs_DIRECTIONS => decide)
    (case gv_DIRECTIONS => (repeat (first | exact .nil | refine .cons ⟨_, rfl⟩ ?_)))
    (case g_MOST_PARTS => k_is)
    (case g_MOST_STEPS => k_is)
    (case g_STEP_SIZES => k_is)
    (case kd_STEP_SIZES => k_is)
    (case kt_STEP_SIZES => rfl)
    (case km_STEP_SIZES => rfl)
    (case ki0_STEP_SIZES => k_is)
    (case ki1_STEP_SIZES => k_is)
    (case ki2_STEP_SIZES => k_is)
    (case ki3_STEP_SIZES => k_is)
    (case ki4_STEP_SIZES => k_is)
#print axioms PySem.Challenge.cw_tworows_k58_standing_orders_holds
