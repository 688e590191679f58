import PyProof.Rows.All
import Wide.All
import OpenK.AllK
import Wide.FinOn
import HandS.ForMost
import HandS.Wide
import HandS.IsInst
import HandS.Flow
import HandS.TupLe
import HandS.StrMore
import HandS.Evl
import HandS.Walk
import KE.KxText
import HandS.Set
import HandS.Strs
import HandS.SetFor
import PyProof.Rows.SortShellAny
import HandS.Replace
import KE.KOpsOwn
import HandS.ForExc
import HandS.TryMany
import HandS.TryOnly
import HandS.ExcSuper
import HandS.ExcOwn
import HandS.Defaults
import HandS.DictComp
import HandS.RaiseMore
import HandS.ListEq
import HandS.DeepEq
import HandS.Iter
import KE.GoesMore
import HandS.ExcIs
import HandS.MakeKw
import HandS.More
import HandS.HeadHook3
import PyProof.InstEq
import OpenK.KOps
import PySem.Challenge.RW_tworows_k55_plans_are_read
set_option Elab.async false
set_option linter.all false
set_option maxRecDepth 100000
set_option maxHeartbeats 4000000
namespace Tw
open PySem L2

/-! ### a def of the text with its promise -/
structure Def (P : Program) (w : World) (K : PySem.W.Frag) (mg : Str → Option Value) (base : Heap) (k : Nat) (x : Str) (ps : List Str) (sp : Sp) : Prop where
  ex : ∃ (f : Addr) (fd : FuncData), FnOk P w K mg base CX0 k f fd ps sp ∧ mg x = some (.ref f) ∧ PySem.W.keepIn K (.ref f) = true ∧ Binds K fd ps []
/-- where a def of the text stands -/
structure Here (K : PySem.W.Frag) (mg : Str → Option Value) (x : Str) (st : Stmt) (ps : List Str) (f : Addr) (fd : FuncData) : Prop where
  fn : Fun K x x st f fd
  mg : mg x = some (.ref f)
  bd : Binds K fd ps []
section
variable {X : Cx} {k j : Nat} {x : Str} {p pos : Pos} {e : Expr} {es : List Expr} {ps : List Str} {sp : Sp} {t : TA}
theorem Here.def {P : Program} {w : World} {K : PySem.W.Frag} {mg : Str → Option Value} {base : Heap} {st : Stmt} {f : Addr} {fd : FuncData} (h : Here K mg x st ps f fd) (F : FnOk P w K mg base CX0 k f fd ps sp) : Def P w K mg base k x ps sp :=
  ⟨f, fd, F, h.mg, h.fn.kp, h.bd⟩
def tDef (sp : Sp) (t : TA) : TE := fun σ H Q => t σ H fun vs H1 => sp vs H1 Q E0
theorem tDef_eq {sp : Sp} {t : TA} : tCall sp [] E0 t = tDef sp t := by
  funext σ H Q
  unfold tCall tDef
  simp only [List.append_nil]
theorem pe_def (D : Def X.prog X.w X.K X.mg X.base k x ps sp) (hr : Room j X.A) (hg : Gl X x) (ha : PA X (e :: es) t) (hk : k ≤ j := by decide) (hdb : (x == ("__debug__" : Str)) = false := by decide)
    (he : starEach (e :: es) X.env = (false, eval e X.env) :: starEach es X.env := by rfl) (hpl : (backTo pos (starEach es X.env)).any (·.1) = false := by rfl) : PE X (.Call (.Name x p) (e :: es) [] pos) (tDef sp t) := by
  obtain ⟨f, fd, F, hm, hkp, hb⟩ := D.ex
  rw [← tDef_eq]
  exact pe_call F (hr.mono hk) hg hm hkp hb .nil pass0 ha hdb he hpl
theorem pe_def0 (D : Def X.prog X.w X.K X.mg X.base k x ps sp) (hr : Room j X.A) (hg : Gl X x) (hk : k ≤ j := by decide) (hdb : (x == ("__debug__" : Str)) = false := by decide) : PE X (.Call (.Name x p) [] [] pos) (tDef sp tNil) := by
  obtain ⟨f, fd, F, hm, hkp, hb⟩ := D.ex
  rw [← tDef_eq]
  exact pe_call0 F (hr.mono hk) hg hm hkp hb .nil pass0 hdb
end

/-! ### operators for values of any kind -/
def rStr2 (C : Str → Str → Prop) (g : Str → Str → V) : R2 := fun x y H Q => ∃ i j, x = .str i ∧ y = .str j ∧ C i j ∧ Q (g i j) H
def rAddG : R2 := fun x y H Q => (∃ i j, x = .int i ∧ y = .int j ∧ Q (.int (i + j)) H) ∨ (∃ i j, x = .str i ∧ y = .str j ∧ i.length + j.length ≤ sizeLine ∧ Q (.str (i ++ j)) H) ∨ rCat x y H Q
def rLtG : R2 := fun x y H Q => (∃ i j, x = .int i ∧ y = .int j ∧ Q (.bl (decide (i < j))) H) ∨ ∃ i j, x = .str i ∧ y = .str j ∧ Q (.bl (decide (i.cps.toList < j.cps.toList))) H
def CPowG (i j : Int) : Prop := 0 ≤ j ∧ (Builtin.Int.intBits i : Int) * j ≤ 2 ^ 27
section
variable {X : Cx} {H : Hp} {Q : VK}
theorem op_addG : OpR X (binaryOp .Add) rAddG := op_add.or (op_add_str.or op_cat)
theorem op_ltG : OpR X (compareOp .Lt) rLtG := op_lt.or op_lt_str
theorem op_powG : OpR X (binaryOp .Pow) (rI CPowG fun i j => .int (i ^ j.toNat)) := opI fun _ _ _ _ _ _ _ hc q => PyProof.Rows.pow_int hc.1 hc.2 q
def rFdG : R2 := rI CDivW fun i j => .int (i / j)
theorem op_fdG : OpR X (binaryOp .FloorDiv) rFdG := op_fdivW
def rModG : R2 := rI (fun _ j => 0 < j) fun i j => .int (i % j)
theorem op_modG : OpR X (binaryOp .Mod) rModG := op_mod
def rSubG : R2 := rI0 fun i j => .int (i - j)
theorem op_subG : OpR X (binaryOp .Sub) rSubG := op_sub
def rMulG : R2 := rI CMul fun i j => .int (i * j)
theorem op_mulG : OpR X (binaryOp .Mult) rMulG := op_mul
def rPowG : R2 := rI CPowG fun i j => .int (i ^ j.toNat)
theorem op_powG' : OpR X (binaryOp .Pow) rPowG := op_powG
def rLeG : R2 := rI0 fun i j => .bl (decide (i ≤ j))
theorem op_leG : OpR X (compareOp .LtE) rLeG := op_le
def rGtG : R2 := rI0 fun i j => .bl (decide (j < i))
theorem op_gtG : OpR X (compareOp .Gt) rGtG := op_gt
def rGeG : R2 := fun x y H Q => (rI0 fun i j => .bl (decide (j ≤ i))) x y H Q ∨ ∃ i j, x = .str i ∧ y = .str j ∧ Q (.bl (!decide (i.cps.toList < j.cps.toList))) H
theorem op_geG : OpR X (compareOp .GtE) rGeG := op_ge.or op_ge_str
def rIsNG : R2 := fun x y H Q => y = .non ∧ Q (.bl (decide (x = .non))) H
theorem op_isNG : OpR X (compareOp .Is) rIsNG := op_isN
def rNotNG : R2 := fun x y H Q => y = .non ∧ Q (.bl (!decide (x = .non))) H
theorem op_notNG : OpR X (compareOp .IsNot) rNotNG := op_notN
def rNegG : V → Hp → VK → Prop := rU fun i => .int (-i)
theorem un_negG : UnR X (unaryOp .USub) rNegG := un_neg
/-! rules that hang on the written part, the part told by a letter (so that they stand in a comprehension's block, too) -/
def rLenG (K : PySem.W.Frag) : List V → Hp → VK → Prop := fun xs H Q => ∃ x n, xs = [x] ∧ LenV K x H n ∧ Q (.int n) H
theorem call_lenG {K : PySem.W.Frag} (h : X.K = K) : CallR X (.builtin "len") (rLenG K) := by subst h; exact call_len
theorem ix_seqG {K : PySem.W.Frag} (h : X.K = K) : IxR X (rIx K) := by subst h; exact ix_seq
theorem call_isiG {K : PySem.W.Frag} (h : X.K = K) : CallR X (.builtin "isinstance") (rIsi K) := by subst h; exact call_isi
theorem sl_listG {K : PySem.W.Frag} (h : X.K = K) : SlR X (rSlL K) := by subst h; exact sl_list
def rSlG (K : PySem.W.Frag) : V → Option Int → Option Int → Hp → VK → Prop := fun x lo hi H Q => rSlL K x lo hi H Q ∨ (L2.rSlS x lo hi H Q ∨ rSlT K x lo hi H Q)
theorem sl_G {K : PySem.W.Frag} (h : X.K = K) : SlR X (rSlG K) := by subst h; exact sl_list.or (sl_str.or sl_tup)
def rInSign : R2 := fun x y H Q => ∃ (c : Nat) (z : Str), x = .str ⟨#[c]⟩ ∧ y = .str z ∧ Q (.bl (decide (c ∈ z.cps.toList))) H
def rNotInSign : R2 := fun x y H Q => ∃ (c : Nat) (z : Str), x = .str ⟨#[c]⟩ ∧ y = .str z ∧ Q (.bl (!decide (c ∈ z.cps.toList))) H
def rInG (K : PySem.W.Frag) : R2 := fun x y H Q => rInSign x y H Q ∨ rIn K false x y H Q
def rNotInG (K : PySem.W.Frag) : R2 := fun x y H Q => rNotInSign x y H Q ∨ rIn K true x y H Q
theorem op_inG {K : PySem.W.Frag} (h : X.K = K) : OpR X (compareOp .In) (rInG K) := by subst h; exact (show OpR X (compareOp .In) rInSign from op_in_sign).or op_in_seq
theorem op_notInG {K : PySem.W.Frag} (h : X.K = K) : OpR X (compareOp .NotIn) (rNotInG K) := by subst h; exact (show OpR X (compareOp .NotIn) rNotInSign from op_notIn_sign).or op_notIn_seq
def rMax2 : List V → Hp → VK → Prop := fun xs H Q => ∃ i j, xs = [.int i, .int j] ∧ Q (.int (if j > i then j else i)) H
theorem call_max2G (h : X.calm = true) : CallR X (.builtin "max") rMax2 := call_max2 h
def rGeS : R2 := fun x y H Q => ∃ i j, x = .str i ∧ y = .str j ∧ Q (.bl (!decide (i.cps.toList < j.cps.toList))) H
def rIsBl : R2 := fun x y H Q => ∃ a b, x = .bl a ∧ y = .bl b ∧ Q (.bl (decide (a = b))) H
def rNotBl : R2 := fun x y H Q => ∃ a b, x = .bl a ∧ y = .bl b ∧ Q (.bl (!decide (a = b))) H
theorem op_isBl : OpR X (compareOp .Is) rIsBl := op_is_bl
theorem op_notBl : OpR X (compareOp .IsNot) rNotBl := op_isnot_bl
def rListG (K : PySem.W.Frag) : List V → Hp → VK → Prop := fun xs H Q => ∃ p ys, xs = [.ref p] ∧ (SqL K H p ys ∨ SqT K H p ys) ∧ ∀ l, H l = none → Q (.ref l) (upd H l (.lst ys))
theorem call_listG {K : PySem.W.Frag} (h : X.K = K) : CallR X (.type "list") (rListG K) := by subst h; exact call_list_of
def rIntG : List V → Hp → VK → Prop := fun xs H Q => (∃ i, xs = [.int i] ∧ Q (.int i) H) ∨ ∃ k, xs = [.bl k] ∧ Q (.int (if k then 1 else 0)) H
theorem call_intG : CallR X (.type "int") rIntG := call_int1
def rBoolG : List V → Hp → VK → Prop := fun xs H Q => (∃ i, xs = [.int i] ∧ Q (.bl (i != 0)) H) ∨ ∃ k, xs = [.bl k] ∧ Q (.bl k) H
theorem call_boolG : CallR X (.type "bool") rBoolG := call_bool1
def rJoinG (K : PySem.W.Frag) : V → List V → Hp → VK → Prop := fun x xs H Q => ∃ a p, ∃ ys : List Str, x = .str a ∧ xs = [.ref p] ∧ (SqL K H p (ys.map V.str) ∨ SqT K H p (ys.map V.str)) ∧
    (ys.map (·.length)).sum + ys.length * a.length ≤ 16777216 ∧ Q (.str (PySem.Txt.join a ys)) H
theorem mt_joinG {K : PySem.W.Frag} (h : X.K = K) : MtR X "str.join" (rJoinG K) := by subst h; exact mt_join
/-- is True, is False: of bools -/
def rIsB : R2 := fun x y H Q => ∃ i j, x = .bl i ∧ y = .bl j ∧ Q (.bl (decide (i = j))) H
end

/-- what is wanted behind a statement, in a word that is no constructor -/
def mkE (nx : L2.St → Hp → Prop) (rt : VK) (bk ct : L2.St → Hp → Prop) : Ends := ⟨nx, rt, bk, ct⟩
theorem Fun.okM {P : Program} {w : World} {K : PySem.W.Frag} {mg : Str → Option Value} {base : Heap} {x qual : Str} {st : Stmt} {f : Addr} {fd : FuncData} {N ps : List Str} {k : Nat} {sp : Sp} (F : Fun K x qual st f fd) (S : FnScope N ps (defScope st)) (len : ∀ vs H Q E, sp vs H Q E → vs.length = ps.length)
    (hbody : ∀ (cdv : Value) (A : Around) (outer : List Env) (s : Shared) (H : Hp) (vs : List V) (Q : VK) (E : XK), Room k (A.deeper (PyProof.Rows.envOfC qual (defScope st) s.heap.objs.size f cdv)) → sp vs H Q E →
      ∃ t, PSs (cxOf CX0 P w K mg base N qual (defScope st) f cdv A outer s H E).nox (defBody st) t ∧ t (mkE (fun _ H' => Q .non H') Q (fun _ _ => False) (fun _ _ => False)) (L2.start N vs) H) : FnOk P w K mg base CX0 (k + 1) f fd ps sp := F.ok S len hbody
/-! ### readings, step by step -/
section
variable {K : PySem.W.Frag} {σ : L2.St} {H : Hp} {Q : VK} {QT : Bool → Hp → Prop} {QA : List V → Hp → Prop} {D : Ends} {ta tb te : TE} {tr t : TA} {u c : TT} {ts tz : TS} {x y v : V} {a b : Bool} {i j : Int}
theorem g_var {n : Nat} (h : σ[n]? = some (some v)) (q : Q v H) : tVar n σ H Q := ⟨v, h, q⟩
theorem g_var0 {n : Nat} (q : ∃ v, σ[n]? = some (some v) ∧ Q v H) : tVar n σ H Q := q
theorem g_c (q : Q v H) : tC v σ H Q := q
theorem g_op {r : R2} (q : ta σ H fun x H1 => tb σ H1 fun y H2 => r x y H2 Q) : tOp r ta tb σ H Q := q
theorem g_un {r : V → Hp → VK → Prop} (q : ta σ H fun x H1 => r x H1 Q) : tUn r ta σ H Q := q
theorem g_nil (q : QA [] H) : tNil σ H QA := q
theorem g_cons (q : ta σ H fun x H1 => tr σ H1 fun xs H2 => QA (x :: xs) H2) : tCons ta tr σ H QA := q
theorem g_def {sp : Sp} (q : t σ H fun vs H1 => sp vs H1 Q E0) : tDef sp t σ H Q := q
theorem g_cb {r : List V → Hp → VK → Prop} (q : t σ H fun vs H1 => r vs H1 Q) : tCB r t σ H Q := q
theorem g_tup (q : t σ H fun xs H1 => xs.length ≤ sizeLine ∧ ∀ p, H1 p = none → Q (.ref p) (upd H1 p (.tup xs))) : tTup t σ H Q := q
theorem g_lst (q : t σ H fun xs H1 => xs.length ≤ sizeLine ∧ ∀ p, H1 p = none → Q (.ref p) (upd H1 p (.lst xs))) : tLst t σ H Q := q
theorem g_addI (q : Q (.int (i + j)) H) : rAddG (.int i) (.int j) H Q := .inl ⟨i, j, rfl, rfl, q⟩
theorem g_addS {z w : Str} (h : z.length + w.length ≤ sizeLine) (q : Q (.str (z ++ w)) H) : rAddG (.str z) (.str w) H Q := .inr (.inl ⟨z, w, rfl, rfl, h, q⟩)
theorem g_subI (q : Q (.int (i - j)) H) : rSubG (.int i) (.int j) H Q := ⟨i, j, rfl, rfl, q⟩
theorem g_mulI (h : CMul i j) (q : Q (.int (i * j)) H) : rMulG (.int i) (.int j) H Q := ⟨i, j, rfl, rfl, h, q⟩
theorem g_powI (h : CPowG i j) (q : Q (.int (i ^ j.toNat)) H) : rPowG (.int i) (.int j) H Q := ⟨i, j, rfl, rfl, h, q⟩
theorem g_modI (h : 0 < j) (q : Q (.int (i % j)) H) : rModG (.int i) (.int j) H Q := ⟨i, j, rfl, rfl, h, q⟩
theorem g_fdI (h : CDivW i j) (q : Q (.int (i / j)) H) : rFdG (.int i) (.int j) H Q := ⟨i, j, rfl, rfl, h, q⟩
theorem g_negI (q : Q (.int (-i)) H) : rNegG (.int i) H Q := ⟨i, rfl, q⟩
theorem g_ltI (q : Q (.bl (decide (i < j))) H) : rLtG (.int i) (.int j) H Q := .inl ⟨i, j, rfl, rfl, q⟩
theorem g_ltS {z w : Str} (q : Q (.bl (decide (z.cps.toList < w.cps.toList))) H) : rLtG (.str z) (.str w) H Q := .inr ⟨z, w, rfl, rfl, q⟩
theorem g_leI (q : Q (.bl (decide (i ≤ j))) H) : rLeG (.int i) (.int j) H Q := ⟨i, j, rfl, rfl, q⟩
theorem g_gtI (q : Q (.bl (decide (j < i))) H) : rGtG (.int i) (.int j) H Q := ⟨i, j, rfl, rfl, q⟩
theorem g_geI (q : Q (.bl (decide (j ≤ i))) H) : rGeG (.int i) (.int j) H Q := .inl ⟨i, j, rfl, rfl, q⟩
theorem g_geS {z w : Str} (q : Q (.bl (!decide (z.cps.toList < w.cps.toList))) H) : rGeG (.str z) (.str w) H Q := .inr ⟨z, w, rfl, rfl, q⟩
theorem g_slL {p : Addr} {xs : List V} {lo hi : Option Int} (h : SqL K H p xs) (q : ∀ l, H l = none → Q (.ref l) (upd H l (.lst (cutV xs lo hi)))) : rSlG K (.ref p) lo hi H Q := .inl ⟨p, xs, rfl, h, q⟩
theorem g_slS {z : Str} {lo hi : Option Int} (h : z.length ≤ sizeLine) (q : Q (.str (cutS z lo hi)) H) : rSlG K (.str z) lo hi H Q := .inr (.inl ⟨z, rfl, h, q⟩)
theorem g_inS {n : Nat} {z : Str} (q : Q (.bl (decide (n ∈ z.cps.toList))) H) : rInG K (.str ⟨#[n]⟩) (.str z) H Q := .inl ⟨n, z, rfl, rfl, q⟩
theorem g_notInS {n : Nat} {z : Str} (q : Q (.bl (!decide (n ∈ z.cps.toList))) H) : rNotInG K (.str ⟨#[n]⟩) (.str z) H Q := .inl ⟨n, z, rfl, rfl, q⟩
theorem g_max2 (q : Q (.int (if j > i then j else i)) H) : rMax2 [.int i, .int j] H Q := ⟨i, j, rfl, q⟩
theorem g_isBl_tt (q : Q (.bl true) H) : rIsBl (.bl true) (.bl true) H Q := ⟨true, true, rfl, rfl, q⟩
theorem g_notBl_tt (q : Q (.bl false) H) : rNotBl (.bl true) (.bl true) H Q := ⟨true, true, rfl, rfl, q⟩
theorem g_isBl_tf (q : Q (.bl false) H) : rIsBl (.bl true) (.bl false) H Q := ⟨true, false, rfl, rfl, q⟩
theorem g_notBl_tf (q : Q (.bl true) H) : rNotBl (.bl true) (.bl false) H Q := ⟨true, false, rfl, rfl, q⟩
theorem g_isBl_ft (q : Q (.bl false) H) : rIsBl (.bl false) (.bl true) H Q := ⟨false, true, rfl, rfl, q⟩
theorem g_notBl_ft (q : Q (.bl true) H) : rNotBl (.bl false) (.bl true) H Q := ⟨false, true, rfl, rfl, q⟩
theorem g_isBl_ff (q : Q (.bl true) H) : rIsBl (.bl false) (.bl false) H Q := ⟨false, false, rfl, rfl, q⟩
theorem g_notBl_ff (q : Q (.bl false) H) : rNotBl (.bl false) (.bl false) H Q := ⟨false, false, rfl, rfl, q⟩
theorem g_isBl (q : Q (.bl (decide (a = b))) H) : rIsBl (.bl a) (.bl b) H Q := ⟨a, b, rfl, rfl, q⟩
theorem g_notBl (q : Q (.bl (!decide (a = b))) H) : rNotBl (.bl a) (.bl b) H Q := ⟨a, b, rfl, rfl, q⟩
theorem g_istr {R : It → Hp → Prop} (q : ta σ H fun v H1 => ∃ x, v = .str x ∧ R (Its x) H1) : iStr ta σ H R := q
theorem g_str1 {p : Str → Prop} {z : Str} (q : p z) : ∃ x, V.str z = .str x ∧ p x := ⟨z, rfl, q⟩
theorem g_strE {z : Str} {R : Prop} (q : R) : (∃ a, V.str z = .str a) ∧ R := ⟨⟨z, rfl⟩, q⟩
theorem g_isN (q : Q (.bl (decide (x = .non))) H) : rIsNG x .non H Q := ⟨rfl, q⟩
theorem g_notN (q : Q (.bl (!decide (x = .non))) H) : rNotNG x .non H Q := ⟨rfl, q⟩
theorem g_isN_non (q : Q (.bl true) H) : rIsNG .non .non H Q := ⟨rfl, by rw [decide_eq_true rfl]; exact q⟩
theorem g_isN_int (q : Q (.bl false) H) : rIsNG (.int i) .non H Q := ⟨rfl, by rw [decide_eq_false (fun z => nomatch z)]; exact q⟩
theorem g_isN_str {z : Str} (q : Q (.bl false) H) : rIsNG (.str z) .non H Q := ⟨rfl, by rw [decide_eq_false (fun z => nomatch z)]; exact q⟩
theorem g_isN_bl (q : Q (.bl false) H) : rIsNG (.bl a) .non H Q := ⟨rfl, by rw [decide_eq_false (fun z => nomatch z)]; exact q⟩
theorem g_isN_ref {p : Addr} (q : Q (.bl false) H) : rIsNG (.ref p) .non H Q := ⟨rfl, by rw [decide_eq_false (fun z => nomatch z)]; exact q⟩
theorem g_notN_non (q : Q (.bl false) H) : rNotNG .non .non H Q := ⟨rfl, by rw [decide_eq_true rfl]; exact q⟩
theorem g_notN_int (q : Q (.bl true) H) : rNotNG (.int i) .non H Q := ⟨rfl, by rw [decide_eq_false (fun z => nomatch z)]; exact q⟩
theorem g_notN_str {z : Str} (q : Q (.bl true) H) : rNotNG (.str z) .non H Q := ⟨rfl, by rw [decide_eq_false (fun z => nomatch z)]; exact q⟩
theorem g_notN_bl (q : Q (.bl true) H) : rNotNG (.bl a) .non H Q := ⟨rfl, by rw [decide_eq_false (fun z => nomatch z)]; exact q⟩
theorem g_notN_ref {p : Addr} (q : Q (.bl true) H) : rNotNG (.ref p) .non H Q := ⟨rfl, by rw [decide_eq_false (fun z => nomatch z)]; exact q⟩
theorem g_Tn {A B : Prop} (h : B) : if (!true) = true then A else B := by rw [if_neg (by decide)]; exact h
theorem g_Fn {A B : Prop} (h : A) : if (!false) = true then A else B := by rw [if_pos (by decide)]; exact h
theorem dI (i j : Int) : decide (V.int i = V.int j) = decide (i = j) := by
  by_cases h : i = j
  · subst h; simp
  · rw [decide_eq_false h]; exact decide_eq_false fun z => h (V.int.inj z)
theorem dS (i j : Str) : decide (V.str i = V.str j) = decide (i = j) := by
  by_cases h : i = j
  · subst h; simp
  · rw [decide_eq_false h]; exact decide_eq_false fun z => h (V.str.inj z)
theorem dB (i j : Bool) : decide (V.bl i = V.bl j) = decide (i = j) := by
  by_cases h : i = j
  · subst h; simp
  · rw [decide_eq_false h]; exact decide_eq_false fun z => h (V.bl.inj z)
theorem g_eqI (q : Q (.bl (decide (i = j))) H) : rEq (.int i) (.int j) H Q := ⟨rfl, by rw [dI]; exact q⟩
theorem g_eqS {z w : Str} (q : Q (.bl (decide (z = w))) H) : rEq (.str z) (.str w) H Q := ⟨rfl, by rw [dS]; exact q⟩
theorem g_eqB (q : Q (.bl (decide (a = b))) H) : rEq (.bl a) (.bl b) H Q := ⟨rfl, by rw [dB]; exact q⟩
theorem g_neI (q : Q (.bl (!decide (i = j))) H) : rNe (.int i) (.int j) H Q := ⟨rfl, by rw [dI]; exact q⟩
theorem g_neS {z w : Str} (q : Q (.bl (!decide (z = w))) H) : rNe (.str z) (.str w) H Q := ⟨rfl, by rw [dS]; exact q⟩
theorem g_int1 (q : Q (.int i) H) : rIntG [V.int i] H Q := .inl ⟨i, rfl, q⟩
theorem g_int1B (q : Q (.int (if a then 1 else 0)) H) : rIntG [V.bl a] H Q := .inr ⟨a, rfl, q⟩
theorem g_bool1B (q : Q (.bl a) H) : rBoolG [V.bl a] H Q := .inr ⟨a, rfl, q⟩
theorem g_bool1I (q : Q (.bl (i != 0)) H) : rBoolG [V.int i] H Q := .inl ⟨i, rfl, q⟩
theorem g_ixL {p : Addr} {xs : List V} (h : SqL K H p xs) (e : atI xs i = some v) (q : Q v H) : rIx K (.ref p) (.int i) H Q := .inl ⟨p, xs, i, v, rfl, rfl, h, e, q⟩
theorem g_ixL0 {p : Addr} (q : ∃ xs v, H p = some (.lst xs) ∧ atI xs i = some v ∧ Q v H) : rIx K (.ref p) (.int i) H Q := by
  obtain ⟨xs, v, h, e, q⟩ := q
  exact g_ixL (SqL.of h) e q
theorem g_lenL0 {p : Addr} (q : ∃ xs, H p = some (.lst xs) ∧ Q (.int (xs.length : Int)) H) : rLenG K [.ref p] H Q := by
  obtain ⟨xs, h, q⟩ := q
  exact ⟨_, _, rfl, .inl ⟨xs, SqL.of h, rfl⟩, q⟩
theorem g_setL0 {p : Addr} {QH : Hp → Prop} (q : ∃ xs n, H p = some (.lst xs) ∧ ixN xs.length i = some n ∧ QH (upd H p (.lst (xs.set n v)))) : rSetL (.ref p) (.int i) v H QH := by
  obtain ⟨xs, n, h, e, q⟩ := q
  exact ⟨p, xs, i, n, rfl, rfl, h, e, q⟩
theorem g_ixT {p : Addr} {xs : List V} (h : SqT K H p xs) (e : atI xs i = some v) (q : Q v H) : rIx K (.ref p) (.int i) H Q := .inr (.inl ⟨p, xs, i, v, rfl, rfl, h, e, q⟩)
theorem g_ixS {z : Str} {n : Nat} (h : z.length ≤ sizeLine) (e : atI z.cps.toList i = some n) (q : Q (.str ⟨#[n]⟩) H) : rIx K (.str z) (.int i) H Q := .inr (.inr ⟨z, i, n, rfl, rfl, h, e, q⟩)
theorem g_lenL {p : Addr} {xs : List V} (h : SqL K H p xs) (q : Q (.int (xs.length : Int)) H) : rLenG K [.ref p] H Q := ⟨_, _, rfl, .inl ⟨xs, h, rfl⟩, q⟩
theorem g_lenT {p : Addr} {xs : List V} (h : SqT K H p xs) (q : Q (.int (xs.length : Int)) H) : rLenG K [.ref p] H Q := ⟨_, _, rfl, .inr ⟨xs, h, rfl⟩, q⟩
theorem g_lenS {z : Str} (h : z.length ≤ sizeLine) (q : Q (.int (z.length : Int)) H) : rLenG K [.str z] H Q := ⟨_, _, rfl, ⟨h, rfl⟩, q⟩
theorem g_list {p : Addr} {xs : List V} (h : SqL K H p xs) (q : ∀ l, H l = none → Q (.ref l) (upd H l (.lst xs))) : rListG K [.ref p] H Q := ⟨p, xs, rfl, .inl h, q⟩
theorem g_join {z : Str} {p : Addr} {ys : List Str} (h : SqL K H p (ys.map V.str)) (hz : (ys.map (·.length)).sum + ys.length * z.length ≤ 16777216) (q : Q (.str (PySem.Txt.join z ys)) H) : rJoinG K (.str z) [.ref p] H Q :=
  ⟨z, p, ys, rfl, rfl, .inl h, hz, q⟩
/-- the kind of a value, by its form -/
def kindS : V → String
  | .non => "NoneType" | .bl _ => "bool" | .int _ => "int" | .str _ => "str" | .flt _ => "float" | _ => ""
theorem g_isi {c : String} (ty : TyX K H x (.type n)) (h : kitB n c = some b) (q : Q (.bl b) H) : rIsi K [x, .ty c] H Q := ⟨x, .ty c, .type n, .type c, b, rfl, .ty c, ty, kit_ty h, q⟩
theorem g_isiI {c : String} (h : kitB "int" c = some b) (q : Q (.bl b) H) : rIsi K [.int i, .ty c] H Q := g_isi (.base (.int i)) h q
theorem g_isiS {c : String} {z : Str} (h : kitB "str" c = some b) (q : Q (.bl b) H) : rIsi K [.str z, .ty c] H Q := g_isi (.base (.str z)) h q
theorem g_isiB {c : String} (h : kitB "bool" c = some b) (q : Q (.bl b) H) : rIsi K [.bl a, .ty c] H Q := g_isi (.base (.bl a)) h q
theorem g_isiN {c : String} (h : kitB "NoneType" c = some b) (q : Q (.bl b) H) : rIsi K [.non, .ty c] H Q := g_isi (.base .non) h q
theorem kb_ii : kitB "int" "int" = some true := by decide +kernel
theorem kb_is : kitB "int" "str" = some false := by decide +kernel
theorem kb_ib : kitB "int" "bool" = some false := by decide +kernel
theorem kb_si : kitB "str" "int" = some false := by decide +kernel
theorem kb_ss : kitB "str" "str" = some true := by decide +kernel
theorem kb_sb : kitB "str" "bool" = some false := by decide +kernel
theorem kb_bi : kitB "bool" "int" = some true := by decide +kernel
theorem kb_bs : kitB "bool" "str" = some false := by decide +kernel
theorem kb_bb : kitB "bool" "bool" = some true := by decide +kernel
theorem kb_ni : kitB "NoneType" "int" = some false := by decide +kernel
theorem kb_ns : kitB "NoneType" "str" = some false := by decide +kernel
theorem kb_nb : kitB "NoneType" "bool" = some false := by decide +kernel
theorem g_sl {r : V → Option Int → Option Int → Hp → VK → Prop} {tl th : TO} (q : te σ H fun x H1 => tl σ H1 fun l H2 => th σ H2 fun u H3 => r x l u H3 Q) : tSl r te tl th σ H Q := q
theorem g_noPart {QO : Option Int → Hp → Prop} (q : QO none H) : tNoPart σ H QO := q
theorem g_part {QO : Option Int → Hp → Prop} (q : te σ H fun x H1 => ∃ i, x = .int i ∧ QO (some i) H1) : tPart te σ H QO := q
theorem g_int {p : Int → Prop} (q : p i) : ∃ k, V.int i = .int k ∧ p k := ⟨i, rfl, q⟩
theorem g_m1 {r : V → List V → Hp → VK → Prop} (q : ta σ H fun x H1 => (∃ a, x = .str a) ∧ tb σ H1 fun y H2 => r x [y] H2 Q) : tM1 r ta tb σ H Q := q
theorem g_m0 {r : V → List V → Hp → VK → Prop} (q : ta σ H fun x H1 => (∃ a, x = .str a) ∧ r x [] H1 Q) : tM0 r ta σ H Q := q
theorem g_lc {wi : TI} {g : TG} {tt : TT} {vs : List Nat} (q : wi σ H fun J H1 => ∀ D, H1 D = none → ∃ W : Nat → Nat → Hp → Prop, (∃ m, W 0 m (upd H1 D (.lst []))) ∧ ∀ i m H, W i m H →
  (J.stop i H ∧ Q (.ref D) H) ∨ (J.go i H ∧ ∃ Nx : Hp → Prop, (∀ H', Nx H' → ∃ m', m' < m ∧ W (i + 1) m' H') ∧ ∀ x H', J.yld i H x H' → g x (wipe σ vs) H' fun σ2 H2 => wipe σ2 vs = wipe σ vs ∧ tt σ2 H2 fun b H3 =>
    if b = true then te σ2 H3 fun y H4 => ∃ acc, H4 D = some (.lst acc) ∧ acc.length < sizeLine ∧ Nx (upd H4 D (.lst (acc ++ [y]))) else Nx H3)) : tLc wi g tt te vs σ H Q := q
theorem g_rng1 {R : It → Hp → Prop} (q : t σ H fun vs H1 => ∃ j : Int, vs = [.int j] ∧ -(2 ^ 62) ≤ j ∧ j < 2 ^ 62 ∧ R (Itr 0 j.toNat) H1) : iRng1 t σ H R := q
theorem g_ilist {R : It → Hp → Prop} (q : ta σ H fun x H1 => ∃ a, x = .ref a ∧ (∃ xs, SqL K H1 a xs) ∧ R (Itl K a) H1) : iList K ta σ H R := q
theorem g_for {wi : TI} {g : TG} (q : wi σ H fun J H1 => ∃ W : Nat → Nat → L2.St → Hp → Prop, (∃ m, W 0 m σ H1) ∧ ∀ i m σ H, W i m σ H →
  (J.stop i H ∧ D.nx σ H) ∨ (J.go i H ∧ ∃ N : L2.St → Hp → Prop, (∀ σ' H', N σ' H' → ∃ m', m' < m ∧ W (i + 1) m' σ' H') ∧ ∀ x H', J.yld i H x H' → g x σ H' fun σ2 H2 => ts { D with nx := N, ct := N, bk := D.nx } σ2 H2)) : tFor wi g ts D σ H := q
theorem g_cut {M : L2.St → Hp → Prop} (h : ts (mkE M D.rt D.bk D.ct) σ H) (k : ∀ σ' H', M σ' H' → tz D σ' H') : Evl.tCut ts tz D σ H := ⟨M, h, k⟩
theorem g_yes (q : QT true H) : tYes σ H QT := q
/-- a comprehension over a text whose turns leave the heap -/
theorem lc_text {z : Str} {g : TG} {tt : TT} {vs : List Nat} {H1 : Hp} {Dl : Addr} {Qd : Hp → Prop} (f : Nat → Bool) (v : Nat → V) (hz : z.length ≤ 1000000)
    (hs : ∀ (n : Nat) (Hh : Hp) (R : V → Hp → Prop) (S : Hp → Prop), n ∈ z.cps.toList → (∀ p o, p ≠ Dl → H1 p = some o → Hh p = some o) → (f n = true → R (v n) Hh) → (f n = false → S Hh) →
      g (.str ⟨#[n]⟩) (wipe σ vs) Hh fun σ2 H2 => wipe σ2 vs = wipe σ vs ∧ tt σ2 H2 fun b H3 => if b = true then te σ2 H3 R else S H3)
    (hd : ∀ H, (∀ p o, p ≠ Dl → H1 p = some o → H p = some o) → H Dl = some (.lst ((z.cps.toList.filter f).map v)) → Qd H) :
    ∃ W : Nat → Nat → Hp → Prop, (∃ m, W 0 m (upd H1 Dl (.lst []))) ∧ ∀ i m H, W i m H →
      ((Its z).stop i H ∧ Qd H) ∨ ((Its z).go i H ∧ ∃ Nx : Hp → Prop, (∀ H', Nx H' → ∃ m', m' < m ∧ W (i + 1) m' H') ∧ ∀ x H', (Its z).yld i H x H' → g x (wipe σ vs) H' fun σ2 H2 => wipe σ2 vs = wipe σ vs ∧ tt σ2 H2 fun b H3 =>
        if b = true then te σ2 H3 fun y H4 => ∃ acc, H4 Dl = some (.lst acc) ∧ acc.length < sizeLine ∧ Nx (upd H4 Dl (.lst (acc ++ [y]))) else Nx H3) := by
  have hsz : z.cps.size = z.cps.toList.length := Array.length_toList.symm
  refine ⟨fun i m H => m = z.cps.size - i ∧ i ≤ z.cps.size ∧ H Dl = some (.lst (((z.cps.toList.take i).filter f).map v)) ∧ ∀ p o, p ≠ Dl → H1 p = some o → H p = some o, ⟨z.cps.size, by simp, Nat.zero_le _, upd_same, fun p o n h => by rw [upd_ne n]; exact h⟩, ?_⟩
  rintro i m H ⟨rfl, hi, hD, hK⟩
  by_cases hlt : i < z.cps.size
  · refine .inr ⟨hlt, fun H' => H' Dl = some (.lst (((z.cps.toList.take (i + 1)).filter f).map v)) ∧ ∀ p o, p ≠ Dl → H1 p = some o → H' p = some o, fun H' w => ⟨z.cps.size - (i + 1), by omega, rfl, hlt, w⟩, ?_⟩
    rintro x H' ⟨rfl, n, hn, rfl⟩
    have hn' : z.cps.toList[i]? = some n := by rw [Array.getElem?_toList]; exact hn
    have e1 : z.cps.toList.take (i + 1) = z.cps.toList.take i ++ [n] := by rw [List.take_succ, hn']; rfl
    refine hs n H' _ _ (List.mem_of_getElem? hn') hK (fun hf => ?_) (fun hf => ?_)
    · refine ⟨_, hD, ?_, ?_, fun p o n h => by rw [upd_ne n]; exact hK p o n h⟩
      · rw [List.length_map, sizeLine_eq]
        have h1 := List.length_filter_le f (z.cps.toList.take i)
        have h2 : (z.cps.toList.take i).length ≤ z.cps.toList.length := by rw [List.length_take]; omega
        have h3 : z.cps.toList.length ≤ 1000000 := by rw [← hsz]; exact hz
        omega
      · rw [upd_same, e1, List.filter_append, List.filter_cons, if_pos hf, List.map_append]; rfl
    · refine ⟨?_, hK⟩
      rw [hD, e1, List.filter_append, List.filter_cons, if_neg (by rw [hf]; exact Bool.false_ne_true)]
      simp
  · have e : i = z.cps.size := by omega
    subst e
    refine .inl ⟨Nat.le_refl _, hd H hK ?_⟩
    rw [hD, hsz, List.take_length]
theorem join_cps (ys : List Str) : (PySem.Txt.join (Str.ofString "") ys).cps.toList = ys.flatMap fun y => y.cps.toList := by
  show (Builtin.Str.glued (Str.ofString "") ys).cps.toList = _
  rw [StrLaws.glued_eq_join]
  induction ys with
  | nil => rfl
  | cons y r ih =>
    cases r with
    | nil => show y.cps.toList = y.cps.toList ++ []; rw [List.append_nil]
    | cons z r =>
      show ((y ++ Str.ofString "") ++ Str.join (Str.ofString "") (z :: r)).cps.toList = _
      rw [PySem.W.KT.app_list, PySem.W.KT.app_list, ih, show (Str.ofString "").cps.toList = [] by decide +kernel, List.append_nil]
      rfl
theorem g_name {n : Nat} {QS : L2.St → Hp → Prop} (q : QS (σ.set n (some v)) H) : gName n v σ H QS := q
theorem g_inr {R : It → Hp → Prop} {p : Addr} {J : Addr → It} (q : (∃ xs, SqL K H p xs) ∧ R (J p) H) : ∃ a, V.ref p = .ref a ∧ (∃ xs, SqL K H a xs) ∧ R (J a) H := ⟨p, rfl, q⟩
theorem lex_trans {a b c : List Nat} (h : a < b) (k : b < c) : a < c := List.lt_trans h k
theorem lex_asymm {a b : List Nat} (h : a < b) : ¬ b < a := List.lt_asymm h
theorem lex_irrefl (a : List Nat) : ¬ a < a := List.lt_irrefl a
theorem lex_total {a b : List Nat} (h : ¬ a < b) (k : ¬ b < a) : a = b := List.le_antisymm (List.not_lt.mp k) (List.not_lt.mp h)
theorem str_ext {a b : Str} (h : a.cps.toList = b.cps.toList) : a = b := congrArg Str.mk (Array.toList_inj.mp h)
/-- a list, a tuple, a dict -/
def isRef (H : Hp) (p : Addr) : Prop := (∃ xs, H p = some (.lst xs)) ∨ (∃ xs, H p = some (.tup xs)) ∨ ∃ kvs, H p = some (.dK kvs)
theorem isRef.keep {H H' : Hp} {p : Addr} (h : isRef H p) (k : ∀ p o, H p = some o → H' p = some o) : isRef H' p := by
  rcases h with ⟨xs, h⟩ | ⟨xs, h⟩ | ⟨xs, h⟩
  · exact .inl ⟨xs, k _ _ h⟩
  · exact .inr (.inl ⟨xs, k _ _ h⟩)
  · exact .inr (.inr ⟨xs, k _ _ h⟩)
theorem g_isiR {p : Addr} {c : String} (h : isRef H p) (hc : c = "int" ∨ c = "str" ∨ c = "bool") (q : Q (.bl false) H) : rIsi K [.ref p, .ty c] H Q := by
  rcases h with ⟨xs, h⟩ | ⟨xs, h⟩ | ⟨xs, h⟩
  · exact g_isi (.base (.lst h)) (by rcases hc with rfl | rfl | rfl <;> decide +kernel) q
  · exact g_isi (.base (.tup h)) (by rcases hc with rfl | rfl | rfl <;> decide +kernel) q
  · exact g_isi (.base (.dK h)) (by rcases hc with rfl | rfl | rfl <;> decide +kernel) q
/-- a thing of any kind that a law draws -/
def thing (H : Hp) (v : V) : Prop := v = .non ∨ (∃ b, v = .bl b) ∨ (∃ i, v = .int i) ∨ (∃ z : Str, v = .str z ∧ z.length ≤ 100) ∨ ∃ p, v = .ref p ∧ isRef H p
theorem g_isiR0 {p : Addr} {c : String} (q : isRef H p ∧ (c = "int" ∨ c = "str" ∨ c = "bool") ∧ Q (.bl false) H) : rIsi K [.ref p, .ty c] H Q := g_isiR q.1 q.2.1 q.2.2
theorem thing.keep {H H' : Hp} {v : V} (h : thing H v) (k : ∀ p o, H p = some o → H' p = some o) : thing H' v := by
  rcases h with h | h | h | h | ⟨p, e, h⟩
  · exact .inl h
  · exact .inr (.inl h)
  · exact .inr (.inr (.inl h))
  · exact .inr (.inr (.inr (.inl h)))
  · exact .inr (.inr (.inr (.inr ⟨p, e, h.keep k⟩)))
def isIntB : V → Bool
  | .int _ => true
  | _ => false
theorem inV_strs {z : Str} {ws : List Str} : inV (.str z) (ws.map V.str) = decide (z ∈ ws) := by
  unfold inV
  rw [List.any_map]
  rw [Bool.eq_iff_iff, decide_eq_true_eq, List.any_eq_true]
  constructor
  · rintro ⟨y, hy, h⟩
    have : y = z := by simpa [eqV] using h
    rw [← this]; exact hy
  · intro h
    exact ⟨z, h, by simp [eqV]⟩
theorem flat_strs (ws : List Str) : (ws.map V.str).all flatV = true := by
  rw [List.all_map, List.all_eq_true]
  intro x _
  rfl
theorem atI_strs {ws : List Str} {i : Int} (h0 : 0 ≤ i) (h1 : i < ws.length) : ∃ z, z ∈ ws ∧ atI (ws.map V.str) i = some (.str z) := by
  obtain ⟨k, rfl⟩ := Int.eq_ofNat_of_zero_le h0
  have hk : k < ws.length := by omega
  refine ⟨ws[k], List.getElem_mem hk, atI_nat ?_⟩
  rw [List.getElem?_map, List.getElem?_eq_getElem hk]; rfl
theorem g_tupE {p : Addr} {R : Prop} (q : R) : R := q
theorem g_test (q : ta σ H fun x H' => ∃ k, x = .bl k ∧ QT k H') : tTest ta σ H QT := q
theorem g_B (q : ta σ H fun x H' => ∃ k, x = .bl k ∧ QT k H') : tB ta σ H QT := q
theorem g_bl {p : Bool → Prop} (q : p a) : ∃ k, V.bl a = .bl k ∧ p k := ⟨a, rfl, q⟩
theorem g_tand (q : c σ H fun d H1 => if d = true then u σ H1 QT else QT false H1) : tAnd c u σ H QT := q
theorem g_tor (q : c σ H fun d H1 => if d = true then QT true H1 else u σ H1 QT) : tOr c u σ H QT := q
theorem g_tnot (q : c σ H fun d H1 => QT (!d) H1) : tNot c σ H QT := q
theorem g_vand (q : ta σ H fun x H1 => ∃ c, x = .bl c ∧ if c = true then tb σ H1 Q else Q (.bl false) H1) : tAndV ta tb σ H Q := q
theorem g_vor (q : ta σ H fun x H1 => ∃ c, x = .bl c ∧ if c = true then Q (.bl true) H1 else tb σ H1 Q) : tOrV ta tb σ H Q := q
theorem g_vnot (q : ta σ H fun x H1 => ∃ c, x = .bl c ∧ Q (.bl (!c)) H1) : tNotV ta σ H Q := q
theorem g_eif (q : c σ H fun d H1 => if d = true then ta σ H1 Q else tb σ H1 Q) : tIf c ta tb σ H Q := q
theorem g_seq (q : ts (mkE (tz D) D.rt D.bk D.ct) σ H) : tSeq ts tz D σ H := q
theorem g_asg {n : Nat} (q : te σ H fun x H1 => D.nx (σ.set n (some x)) H1) : tAsg te (gName n) D σ H := q
theorem g_asgSub {to ti : TE} {s : TSet} (q : te σ H fun x H1 => to σ H1 fun o H2 => ti σ H2 fun i H3 => s o i x H3 fun H4 => D.nx σ H4) : tAsg te (gSub to ti s) D σ H := q
theorem g_ret (q : te σ H D.rt) : tRet te D σ H := q
theorem g_drop (q : te σ H fun _ H1 => D.nx σ H1) : tDrop te D σ H := q
theorem g_if {t1 t2 : TS} (q : c σ H fun d H1 => if d = true then t1 D σ H1 else t2 D σ H1) : tIfS c t1 t2 D σ H := q
theorem g_next (q : D.nx σ H) : tNext D σ H := q
variable {nx : L2.St → Hp → Prop} {rt : VK} {bk ct : L2.St → Hp → Prop}
theorem g_nx (q : nx σ H) : (mkE nx rt bk ct).nx σ H := q
theorem g_rt (q : rt v H) : (mkE nx rt bk ct).rt v H := q
theorem g_bk (q : bk σ H) : (mkE nx rt bk ct).bk σ H := q
theorem g_ct (q : ct σ H) : (mkE nx rt bk ct).ct σ H := q
theorem g_ctS (q : D.ct σ H) : tCont D σ H := q
theorem g_bkS (q : D.bk σ H) : tBreak D σ H := q
/-! sizes, places -/
theorem cpow_small (h0 : 0 ≤ j) (h1 : j ≤ 1000000) (h2 : -(2 ^ 64) < i) (h3 : i < 2 ^ 64) : CPowG i j := by
  have h := PySem.intBits_le_64 h2 h3
  have h4 : ((Builtin.Int.intBits i : Nat) : Int) ≤ 64 := by omega
  refine ⟨h0, ?_⟩
  have h5 : ((Builtin.Int.intBits i : Nat) : Int) * j ≤ 64 * j := Int.mul_le_mul_of_nonneg_right h4 h0
  omega
theorem atI_map {ns : List Int} {n : Int} (h : 0 ≤ n ∧ n < ((ns.map V.int).length : Nat)) : atI (ns.map V.int) n = some (.int (ns.getD n.toNat 0)) := by
  rw [List.length_map] at h
  obtain ⟨h0, h⟩ := h
  obtain ⟨k, rfl⟩ := Int.eq_ofNat_of_zero_le h0
  refine atI_nat ?_
  rw [List.getElem?_map, List.getD_eq_getElem?_getD, Int.toNat_natCast, List.getElem?_eq_getElem (by omega)]
  rfl
theorem atI_get {α : Type} {xs : List α} {n : Nat} {v : α} (h : xs[n]? = some v) : atI xs (n : Int) = some v := atI_nat h
/-! tests -/
theorem g_T {A B : Prop} (h : A) : if true = true then A else B := by rw [if_pos rfl]; exact h
theorem g_F {A B : Prop} (h : B) : if false = true then A else B := by rw [if_neg Bool.false_ne_true]; exact h
theorem g_split {A B : Prop} {k : Bool} (h1 : k = true → A) (h2 : k = false → B) : if k = true then A else B := by
  cases k
  · exact g_F (h2 rfl)
  · exact g_T (h1 rfl)
theorem g_dec {A B p : Prop} [Decidable p] (h1 : p → A) (h2 : ¬ p → B) : if decide p = true then A else B :=
  g_split (fun h => h1 (of_decide_eq_true h)) (fun h => h2 (of_decide_eq_false h))
theorem g_ndec {A B p : Prop} [Decidable p] (h1 : ¬ p → A) (h2 : p → B) : if (!decide p) = true then A else B := by
  by_cases h : p
  · rw [decide_eq_true h]; exact g_F (h2 h)
  · rw [decide_eq_false h]; exact g_T (h1 h)
theorem g_nsplit {A B : Prop} {k : Bool} (h1 : k = false → A) (h2 : k = true → B) : if (!k) = true then A else B := by
  cases k
  · exact g_Fn (h1 rfl)
  · exact g_Tn (h2 rfl)
/-! loops whose turns don't see what follows -/
theorem for_rangeA {lo : Int} {n : Nat} {g : TG} {tb : TS} (Pv : Nat → L2.St → Hp → Prop) (h0 : Pv 0 σ H)
    (hs : ∀ i σ H (D' : Ends), i < n → Pv i σ H → (∀ σ H, Pv (i + 1) σ H → D'.nx σ H) → (∀ σ H, Pv (i + 1) σ H → D'.ct σ H) → (∀ σ H, D.nx σ H → D'.bk σ H) → D'.rt = D.rt → g (.int (lo + i)) σ H fun σ2 H2 => tb D' σ2 H2) (hd : ∀ σ H, Pv n σ H → D.nx σ H) :
    ∃ W : Nat → Nat → L2.St → Hp → Prop, (∃ m, W 0 m σ H) ∧ ∀ i m σ H, W i m σ H →
      ((Itr lo n).stop i H ∧ D.nx σ H) ∨ ((Itr lo n).go i H ∧ ∃ N : L2.St → Hp → Prop, (∀ σ' H', N σ' H' → ∃ m', m' < m ∧ W (i + 1) m' σ' H') ∧ ∀ x H', (Itr lo n).yld i H x H' → g x σ H' fun σ2 H2 => tb { D with nx := N, ct := N, bk := D.nx } σ2 H2) :=
  for_range Pv h0 (fun i σ H hi p => hs i σ H _ hi p (fun _ _ h => h) (fun _ _ h => h) (fun _ _ h => h) rfl) hd
theorem for_listA {p : Addr} {xs : List V} {g : TG} {tb : TS} (Pv : Nat → L2.St → Hp → Prop) (h0 : Pv 0 σ H) (hl : ∀ i σ H, i ≤ xs.length → Pv i σ H → SqL K H p xs)
    (hs : ∀ i x σ H (D' : Ends), xs[i]? = some x → Pv i σ H → (∀ σ H, Pv (i + 1) σ H → D'.nx σ H) → (∀ σ H, Pv (i + 1) σ H → D'.ct σ H) → (∀ σ H, D.nx σ H → D'.bk σ H) → D'.rt = D.rt → g x σ H fun σ2 H2 => tb D' σ2 H2) (hd : ∀ σ H, Pv xs.length σ H → D.nx σ H) :
    ∃ W : Nat → Nat → L2.St → Hp → Prop, (∃ m, W 0 m σ H) ∧ ∀ i m σ H, W i m σ H →
      ((Itl K p).stop i H ∧ D.nx σ H) ∨ ((Itl K p).go i H ∧ ∃ N : L2.St → Hp → Prop, (∀ σ' H', N σ' H' → ∃ m', m' < m ∧ W (i + 1) m' σ' H') ∧ ∀ x H', (Itl K p).yld i H x H' → g x σ H' fun σ2 H2 => tb { D with nx := N, ct := N, bk := D.nx } σ2 H2) :=
  for_list Pv h0 hl (fun i x σ H hi p => hs i x σ H _ hi p (fun _ _ h => h) (fun _ _ h => h) (fun _ _ h => h) rfl) hd
theorem g_cutA {M : L2.St → Hp → Prop} (h : ∀ D' : Ends, (∀ σ H, M σ H → D'.nx σ H) → D'.rt = D.rt → D'.bk = D.bk → D'.ct = D.ct → ts D' σ H) (k : ∀ σ' H', M σ' H' → tz D σ' H') : Evl.tCut ts tz D σ H :=
  ⟨M, h _ (fun _ _ h => h) rfl rfl rfl, k⟩
/-! stores -/
theorem g_setL {p : Addr} {xs : List V} {n : Nat} {QH : Hp → Prop} (h : H p = some (.lst xs)) (e : ixN xs.length i = some n) (q : QH (upd H p (.lst (xs.set n v)))) : rSetL (.ref p) (.int i) v H QH := ⟨p, xs, i, n, rfl, rfl, h, e, q⟩
theorem g_app {p : Addr} {xs : List V} (h : H p = some (.lst xs)) (hz : xs.length < 10000000) (q : Q .non (upd H p (.lst (xs ++ [v])))) : rAppend (.ref p) [v] H Q := ⟨p, xs, v, rfl, rfl, h, by rw [sizeLine_eq]; omega, q⟩
theorem g_app0 {p : Addr} (q : ∃ xs, H p = some (.lst xs) ∧ xs.length < 10000000 ∧ Q .non (upd H p (.lst (xs ++ [v])))) : rAppend (.ref p) [v] H Q := by
  obtain ⟨xs, h, hz, q⟩ := q
  exact g_app h hz q
theorem g_bm {r : V → List V → Hp → VK → Prop} {T : String} (q : ta σ H fun x H1 => tyV K T x H1 ∧ t σ H1 fun xs H2 => r x xs H2 Q) : tBM K T r ta t σ H Q := q
theorem tyL {p : Addr} {xs : List V} (h : H p = some (.lst xs)) : tyV K "list" (.ref p) H := .inl ⟨rfl, xs, SqL.of h⟩
theorem g_tyL {p : Addr} {R : Prop} (q : (∃ xs, H p = some (.lst xs)) ∧ R) : tyV K "list" (.ref p) H ∧ R := ⟨let ⟨_, h⟩ := q.1; tyL h, q.2⟩
end
end Tw

set_option Elab.async false
set_option linter.all false
set_option maxRecDepth 100000
namespace Tw
open PySem L2 PySem.Spec
/-- an iterator that goes through xs -/
structure Fits (J : It) (xs : List V) (H : Hp) : Prop where
  go : ∀ i, i < xs.length → J.go i H
  stop : ∀ i, xs.length ≤ i → J.stop i H
  yld : ∀ i x H', J.yld i H x H' → H' = H ∧ xs[i]? = some x
theorem fits_l {K : PySem.W.Frag} {H : Hp} {a : Addr} {xs : List V} (h : SqL K H a xs) : Fits (Itl K a) xs H :=
  ⟨fun i hi => ⟨xs, xs[i], h, by simp [hi]⟩, fun i hi => ⟨xs, h, hi⟩, fun i x H' y => ⟨y.1, y.2 xs h⟩⟩
theorem fits_t {K : PySem.W.Frag} {H : Hp} {a : Addr} {xs : List V} (h : SqT K H a xs) : Fits (Itt K a) xs H :=
  ⟨fun i hi => ⟨xs, xs[i], h, by simp [hi]⟩, fun i hi => ⟨xs, h, hi⟩, fun i x H' y => ⟨y.1, y.2 xs h⟩⟩
theorem take_flat {F : V → List V} {xs : List V} {i : Nat} {x : V} (h : xs[i]? = some x) : (xs.take (i + 1)).flatMap F = (xs.take i).flatMap F ++ F x := by
  rw [List.take_succ, h, List.flatMap_append]
  simp
theorem flat_le {F : V → List V} {xs : List V} {i : Nat} {x : V} (h : xs[i]? = some x) : ((xs.take i).flatMap F ++ F x).length ≤ (xs.flatMap F).length := by
  rw [← take_flat h]
  conv => rhs; rw [← List.take_append_drop (i + 1) xs]
  rw [List.flatMap_append, List.length_append]
  omega
theorem rng_le {F : Nat → List V} {n : Nat} : ∀ {i : Nat}, i < n → ((List.range i).flatMap F ++ F i).length ≤ ((List.range n).flatMap F).length := by
  intro i h
  have e : (List.range (i + 1)).flatMap F = (List.range i).flatMap F ++ F i := by rw [List.range_succ, List.flatMap_append]; simp
  rw [← e]
  obtain ⟨m, rfl⟩ : ∃ m, n = (i + 1) + m := ⟨n - (i + 1), by omega⟩
  have e2 : List.range (i + 1 + m) = List.range (i + 1) ++ (List.range m).map (i + 1 + ·) := List.range_add
  rw [e2, List.flatMap_append, List.length_append]
  omega
section
variable {J : It} {g g1 : TG} {tt tt1 : TT} {wi1 : TI} {te : TE} {vs vs1 : List Nat} {σ : L2.St} {H1 : Hp} {D : Addr} {Qd : Hp → Prop}
/-- a comprehension with two fors and no ifs: what the inner ones hold, one behind the other -/
theorem lc2_flat (xs : List V) (F : V → List V) (hD : H1 D = none) (hJ : ∀ H, (∀ q o, H1 q = some o → H q = some o) → Fits J xs H) (hlen : (xs.flatMap F).length ≤ 1000000)
    (hs : ∀ x Hh (R : L2.St → It → Hp → Prop) (S : Hp → Prop), x ∈ xs → (∀ q o, H1 q = some o → Hh q = some o) →
      (∀ σ2 J1 H', (∀ q o, Hh q = some o → H' q = some o) → (∀ H'', (∀ q o, q ≠ D → H' q = some o → H'' q = some o) → Fits J1 (F x) H'') →
        (∀ y Hk (R1 : V → Hp → Prop) (S1 : Hp → Prop), y ∈ F x → R1 y Hk → g1 y (wipe σ2 vs1) Hk fun σ3 H5 => wipe σ3 vs1 = wipe σ2 vs1 ∧ tt1 σ3 H5 fun b H6 => if b = true then te σ3 H6 R1 else S1 H6) → R σ2 J1 H') →
      g x (wipe σ vs) Hh fun σ2 H2 => wipe σ2 vs = wipe σ vs ∧ tt σ2 H2 fun b H3 => if b = true then wi1 σ2 H3 (R σ2) else S H3)
    (hd : ∀ H, (∀ q o, H1 q = some o → H q = some o) → H D = some (.lst (xs.flatMap F)) → Qd H) :
    ∃ W : Nat → Nat → Hp → Prop, (∃ m, W 0 m (upd H1 D (.lst []))) ∧ ∀ i m H, W i m H →
      (J.stop i H ∧ Qd H) ∨ (J.go i H ∧ ∃ Nx : Hp → Prop, (∀ H', Nx H' → ∃ m', m' < m ∧ W (i + 1) m' H') ∧ ∀ x H', J.yld i H x H' → g x (wipe σ vs) H' fun σ2 H2 => wipe σ2 vs = wipe σ vs ∧ tt σ2 H2 fun b H3 =>
        if b = true then wi1 σ2 H3 fun J1 H4 => ∃ W1 : Nat → Nat → Hp → Prop, (∃ m, W1 0 m H4) ∧ ∀ j k H, W1 j k H →
          (J1.stop j H ∧ Nx H) ∨ (J1.go j H ∧ ∃ Nx1 : Hp → Prop, (∀ H', Nx1 H' → ∃ k', k' < k ∧ W1 (j + 1) k' H') ∧ ∀ x H', J1.yld j H x H' → g1 x (wipe σ2 vs1) H' fun σ3 H5 => wipe σ3 vs1 = wipe σ2 vs1 ∧ tt1 σ3 H5 fun b H6 =>
            if b = true then te σ3 H6 fun y H7 => ∃ acc, H7 D = some (.lst acc) ∧ acc.length < sizeLine ∧ Nx1 (upd H7 D (.lst (acc ++ [y]))) else Nx1 H6)
        else Nx H3) := by
  refine ⟨fun i m H => m = xs.length - i ∧ i ≤ xs.length ∧ H D = some (.lst ((xs.take i).flatMap F)) ∧ ∀ q o, H1 q = some o → H q = some o, ⟨xs.length, by simp, Nat.zero_le _, upd_same, fun q o h => by rw [upd_ne (ne_of_none h hD)]; exact h⟩, ?_⟩
  rintro i m H ⟨rfl, hi, hDl, hK⟩
  have fi := hJ H hK
  by_cases hlt : i < xs.length
  · refine .inr ⟨fi.go i hlt, fun H' => H' D = some (.lst ((xs.take (i + 1)).flatMap F)) ∧ ∀ q o, H1 q = some o → H' q = some o, fun H' w => ⟨xs.length - (i + 1), by omega, rfl, hlt, w⟩, ?_⟩
    intro x H' hy
    obtain ⟨rfl, hx⟩ := fi.yld i x H' hy
    refine hs x H' (fun σ2 J1 H4 => _) (fun H3 => _) (List.mem_of_getElem? hx) hK fun σ2 J1 H4 ext f1 turn => ?_
    have e1 := take_flat (F := F) hx
    have l1 := flat_le (F := F) hx
    refine ⟨fun j k H => k = (F x).length - j ∧ j ≤ (F x).length ∧ H D = some (.lst ((xs.take i).flatMap F ++ (F x).take j)) ∧ ∀ q o, q ≠ D → H4 q = some o → H q = some o, ⟨(F x).length, by simp, Nat.zero_le _, by rw [ext _ _ hDl, List.take_zero, List.append_nil], fun q o _ h => h⟩, ?_⟩
    rintro j k Hj ⟨rfl, hj, hDj, hKj⟩
    have fj := f1 Hj hKj
    by_cases hjl : j < (F x).length
    · refine .inr ⟨fj.go j hjl, fun H' => H' D = some (.lst ((xs.take i).flatMap F ++ (F x).take (j + 1))) ∧ ∀ q o, q ≠ D → H4 q = some o → H' q = some o, fun H' w => ⟨(F x).length - (j + 1), by omega, rfl, hjl, w⟩, ?_⟩
      intro y Hy hyy
      obtain ⟨rfl, hyx⟩ := fj.yld j y Hy hyy
      refine turn y Hy (fun y H7 => _) (fun H6 => _) (List.mem_of_getElem? hyx) ⟨_, hDj, ?_, ?_, fun q o n h => by rw [upd_ne n]; exact hKj q o n h⟩
      · rw [List.length_append] at l1 ⊢
        have : ((F x).take j).length ≤ (F x).length := by rw [List.length_take]; omega
        rw [sizeLine_eq]
        omega
      · rw [upd_same, List.take_succ, hyx, List.append_assoc]
        rfl
    · have e : j = (F x).length := by omega
      subst e
      refine .inl ⟨fj.stop _ (Nat.le_refl _), ?_, fun q o h => hKj q o (ne_of_none h hD) (ext q o (hK q o h))⟩
      rw [hDj, List.take_length, e1]
  · have e : i = xs.length := by omega
    subst e
    refine .inl ⟨fi.stop _ (Nat.le_refl _), hd H hK ?_⟩
    rw [hDl, List.take_length]
/-- the same, the inner ones told by their places: what the inner ones hold, one behind the other -/
theorem lc2_flatI (xs : List V) (F : Nat → List V) (hD : H1 D = none) (hJ : ∀ H, (∀ q o, H1 q = some o → H q = some o) → Fits J xs H) (hlen : ((List.range xs.length).flatMap F).length ≤ 1000000)
    (hs : ∀ i x Hh (R : L2.St → It → Hp → Prop) (S : Hp → Prop), xs[i]? = some x → Hh D ≠ none → (∀ q o, H1 q = some o → Hh q = some o) →
      (∀ σ2 J1 H', (∀ q o, Hh q = some o → H' q = some o) → (∀ H'', (∀ q o, q ≠ D → H' q = some o → H'' q = some o) → Fits J1 (F i) H'') →
        (∀ y Hk (R1 : V → Hp → Prop) (S1 : Hp → Prop), y ∈ F i → R1 y Hk → g1 y (wipe σ2 vs1) Hk fun σ3 H5 => wipe σ3 vs1 = wipe σ2 vs1 ∧ tt1 σ3 H5 fun b H6 => if b = true then te σ3 H6 R1 else S1 H6) → R σ2 J1 H') →
      g x (wipe σ vs) Hh fun σ2 H2 => wipe σ2 vs = wipe σ vs ∧ tt σ2 H2 fun b H3 => if b = true then wi1 σ2 H3 (R σ2) else S H3)
    (hd : ∀ H, (∀ q o, H1 q = some o → H q = some o) → H D = some (.lst ((List.range xs.length).flatMap F)) → Qd H) :
    ∃ W : Nat → Nat → Hp → Prop, (∃ m, W 0 m (upd H1 D (.lst []))) ∧ ∀ i m H, W i m H →
      (J.stop i H ∧ Qd H) ∨ (J.go i H ∧ ∃ Nx : Hp → Prop, (∀ H', Nx H' → ∃ m', m' < m ∧ W (i + 1) m' H') ∧ ∀ x H', J.yld i H x H' → g x (wipe σ vs) H' fun σ2 H2 => wipe σ2 vs = wipe σ vs ∧ tt σ2 H2 fun b H3 =>
        if b = true then wi1 σ2 H3 fun J1 H4 => ∃ W1 : Nat → Nat → Hp → Prop, (∃ m, W1 0 m H4) ∧ ∀ j k H, W1 j k H →
          (J1.stop j H ∧ Nx H) ∨ (J1.go j H ∧ ∃ Nx1 : Hp → Prop, (∀ H', Nx1 H' → ∃ k', k' < k ∧ W1 (j + 1) k' H') ∧ ∀ x H', J1.yld j H x H' → g1 x (wipe σ2 vs1) H' fun σ3 H5 => wipe σ3 vs1 = wipe σ2 vs1 ∧ tt1 σ3 H5 fun b H6 =>
            if b = true then te σ3 H6 fun y H7 => ∃ acc, H7 D = some (.lst acc) ∧ acc.length < sizeLine ∧ Nx1 (upd H7 D (.lst (acc ++ [y]))) else Nx1 H6)
        else Nx H3) := by
  refine ⟨fun i m H => m = xs.length - i ∧ i ≤ xs.length ∧ H D = some (.lst ((List.range i).flatMap F)) ∧ ∀ q o, H1 q = some o → H q = some o, ⟨xs.length, by simp, Nat.zero_le _, upd_same, fun q o h => by rw [upd_ne (ne_of_none h hD)]; exact h⟩, ?_⟩
  rintro i m H ⟨rfl, hi, hDl, hK⟩
  have fi := hJ H hK
  by_cases hlt : i < xs.length
  · refine .inr ⟨fi.go i hlt, fun H' => H' D = some (.lst ((List.range (i + 1)).flatMap F)) ∧ ∀ q o, H1 q = some o → H' q = some o, fun H' w => ⟨xs.length - (i + 1), by omega, rfl, hlt, w⟩, ?_⟩
    intro x H' hy
    obtain ⟨rfl, hx⟩ := fi.yld i x H' hy
    refine hs i x H' (fun σ2 J1 H4 => _) (fun H3 => _) hx (by rw [hDl]; exact nofun) hK fun σ2 J1 H4 ext f1 turn => ?_
    have e1 : (List.range (i + 1)).flatMap F = (List.range i).flatMap F ++ F i := by rw [List.range_succ, List.flatMap_append]; simp
    have l1 : ((List.range i).flatMap F ++ F i).length ≤ ((List.range xs.length).flatMap F).length := rng_le hlt
    refine ⟨fun j k H => k = (F i).length - j ∧ j ≤ (F i).length ∧ H D = some (.lst ((List.range i).flatMap F ++ (F i).take j)) ∧ ∀ q o, q ≠ D → H4 q = some o → H q = some o, ⟨(F i).length, by simp, Nat.zero_le _, by rw [ext _ _ hDl, List.take_zero, List.append_nil], fun q o _ h => h⟩, ?_⟩
    rintro j k Hj ⟨rfl, hj, hDj, hKj⟩
    have fj := f1 Hj hKj
    by_cases hjl : j < (F i).length
    · refine .inr ⟨fj.go j hjl, fun H' => H' D = some (.lst ((List.range i).flatMap F ++ (F i).take (j + 1))) ∧ ∀ q o, q ≠ D → H4 q = some o → H' q = some o, fun H' w => ⟨(F i).length - (j + 1), by omega, rfl, hjl, w⟩, ?_⟩
      intro y Hy hyy
      obtain ⟨rfl, hyx⟩ := fj.yld j y Hy hyy
      refine turn y Hy (fun y H7 => _) (fun H6 => _) (List.mem_of_getElem? hyx) ⟨_, hDj, ?_, ?_, fun q o n h => by rw [upd_ne n]; exact hKj q o n h⟩
      · rw [List.length_append] at l1 ⊢
        have : ((F i).take j).length ≤ (F i).length := by rw [List.length_take]; omega
        rw [sizeLine_eq]
        omega
      · rw [upd_same, List.take_succ, hyx, List.append_assoc]
        rfl
    · have e : j = (F i).length := by omega
      subst e
      refine .inl ⟨fj.stop _ (Nat.le_refl _), ?_, fun q o h => hKj q o (ne_of_none h hD) (ext q o (hK q o h))⟩
      rw [hDj, List.take_length, e1]
  · have e : i = xs.length := by omega
    subst e
    refine .inl ⟨fi.stop _ (Nat.le_refl _), hd H hK ?_⟩
    exact hDl
/-- a comprehension whose turns leave the heap -/
theorem lc_map (xs : List V) (v : V → V) (hD : H1 D = none) (hJ : ∀ H, (∀ q o, H1 q = some o → H q = some o) → Fits J xs H) (hlen : xs.length ≤ 1000000)
    (hs : ∀ x Hh (R : V → Hp → Prop) (S : Hp → Prop), x ∈ xs → (∀ q o, H1 q = some o → Hh q = some o) → R (v x) Hh →
      g x (wipe σ vs) Hh fun σ2 H2 => wipe σ2 vs = wipe σ vs ∧ tt σ2 H2 fun b H3 => if b = true then te σ2 H3 R else S H3)
    (hd : ∀ H, (∀ q o, H1 q = some o → H q = some o) → H D = some (.lst (xs.map v)) → Qd H) :
    ∃ W : Nat → Nat → Hp → Prop, (∃ m, W 0 m (upd H1 D (.lst []))) ∧ ∀ i m H, W i m H →
      (J.stop i H ∧ Qd H) ∨ (J.go i H ∧ ∃ Nx : Hp → Prop, (∀ H', Nx H' → ∃ m', m' < m ∧ W (i + 1) m' H') ∧ ∀ x H', J.yld i H x H' → g x (wipe σ vs) H' fun σ2 H2 => wipe σ2 vs = wipe σ vs ∧ tt σ2 H2 fun b H3 =>
        if b = true then te σ2 H3 fun y H4 => ∃ acc, H4 D = some (.lst acc) ∧ acc.length < sizeLine ∧ Nx (upd H4 D (.lst (acc ++ [y]))) else Nx H3) := by
  refine ⟨fun i m H => m = xs.length - i ∧ i ≤ xs.length ∧ H D = some (.lst ((xs.take i).map v)) ∧ ∀ q o, H1 q = some o → H q = some o, ⟨xs.length, by simp, Nat.zero_le _, upd_same, fun q o h => by rw [upd_ne (ne_of_none h hD)]; exact h⟩, ?_⟩
  rintro i m H ⟨rfl, hi, hDl, hK⟩
  have fi := hJ H hK
  by_cases hlt : i < xs.length
  · refine .inr ⟨fi.go i hlt, fun H' => H' D = some (.lst ((xs.take (i + 1)).map v)) ∧ ∀ q o, H1 q = some o → H' q = some o, fun H' w => ⟨xs.length - (i + 1), by omega, rfl, hlt, w⟩, ?_⟩
    intro x H' hy
    obtain ⟨rfl, hx⟩ := fi.yld i x H' hy
    refine hs x H' (fun y H4 => _) (fun H3 => _) (List.mem_of_getElem? hx) hK ⟨_, hDl, ?_, ?_, fun q o h => by rw [upd_ne (ne_of_none h hD)]; exact hK q o h⟩
    · rw [List.length_map, List.length_take, sizeLine_eq]
      omega
    · rw [upd_same, List.take_succ, hx, List.map_append]
      rfl
  · have e : i = xs.length := by omega
    subst e
    refine .inl ⟨fi.stop _ (Nat.le_refl _), hd H hK ?_⟩
    rw [hDl, List.take_length]
variable {K : PySem.W.Frag} {Q : VK}
theorem g_lc2 {wi : TI} (q : wi σ H1 fun J H1 => ∀ D, H1 D = none → ∃ W : Nat → Nat → Hp → Prop, (∃ m, W 0 m (upd H1 D (.lst []))) ∧ ∀ i m H, W i m H →
      (J.stop i H ∧ Q (.ref D) H) ∨ (J.go i H ∧ ∃ Nx : Hp → Prop, (∀ H', Nx H' → ∃ m', m' < m ∧ W (i + 1) m' H') ∧ ∀ x H', J.yld i H x H' → g x (wipe σ vs) H' fun σ2 H2 => wipe σ2 vs = wipe σ vs ∧ tt σ2 H2 fun b H3 =>
        if b = true then wi1 σ2 H3 fun J1 H4 => ∃ W1 : Nat → Nat → Hp → Prop, (∃ m, W1 0 m H4) ∧ ∀ j k H, W1 j k H →
          (J1.stop j H ∧ Nx H) ∨ (J1.go j H ∧ ∃ Nx1 : Hp → Prop, (∀ H', Nx1 H' → ∃ k', k' < k ∧ W1 (j + 1) k' H') ∧ ∀ x H', J1.yld j H x H' → g1 x (wipe σ2 vs1) H' fun σ3 H5 => wipe σ3 vs1 = wipe σ2 vs1 ∧ tt1 σ3 H5 fun b H6 =>
            if b = true then te σ3 H6 fun y H7 => ∃ acc, H7 D = some (.lst acc) ∧ acc.length < sizeLine ∧ Nx1 (upd H7 D (.lst (acc ++ [y]))) else Nx1 H6)
        else Nx H3)) : tLc2 wi g tt wi1 g1 tt1 te vs vs1 σ H1 Q := q
end
end Tw

set_option Elab.async false
set_option linter.all false
set_option maxRecDepth 100000
set_option maxHeartbeats 4000000
/-! sets of values of one kind, by the list of their members: made of a list, sorted -/
namespace Tw
open PySem L2 PySem.Spec PyProof.Rows
/-- a list that is an arrangement of mapped things is mapped of an arrangement -/
theorem perm_unmap {α β : Type} {f : α → β} {l : List β} {xs : List α} (p : l.Perm (xs.map f)) : ∃ ys : List α, l = ys.map f ∧ ys.Perm xs := by
  generalize hm : xs.map f = m at p
  induction p generalizing xs with
  | nil =>
    have : xs = [] := List.map_eq_nil_iff.mp hm
    exact ⟨[], rfl, by rw [this]⟩
  | cons b _ ih =>
    cases xs with
    | nil => cases hm
    | cons x xs =>
      injection hm with h1 h2
      obtain ⟨ys, e, p⟩ := ih h2
      exact ⟨x :: ys, by rw [List.map_cons, ← e, h1], p.cons x⟩
  | swap b c l =>
    match xs, hm with
    | x :: y :: r, hm =>
      injection hm with h1 h2
      injection h2 with h2 h3
      exact ⟨y :: x :: r, by rw [List.map_cons, List.map_cons, h1, h2, h3], List.Perm.swap x y r⟩
  | trans _ _ ih1 ih2 =>
    obtain ⟨ys, e, p⟩ := ih2 hm
    obtain ⟨zs, e2, p2⟩ := ih1 e.symm
    exact ⟨zs, e2, p2.trans p⟩
section
variable {P : Program} {w : World} {κ : Type} [DecidableEq κ] {knd : PySem.KeyKind P w κ}
/-- the set at a: its members by key and value, in the order in which its table keeps them -/
def SetL (knd : PySem.KeyKind P w κ) (h : Heap) (a : Addr) (L : List (κ × Value)) : Prop :=
  ∃ o es ep t, h.get? a = some o ∧ o.ExactSet ∧ o.data = .set es ep t ∧ es.toList = L.map (fun p => (knd.hash p.1, p.2)) ∧ (∀ p ∈ L, knd.is p.1 p.2 = true ∧ p.2.scannable = true) ∧ (L.map (·.1)).Nodup ∧
    es.size < scanBound ∧ t.fits es.size = true ∧ Ris t.place.toList ∧ (w.params.followText "set-order" = true ∨ t.led = true)
theorem SetL.at {h h' : Heap} {a : Addr} {L : List (κ × Value)} (S : SetL knd h a L) (k : ∀ o, h.get? a = some o → h'.get? a = some o) : SetL knd h' a L := by
  obtain ⟨o, es, ep, t, g, r⟩ := S
  exact ⟨o, es, ep, t, k o g, r⟩
theorem SetL.len {h : Heap} {a : Addr} {L : List (κ × Value)} (S : SetL knd h a L) : L.length < scanBound := by
  obtain ⟨o, es, ep, t, g, gx, gd, ge, gi, gn, gb, _⟩ := S
  have : es.toList.length = L.length := by rw [ge, List.length_map]
  rw [Array.length_toList] at this
  omega
theorem elems_of {L : List (κ × Value)} (gi : ∀ p ∈ L, knd.is p.1 p.2 = true ∧ p.2.scannable = true) : ElemsOf knd (L.map fun p => (knd.hash p.1, p.2)) := fun e he => by
  obtain ⟨p, hp, rfl⟩ := List.mem_map.mp he
  exact ⟨⟨p.1, (gi p hp).1, rfl⟩, (gi p hp).2⟩
variable {A : Around} {E : Value → Shared → Prop} {s : Shared} {a : Addr}
/-- the table laid anew and kept -/
theorem keep_laid {o : Obj} {es : Array (Int × Value)} {ep : Nat} {t : SetTable} (g : s.heap.get? a = some o) (gx : o.ExactSet) (gd : o.data = .set es ep t) {es2 : Array (Int × Value)} {t2 : SetTable} {L2' : List (κ × Value)}
    (ge : es2.toList = L2'.map (fun p => (knd.hash p.1, p.2))) (gi : ∀ p ∈ L2', knd.is p.1 p.2 = true ∧ p.2.scannable = true) (gn : (L2'.map (·.1)).Nodup) (gb : es2.size < scanBound) (gf : t2.fits es2.size = true) (gr : Ris t2.place.toList)
    (gl : w.params.followText "set-order" = true ∨ t2.led = true) {Q : Unit → Shared → Prop} (hQ : ∀ h', Heap.SameBut a s.heap h' → (∃ o', h'.get? a = some o' ∧ o'.ExactSet ∧ o'.data = .set es2 (ep + 1) t2) → SetL knd h' a L2' → Q () { s with heap := h' }) :
    wpAny (model P w) A (storeSet a es2 t2) Q E s := by
  refine wpAny_storeSet_of g gd ?_ (fits_of_scanBound gb)
  have g2 := store_at (es' := es2) (t' := t2) g gd
  exact hQ _ (Heap.SameBut.update s.heap a (Obj.putSet es2 t2)) ⟨_, g2, gx, rfl⟩ ⟨_, es2, _, t2, g2, gx, rfl, ge, gi, gn, gb, gf, gr, gl⟩
/-- a table that has been laid is kept, and laid out wider where it is too full -/
theorem keep_wide {o : Obj} {es : Array (Int × Value)} {ep : Nat} {t : SetTable} (g : s.heap.get? a = some o) (gx : o.ExactSet) (gd : o.data = .set es ep t) {es2 : Array (Int × Value)} {t2 : SetTable} {M : List (κ × Value)}
    (ge : es2.toList = M.map (fun p => (knd.hash p.1, p.2))) (gi : ∀ p ∈ M, knd.is p.1 p.2 = true ∧ p.2.scannable = true) (gn : (M.map (·.1)).Nodup) (gb : es2.size < scanBound) (gf : t2.fits es2.size = true) (gr : Ris t2.place.toList)
    (gl : w.params.followText "set-order" = true ∨ t2.led = true) {was : Bool} {told : Bool → Sem Unit} (ht : ∀ (b : Bool) (s1 : Shared) (Q1 : Unit → Shared → Prop), Q1 () s1 → wpAny (model P w) A (told b) Q1 E s1) {Q : Option Bool → Shared → Prop}
    (hQ : ∀ h' M', Heap.SameBut a s.heap h' → SetL knd h' a M' → M'.Perm M → Q (some true) { s with heap := h' }) :
    wpAny (model P w) A (storeSet a es2 t2 >>= fun _ => if (!was && t2.tooFull) = true then told (relayAll t2 es2 (SetTable.grown es2.size)).2.2 >>= fun _ => storeSet a (relayAll t2 es2 (SetTable.grown es2.size)).1 (relayAll t2 es2 (SetTable.grown es2.size)).2.1 >>= fun _ => pure (some true) else pure (some true)) Q E s := by
  refine wpAny_bind (keep_laid g gx gd ge gi gn gb gf gr gl fun h1 sb1 ⟨o1, g1, gx1, gd1⟩ S1 => ?_)
  by_cases full : (!was && t2.tooFull) = true
  · rw [if_pos full]
    have p1 := relayAll_perm t2 es2 (SetTable.grown es2.size)
    have p2 := relayAll_fits t2 es2 (SetTable.grown es2.size)
    have p3 := relayAll_ris t2 es2 (SetTable.grown es2.size)
    have p4 := relayAll_led t2 es2 (SetTable.grown es2.size)
    rw [ge] at p1
    obtain ⟨M', e', pm⟩ := perm_unmap p1
    have sz : (relayAll t2 es2 (SetTable.grown es2.size)).1.size < scanBound := by
      have q := congrArg List.length e'
      rw [Array.length_toList, List.length_map, pm.length_eq] at q
      have q2 := congrArg List.length ge
      rw [Array.length_toList, List.length_map] at q2
      omega
    refine wpAny_bind (ht _ _ _ ?_)
    refine wpAny_bind (keep_laid (s := { s with heap := h1 }) g1 gx1 gd1 e' (fun p hp => gi p (pm.mem_iff.mp hp)) ((pm.map _).nodup_iff.mpr gn) sz p2 p3 (gl.imp id fun z => by rw [p4]; exact z) fun h2 sb2 _ S2 => ?_)
    exact wpAny_pure (hQ h2 M' (sb1.trans sb2) S2 pm)
  · rw [if_neg full]
    exact wpAny_pure (hQ h1 M sb1 S1 (List.Perm.refl M))
/-- one more member -/
theorem set_one_more {L : List (κ × Value)} (S : SetL knd s.heap a L) {k : κ} {v : Value} (hk : knd.is k v = true) (hv : v.scannable = true) (room : L.length + 1 < scanBound) {Q : Bool → Shared → Prop}
    (hQ : ∀ h' L' b, Heap.SameBut a s.heap h' → SetL knd h' a L' → (∀ j, j ∈ L'.map (·.1) ↔ j ∈ L.map (·.1) ∨ j = k) → L'.length ≤ L.length + 1 → Q b { s with heap := h' }) :
    wpAny (model P w) A (setAddHashed a v (knd.hash k)) Q E s := by
  obtain ⟨o, es, ep, t, g, gx, gd, ge, gi, gn, gb, gf, gr, gl⟩ := id S
  have el : ElemsOf knd es.toList := by rw [ge]; exact elems_of gi
  unfold setAddHashed setAddHashedIn
  refine wpAny_holding ?_
  refine wpAny_bind (wpAny_setState_of g gd gf ?_)
  dsimp only
  rw [byScan_of hv gb el, if_pos rfl]
  refine wpAny_bind ?_
  unfold setAddByScan
  refine wpAny_bind (wpAny_rule ?_)
  refine wpAny_bind (wpAny_setScan_of hk g gd gf el ?_)
  cases hf : es.toList.findIdx? (fun e => knd.is k e.2) with
  | some j =>
    dsimp only
    have hin : k ∈ L.map (·.1) := by
      obtain ⟨hj, pj, _⟩ := List.findIdx?_eq_some_iff_getElem.mp hf
      have hm : es.toList[j] ∈ L.map (fun p => (knd.hash p.1, p.2)) := by rw [← ge]; exact List.getElem_mem hj
      obtain ⟨p, hp, e⟩ := List.mem_map.mp hm
      have pj' : knd.is k p.2 = true := by rw [← e] at pj; exact pj
      exact List.mem_map.mpr ⟨p, hp, knd.inj p.2 _ _ (gi p hp).1 pj'⟩
    exact wpAny_pure (wpAny_pure (hQ s.heap L false (Heap.SameBut.refl a s.heap) S (fun i => ⟨.inl, fun z => z.elim id fun e => by rw [e]; exact hin⟩) (Nat.le_succ _)))
  | none =>
    dsimp only
    have out : k ∉ L.map (·.1) := fun z => by
      obtain ⟨p, hp, e⟩ := List.mem_map.mp z
      have c := List.findIdx?_eq_none_iff.mp hf (knd.hash p.1, p.2) (by rw [ge]; exact List.mem_map.mpr ⟨p, hp, rfl⟩)
      have c' : knd.is k p.2 = false := c
      rw [← e, (gi p hp).1] at c'
      cases c'
    have gave : ∀ (b : Bool) (s1 : Shared) (Q1 : Unit → Shared → Prop), Q1 () s1 → wpAny (model P w) A (match b with | true => rule "set.scan.the-table-gave-way" | false => pure ()) Q1 E s1 := by
      intro b s1 Q1 q
      cases b
      · exact wpAny_pure q
      · exact wpAny_rule q
    have l1 := layNew_perm t es (knd.hash k) v
    have l2 := layNew_fits t es (knd.hash k) v
    have l3 := layNew_ris t es (knd.hash k) v gr
    have l4 := layNew_led t es (knd.hash k) v
    generalize layNew t es (knd.hash k) v = Z at l1 l2 l3 l4 ⊢
    obtain ⟨es1, t1, was, gv⟩ := Z
    dsimp only at l1 l2 l3 l4 ⊢
    have l1' : es1.toList.Perm (((k, v) :: L).map fun p => (knd.hash p.1, p.2)) := by
      rw [Array.toList_push, ge] at l1
      exact l1.trans (List.perm_append_singleton _ _)
    obtain ⟨M, em, pm⟩ := perm_unmap l1'
    have gi1 : ∀ p ∈ M, knd.is p.1 p.2 = true ∧ p.2.scannable = true := fun p hp => by
      rcases List.mem_cons.mp (pm.mem_iff.mp hp) with z | z
      · rw [z]; exact ⟨hk, hv⟩
      · exact gi p z
    have gn1 : (M.map (·.1)).Nodup := (pm.map _).nodup_iff.mpr (List.nodup_cons.mpr ⟨out, gn⟩)
    have sz : es1.size = L.length + 1 := by
      have q := congrArg List.length em
      rw [Array.length_toList, List.length_map, pm.length_eq] at q
      exact q
    have ld : w.params.followText "set-order" = true ∨ t1.led = true := gl.imp id fun z => by rw [l4]; exact z
    have fin : ∀ h' M', Heap.SameBut a s.heap h' → SetL knd h' a M' → M'.Perm M → Q true { s with heap := h' } := fun h' M' sb S' pm' => by
      refine hQ h' M' true sb S' (fun j => ?_) ?_
      · rw [((pm'.trans pm).map (·.1)).mem_iff, List.map_cons, List.mem_cons]
        exact Or.comm
      · rw [(pm'.trans pm).length_eq]; exact Nat.le_refl _
    refine wpAny_bind (gave _ _ _ ?_)
    have told : ∀ (b : Bool) (s1 : Shared) (Q1 : Unit → Shared → Prop), Q1 () s1 → wpAny (model P w) A (match b with | true => rule "set.scan.the-table-gave-way" | false => pure ()) Q1 E s1 := gave
    by_cases pl : t1.plain = true
    · rw [if_pos pl]
      refine wpAny_bind ?_
      rw [hashByValue_scannable 8 hv]
      refine wpAny_pure ?_
      cases plainKind v with
      | true => exact keep_wide g gx gd em gi1 gn1 (by rw [sz]; exact room) l2 l3 ld told fun h' M' sb S' pm' => wpAny_pure (fin h' M' sb S' pm')
      | false => exact keep_wide g gx gd em gi1 gn1 (by rw [sz]; exact room) (SetTable.fits_plain_off l2) l3 ld told fun h' M' sb S' pm' => wpAny_pure (fin h' M' sb S' pm')
    · rw [if_neg pl]
      refine wpAny_bind (wpAny_pure ?_)
      exact keep_wide g gx gd em gi1 gn1 (by rw [sz]; exact room) l2 l3 ld told fun h' M' sb S' pm' => wpAny_pure (fin h' M' sb S' pm')
end
end Tw

set_option Elab.async false
set_option linter.all false
set_option maxRecDepth 100000
set_option maxHeartbeats 4000000
namespace Tw
open PySem L2 PySem.Spec PyProof.Rows
section
variable {prog : Program} {w : World} {A : Around} {R : Result → Shared → Prop} {I : Addr} {fp wr : List Addr} {G : Array GenState → Array GenState → Prop} {n : Nat} {Pw : Nat → Value → Prop} {St : Nat → Shared → Prop}
/-- the set at a holds just these texts -/
def Holds (prog : Program) (w : World) (h : Heap) (a : Addr) (xs : List Str) : Prop := ∃ L, SetL (PySem.strKind prog w) h a L ∧ (∀ j, j ∈ L.map (·.1) ↔ j ∈ xs) ∧ L.length ≤ xs.length
/-- the texts that are walked all come in -/
theorem all_come_in (W : WalksS prog w A.in1 I fp wr G n Pw St) (S : Addr) (off : S ∉ fp) (xs : List Str) (hn : xs.length = n) (few : n + 1 < scanBound) (gives : ∀ i v, Pw i v → ∃ t, v = .str (xs.getD i Str.empty) t) :
    ∀ (m i : Nat) (s : Shared), i + m = n → St i s → Holds prog w s.heap S (xs.take i) → (∀ s', Moved (S :: wr) G s s' → Holds prog w s'.heap S xs → R (.ok (.ret .none)) s') →
      codeAny (model prog w) A (.builtin "set.update.loop" ⟨[.ref S, .ref I], []⟩) R s := by
  have offw : S ∉ wr := fun z => off (W.sub _ z)
  have more : ∀ b ∈ wr, b ∈ S :: wr := fun b z => List.mem_cons_of_mem _ z
  intro m
  induction m with
  | zero =>
    intro i s him st hS fin
    have e : i = n := by omega
    subst e
    refine codeAny_builtin PyProof.Rows.F.entry_set_update_loop ?_
    rw [Around.under_plainId PyProof.Rows.F.plain_set_update_loop _]
    show wpAny _ A.in1 (pyNext (.ref I) >>= _) _ _ s
    refine wpAny_bind (W.done s _ _ st fun s1 mv => ?_)
    show wpAny _ A.in1 (ret Value.none) _ _ s1
    obtain ⟨L, hL, mem, len⟩ := hS
    rw [← hn, List.take_length] at mem len
    exact wpAny_pure (fin s1 (mv.mono more) ⟨L, hL.at fun o g => mv.heap S o offw g, mem, len⟩)
  | succ m ih =>
    intro i s him st hS fin
    refine codeAny_builtin PyProof.Rows.F.entry_set_update_loop ?_
    rw [Around.under_plainId PyProof.Rows.F.plain_set_update_loop _]
    show wpAny _ A.in1 (pyNext (.ref I) >>= _) _ _ s
    refine wpAny_bind (W.item i s _ _ (by omega) st fun v s1 hv st1 mv => ?_)
    obtain ⟨t, rfl⟩ := gives i v hv
    obtain ⟨L, hL, mem, len⟩ := hS
    have hL1 : SetL (PySem.strKind prog w) s1.heap S L := hL.at fun o g => mv.heap S o offw g
    have hx : xs[i]? = some (xs.getD i Str.empty) := by rw [List.getD_eq_getElem?_getD, List.getElem?_eq_getElem (show i < xs.length by omega)]; rfl
    generalize hz : xs.getD i Str.empty = z at hx ⊢
    have tk : xs.take (i + 1) = xs.take i ++ [z] := by rw [List.take_succ, hx]; rfl
    have lt : (xs.take i).length = i := by rw [List.length_take]; omega
    show wpAny _ A.in1 (holding [Value.str z t] (setAdd S (.str z t)) >>= _) _ _ s1
    refine wpAny_bind (wpAny_holding ?_)
    unfold setAdd
    refine wpAny_holding (wpAny_bind ((PySem.strKind prog w).pyHash (k := z) (strKind_is _ _ _ _) ?_))
    refine set_one_more (s := { s1 with toks := s1.toks + 1 }) hL1 (k := z) (strKind_is _ _ _ _) rfl (by omega) fun h2 L2' b sb hL2 mem2 len2 => ?_
    have go : ∀ s2 : Shared, s2 = { s1 with toks := s1.toks + 1, heap := h2 } → codeAny (model prog w) A (.builtin "set.update.loop" ⟨[.ref S, .ref I], []⟩) R s2 := fun s2 e => by
      subst e
      refine ih (i + 1) _ (by omega) (W.frame _ s1 _ _ st1 (Nat.le_succ _) fun b hb o g => ?_) ⟨L2', hL2, fun j => ?_, ?_⟩ fun s3 mv3 hS3 => ?_
      · exact (sb.2 b (fun z => off (by rw [← z]; exact hb))).trans g
      · rw [mem2, mem, tk, List.mem_append, List.mem_singleton]
      · rw [tk, List.length_append, List.length_singleton, lt]; rw [lt] at len; omega
      · refine fin s3 (Moved.trans W.gtrans ((mv.mono more).then_heap (Nat.le_succ _) fun b o hb g => ?_) mv3) hS3
        exact (sb.2 b (fun z => hb (by rw [z]; exact List.mem_cons_self))).trans g
    exact wpAny_pure ⟨plainId_quiet PyProof.Rows.F.plain_set_update_loop _, go _ rfl⟩
end
section
variable {prog : Program} {w : World} {A : Around} {E : Value → Shared → Prop} {s : Shared}
/-- an empty set just laid -/
abbrev bareSet (w : World) : Obj := { cls := .type "set", dict := none, data := .set #[] 0 (.fresh 0 0 (!w.params.followText "set-order")) }
theorem bare_holds {h : Heap} {a : Addr} (g : h.get? a = some (bareSet w)) : Holds prog w h a [] := by
  refine ⟨[], ⟨_, #[], 0, _, g, ⟨rfl, rfl, rfl⟩, rfl, rfl, (fun p hp => nomatch hp), List.nodup_nil, by decide, by rfl, List.Pairwise.nil, ?_⟩, fun j => Iff.rfl, Nat.le_refl _⟩
  show _ ∨ (!w.params.followText "set-order") = true
  cases w.params.followText "set-order"
  · exact .inr rfl
  · exact .inl rfl
/-- set.__init__(S, xs) on a bare set -/
theorem init_from_list {S l : Addr} {items : Array Value} {xs : List Str} (hh : A.handled = none) (hS : s.heap.get? S = some (bareSet w)) (hl : s.heap.IsList l items) (ne : S ≠ l) (hi : PyProof.Rows.StrsAre items.toList xs) (few : xs.length + 1 < scanBound) {Q : Value → Shared → Prop}
    (h : ∀ (h' : Heap) (tk : Nat), Holds prog w h' S xs → (∀ b o, b ≠ S → s.heap.get? b = some o → h'.get? b = some o) → Q .none { s with heap := h', toks := tk }) :
    codeAny (model prog w) A (.call (.builtin "set.__init__") ⟨[.ref S, .ref l], []⟩) (wants Q E) s := by
  have tS : s.TypeIs (.ref S) "set" := ⟨_, hS, rfl⟩
  refine codeAny_call_builtin PySem.F.called_set.init.plain PySem.F.entry_set_init (check_set_init_1 tS ?_)
  obtain ⟨ol, hol, hcl, nl, hdl⟩ := id hl
  obtain ⟨ocls, odict, odata, oslots⟩ := ol
  simp only at hcl hdl
  subst hcl; subst hdl
  have f1 := PySem.F.sub_list_set
  have f2 := PySem.F.sub_list_frozenset
  have f3 : (Value.type "list" == Value.type "dict") = false := by decide
  unfold Builtin.«set.__init__» noKeywords Builtin.Frozenset.updateFrom
  generalize hPI : pyIter = PI
  wp_walk
  subst hPI
  refine wpAny_pyIter_list hl ?_
  refine wpAny_bind (wpAny_runValue ?_)
  have lS : l < s.heap.objs.size := Heap.lt_size hol
  have sS : S < s.heap.objs.size := Heap.lt_size hS
  have quiet : A.in1.in1.handled = none := by simp [hh]
  have sz : xs.length = items.size := by rw [← StrsAre.len_eq hi, Array.length_toList]
  have gv : ∀ (i : Nat) (v : Value), items[i]? = some v → ∃ t, v = .str (xs.getD i Str.empty) t := fun i v hv => SS.strs_at hi i v (by rw [Array.getElem?_toList]; exact hv)
  refine all_come_in ((Walks.list quiet s.heap.objs.size l (Nat.ne_of_lt lS) items).toS) S ?_ xs sz (by omega) gv items.size 0 _ (by omega) ?_ ?_ fun s1 mv hH => ?_
  · intro z
    rcases List.mem_cons.mp z with z | z
    · exact absurd z (Nat.ne_of_lt sS)
    · exact ne (List.mem_singleton.mp z)
  · exact ⟨⟨_, Heap.get?_push_size _ rfl, rfl, rfl⟩, hl.push _⟩
  · exact bare_holds (Heap.get?_push_of_some _ hS)
  · obtain ⟨h1, g1, d1, k1, o1⟩ := s1
    have e1 : g1 = s.gens := mv.gens
    have e2 : d1 = s.drawn := mv.drawn
    have e3 : o1 = s.os := mv.os
    subst e1; subst e2; subst e3
    refine wpAny_pure ?_
    show wpAny _ _ (ret Value.none) _ _ _
    refine wpAny_pure (h h1 k1 hH fun b o nb g => mv.heap b o ?_ (Heap.get?_push_of_some _ g))
    intro z
    rcases List.mem_cons.mp z with z | z
    · exact nb z
    · exact absurd (List.mem_singleton.mp z) (Nat.ne_of_lt (Heap.lt_size g))
/-- set(xs), xs a list of texts -/
theorem set_of_texts {l : Addr} {items : Array Value} {xs : List Str} {Q : Value → Shared → Prop} (hh : A.handled = none) (hl : s.heap.IsList l items) (hi : PyProof.Rows.StrsAre items.toList xs) (few : xs.length + 1 < scanBound)
    (h : ∀ (h' : Heap) (tk : Nat), Holds prog w h' s.heap.objs.size xs → (∀ b o, s.heap.get? b = some o → h'.get? b = some o) → Q (.ref s.heap.objs.size) { s with heap := h', toks := tk }) :
    wpAny (model prog w) A (call (.type "set") [.ref l]) Q E s := by
  obtain ⟨c, tl, hmro⟩ := PySem.F.called_set.mro
  have made := PySem.F.called_set.made
  have subs := PySem.F.called_set.sub
  have noTy := PySem.F.called_set.notType
  have canC := PySem.F.called_set.canCreate
  have tcal := PySem.F.typeCall_set_1 (.ref l)
  refine wpAny_call (codeAny_of_tree ?_)
  show wpAny _ _ (callAny (.type "set") _) _ _ _
  refine wpAny_pure ⟨Code.quiet_builtin _ (by decide +kernel), codeAny_builtin PySem.F.entry_type_call ?_⟩
  rw [Around.under_plain (weight_type_call_type "set" [.ref l] []) rfl]
  repeat (any_goals (first | assumption | wp_step))
  refine codeAny_mono (code_set_led1 (.ref l) (E := E) (Q₁ := fun ob s1 => ob = .ref s.heap.objs.size ∧ s1 = { s with heap := s.heap.push (bareSet w) }) ⟨rfl, rfl⟩) fun r s1 hr => ?_
  cases r with
  | error e => exact hr
  | ok fl =>
    cases fl with
    | ret ob =>
      obtain ⟨rfl, rfl⟩ := hr
      have gS : (s.heap.push (bareSet w)).get? s.heap.objs.size = some (bareSet w) := Heap.get?_push_size _ rfl
      have tS : Shared.TypeIs { s with heap := s.heap.push (bareSet w) } (.ref s.heap.objs.size) "set" := ⟨_, gS, rfl⟩
      have il := PySem.F.called_set.init.lookup
      have ib := PySem.F.called_set.init.bind (.ref s.heap.objs.size)
      repeat (any_goals (first | assumption | wp_step))
      obtain ⟨ol, hol, _⟩ := id hl
      have lS : l < s.heap.objs.size := Heap.lt_size hol
      refine codeAny_mono (init_from_list (prog := prog) (w := w) (E := E) (s := { s with heap := s.heap.push (bareSet w) }) (xs := xs) (Q := fun r s2 => r = .none ∧ ∃ h' tk, s2 = { s with heap := h', toks := tk } ∧ Holds prog w h' s.heap.objs.size xs ∧ ∀ b o, s.heap.get? b = some o → h'.get? b = some o) ?_ gS (hl.push _) (Nat.ne_of_gt lS) hi few fun h' tk hH k => ⟨rfl, h', tk, rfl, hH, fun b o g => k b o (Nat.ne_of_lt (Heap.lt_size g)) (Heap.get?_push_of_some _ g)⟩) fun r2 s2 hr2 => ?_
      · simp [hh]
      · cases r2 with
        | error e => exact hr2
        | ok fl2 =>
          cases fl2 with
          | ret r =>
            obtain ⟨rfl, h', tk, rfl, hH, k⟩ := hr2
            repeat (any_goals (first | assumption | wp_step))
            exact h _ _ hH k
          | _ => exact hr2.elim
    | _ => exact hr.elim
end
end Tw

set_option Elab.async false
set_option linter.all false
set_option maxRecDepth 100000
set_option maxHeartbeats 4000000
namespace Tw
open PySem L2 PySem.Spec PyProof.Rows
section
variable {prog : Program} {w : World} {A : Around} {E : Value → Shared → Prop} {s : Shared}
theorem list_sort_texts {a : Addr} {vs : List Value} {ss : List Str} {n : Nat} {P : Fin → Shared → Prop} (ho : s.heap.get? a = some (seqObj "list" vs.toArray n)) (hS : StrsAre vs ss) (hL : vs.length ≤ sizeLine)
    (h : ∀ (out : Array Value) (ss' : List Str), StrsAre out.toList ss' → ss'.Perm ss → sortedS ss' = true → P (.done (.ret .none)) { s with heap := sortedHeap s.heap a vs out }) :
    wpAny (model prog w) A (Builtin.«list.sort» ⟨[.ref a], []⟩) P E s := by
  refine list_sort_treeKAny strKind_oneLt ho hS.keysOf (fun v₁ v₂ rest e => keyKind_strs (by rw [← e]; exact hS)) hL fun st' hp hs => ?_
  obtain ⟨ss', h1, h2, h3⟩ := sorted_out_str hS hp hs
  exact h _ ss' h1 h2 h3
theorem strs_of_keys : ∀ {M : List (Str × Value)}, (∀ p ∈ M, (PySem.strKind prog w).is p.1 p.2 = true) → StrsAre (M.map (·.2)) (M.map (·.1))
  | [], _ => .nil
  | p :: M, h => by
    have hp := h p List.mem_cons_self
    obtain ⟨x, v⟩ := p
    have : ∃ t, v = .str x t := Value.isStrOf_shape hp
    obtain ⟨t, rfl⟩ := this
    exact .cons x t (strs_of_keys fun q hq => h q (List.mem_cons_of_mem _ hq))
/-- sorted(a), a a set of texts -/
theorem sorted_of_texts {a : Addr} {xs : List Str} {Q : Value → Shared → Prop} (hH : Holds prog w s.heap a xs) (hh : A.handled = none)
    (hQ : ∀ s' p (out : Array Value) (c : Nat) (zs : List Str), (∀ b o, s.heap.get? b = some o → s'.heap.get? b = some o) → s'.gens = s.gens → s'.os = s.os → s.heap.objs.size ≤ p →
      s'.heap.get? p = some (seqObj "list" out c) → StrsAre out.toList zs → sortedS zs = true → zs.Nodup → (∀ k, k ∈ zs ↔ k ∈ xs) → zs.length ≤ sizeLine → Q (.ref p) s') :
    wpAny (model prog w) A (call (.builtin "sorted") [.ref a]) Q E s := by
  obtain ⟨L, ⟨o, es, ep, t, ho, hex, hd, ge, gi, nd, hb, hf, hr, hl⟩, hm, hn⟩ := hH
  refine Calls.call_function_entry kind_sorted plain_sorted entry_sorted (args_sorted1 _) ?_
  unfold Builtin.«sorted»
  refine wpAny_bind (m := checkCount "sorted" 1 1 _) (wpAny_pure ?_)
  refine wpAny_bind (collect_set (A := A.in1) hh ⟨o, ho, hex.1, hd⟩ hf hb hr hl fun s1 vs k1 hz g1 o1 pm => ?_)
  have ge2 : es.toList.map (·.2) = L.map (·.2) := by rw [ge, List.map_map]; rfl
  rw [ge2] at pm
  obtain ⟨M, rfl, pM⟩ := perm_unmap pm
  have kM : ∀ p ∈ M, (PySem.strKind prog w).is p.1 p.2 = true := fun p hp => (gi p (pM.mem_iff.mp hp)).1
  have hS := strs_of_keys kM
  have hlen : M.length = es.size := by rw [pM.length_eq, ← Array.length_toList, ge, List.length_map]
  have hsl : (M.map (·.2)).length ≤ sizeLine := by
    rw [List.length_map, hlen]
    exact Nat.le_of_lt (Nat.lt_of_lt_of_le hb (by decide))
  refine wpAny_bind (wpAny_newList ?_ hsl)
  have hoL : (s1.heap.push (seqObj "list" (M.map (·.2)).toArray 0)).get? s1.heap.objs.size = some (seqObj "list" (M.map (·.2)).toArray 0) := Heap.get?_push_size _ rfl
  refine wpAny_bind (wpAny_holding (wpAny_call_entry slot_list_sort ⟨_, hoL, rfl⟩ entry_list_sort (list_sort_texts hoL hS hsl fun out zs a1 a2 a3 => ⟨_, rfl, ?_⟩) (args_list_sort _)))
  obtain ⟨c, hc⟩ := sortedHeap_at (vs := M.map (·.2)) (out := out) hoL
  have pn : zs.Perm (L.map (·.1)) := a2.trans (pM.map _)
  refine wpAny_pure ⟨_, rfl, hQ _ s1.heap.objs.size out c zs (fun b u e => ?_) g1 o1 hz hc a1 a3 (pn.nodup_iff.mpr nd) (fun k => by rw [pn.mem_iff, hm k]) ?_⟩
  · have q := k1 b u e
    have hlt := Heap.lt_size q
    show (sortedHeap (s1.heap.push (seqObj "list" (M.map (·.2)).toArray 0)) s1.heap.objs.size (M.map (·.2)) out).get? b = some u
    rw [sortedHeap_old (Nat.ne_of_lt hlt) (by rw [size_push']; exact Nat.lt_succ_of_lt hlt)]
    exact Heap.get?_push_of_some _ q
  · rw [pn.length_eq, List.length_map]
    rw [List.length_map, pM.length_eq] at hsl
    exact hsl
end
section
variable {X : Cx}
/-- sorted(set(xs)), xs a list of texts: a new list, each text once, in order -/
def tSortedSet (K : PySem.W.Frag) (ta : TE) : TE := fun σ H Q => ta σ H fun x H1 => ∃ (l : Addr) (xs : List Str), x = .ref l ∧ SqL K H1 l (xs.map V.str) ∧ xs.length + 1 < scanBound ∧
  ∀ (zs : List Str) (p : Addr), sortedS zs = true → zs.Nodup → (∀ k, k ∈ zs ↔ k ∈ xs) → H1 p = none → Q (.ref p) (upd H1 p (.lst (zs.map V.str)))
theorem pe_sortedSet {K : PySem.W.Frag} {a : Expr} {ta : TE} {p p2 q pos : Pos} (hK : X.K = K) (hc : X.calm = true) (hg : Gl X "sorted") (hm : X.mg "sorted" = none) (hg2 : Gl X "set") (hm2 : X.mg "set" = none) (ha : PE X a ta)
    (na : starEach [a] X.env = (false, eval a X.env) :: starEach [] X.env := by rfl) : PE X (.Call (.Name "sorted" p) [.Call (.Name "set" p2) [a] [] q] [] pos) (tSortedSet K ta) := by
  subst hK
  refine ⟨fun pins s σ H Q I h => ?_⟩
  refine Call_ (ld_blt I hg hm boot_sorted ?_)
  refine PyProof.Rows.callWith_builtin1 (PyProof.Rows.args_cons ?_ rfl) rfl rfl
  refine Call_ (ld_blt I hg2 hm2 boot_set ?_)
  refine PyProof.Rows.callWith_type1 (PyProof.Rows.args_cons (thn (ha.run pins s σ H _ I h) fun v s1 ⟨x, H1, I1, r1, q1⟩ => PyProof.Rows.args_nil ?_) na) na rfl
  obtain ⟨l, xs, rfl, hq, h1, q1⟩ := q1
  cases r1
  obtain ⟨its, r, pl, hz⟩ := I1.list hq
  refine set_of_texts (I1.ok.hd hc) pl.isList (by simpa using strsAre_of r) h1 fun h' tk hS hk => ?_
  refine PyProof.Rows.args_nil ?_
  have I2 : Inv X pins σ H1 { s1 with heap := h', toks := tk } := I1.kept fun b o e => hk b o e
  refine sorted_of_texts hS (I2.ok.hd hc) fun s' p out c zs k g o hp hg so ord nd hm hl => ?_
  have hlen : (zs.map V.str).length ≤ sizeLine := by rw [List.length_map]; exact hl
  have hn : H1 p = none := I2.hok.fresh hp
  have J : Inv X pins σ (upd H1 p (.lst (zs.map V.str))) { ({ s1 with heap := h', toks := tk } : Shared) with heap := s'.heap, gens := s'.gens, drawn := s'.drawn, toks := s'.toks } :=
    I2.call (ch := []) (Un.laid k hp hn) (I2.hok.laid k hp ⟨hlen, out.toList, c, vals_of_strs so, hg⟩) (by rw [g]; exact I2.bare) (fun _ z => nomatch z)
  have e : s' = { ({ s1 with heap := h', toks := tk } : Shared) with heap := s'.heap, gens := s'.gens, drawn := s'.drawn, toks := s'.toks } := by
    cases s'
    cases s1
    cases o
    rfl
  rw [e]
  exact ⟨.ref p, _, J, rfl, q1 zs p ord nd hm hn⟩
end
end Tw

set_option Elab.async false
set_option linter.all false
set_option maxRecDepth 100000
set_option maxHeartbeats 4000000
/-! how many unlike texts a list or a tuple holds -/
namespace Tw
open PySem L2 PySem.Spec PyProof.Rows
section
variable {prog : Program} {w : World} {A : Around} {s : Shared} {E : Value → Shared → Prop}
/-- set.__init__(S, xs) on a bare set -/
theorem init_from_tuple {S l : Addr} {items : Array Value} {xs : List Str} (hh : A.handled = none) (hS : s.heap.get? S = some (bareSet w)) (hl : s.heap.IsTuple l items) (ne : S ≠ l) (hi : PyProof.Rows.StrsAre items.toList xs) (few : xs.length + 1 < scanBound) {Q : Value → Shared → Prop}
    (h : ∀ (h' : Heap) (tk : Nat), Holds prog w h' S xs → (∀ b o, b ≠ S → s.heap.get? b = some o → h'.get? b = some o) → Q .none { s with heap := h', toks := tk }) :
    codeAny (model prog w) A (.call (.builtin "set.__init__") ⟨[.ref S, .ref l], []⟩) (wants Q E) s := by
  have tS : s.TypeIs (.ref S) "set" := ⟨_, hS, rfl⟩
  refine codeAny_call_builtin PySem.F.called_set.init.plain PySem.F.entry_set_init (check_set_init_1 tS ?_)
  obtain ⟨ol, hol, hcl, nl, hdl⟩ := id hl
  obtain ⟨ocls, odict, odata, oslots⟩ := ol
  simp only at hcl hdl
  subst hcl; subst hdl
  have f1 := PySem.F.sub_tuple_set
  have f2 := PySem.F.sub_tuple_frozenset
  have f3 : (Value.type "tuple" == Value.type "dict") = false := by decide
  unfold Builtin.«set.__init__» noKeywords Builtin.Frozenset.updateFrom
  generalize hPI : pyIter = PI
  wp_walk
  subst hPI
  refine wpAny_pyIter_tuple hl ?_
  refine wpAny_bind (wpAny_runValue ?_)
  have lS : l < s.heap.objs.size := Heap.lt_size hol
  have sS : S < s.heap.objs.size := Heap.lt_size hS
  have quiet : A.in1.in1.handled = none := by simp [hh]
  have sz : xs.length = items.size := by rw [← StrsAre.len_eq hi, Array.length_toList]
  have gv : ∀ (i : Nat) (v : Value), items[i]? = some v → ∃ t, v = .str (xs.getD i Str.empty) t := fun i v hv => SS.strs_at hi i v (by rw [Array.getElem?_toList]; exact hv)
  refine all_come_in ((Walks.tuple quiet s.heap.objs.size l (Nat.ne_of_lt lS) items).toS) S ?_ xs sz (by omega) gv items.size 0 _ (by omega) ?_ ?_ fun s1 mv hH => ?_
  · intro z
    rcases List.mem_cons.mp z with z | z
    · exact absurd z (Nat.ne_of_lt sS)
    · exact ne (List.mem_singleton.mp z)
  · exact ⟨⟨_, Heap.get?_push_size _ rfl, rfl, rfl⟩, hl.push _⟩
  · exact bare_holds (Heap.get?_push_of_some _ hS)
  · obtain ⟨h1, g1, d1, k1, o1⟩ := s1
    have e1 : g1 = s.gens := mv.gens
    have e2 : d1 = s.drawn := mv.drawn
    have e3 : o1 = s.os := mv.os
    subst e1; subst e2; subst e3
    refine wpAny_pure ?_
    show wpAny _ _ (ret Value.none) _ _ _
    refine wpAny_pure (h h1 k1 hH fun b o nb g => mv.heap b o ?_ (Heap.get?_push_of_some _ g))
    intro z
    rcases List.mem_cons.mp z with z | z
    · exact nb z
    · exact absurd (List.mem_singleton.mp z) (Nat.ne_of_lt (Heap.lt_size g))
/-- set(xs), xs a tuple of texts -/
theorem set_of_textsT {l : Addr} {items : Array Value} {xs : List Str} {Q : Value → Shared → Prop} (hh : A.handled = none) (hl : s.heap.IsTuple l items) (hi : PyProof.Rows.StrsAre items.toList xs) (few : xs.length + 1 < scanBound)
    (h : ∀ (h' : Heap) (tk : Nat), Holds prog w h' s.heap.objs.size xs → (∀ b o, s.heap.get? b = some o → h'.get? b = some o) → Q (.ref s.heap.objs.size) { s with heap := h', toks := tk }) :
    wpAny (model prog w) A (call (.type "set") [.ref l]) Q E s := by
  obtain ⟨c, tl, hmro⟩ := PySem.F.called_set.mro
  have made := PySem.F.called_set.made
  have subs := PySem.F.called_set.sub
  have noTy := PySem.F.called_set.notType
  have canC := PySem.F.called_set.canCreate
  have tcal := PySem.F.typeCall_set_1 (.ref l)
  refine wpAny_call (codeAny_of_tree ?_)
  show wpAny _ _ (callAny (.type "set") _) _ _ _
  refine wpAny_pure ⟨Code.quiet_builtin _ (by decide +kernel), codeAny_builtin PySem.F.entry_type_call ?_⟩
  rw [Around.under_plain (weight_type_call_type "set" [.ref l] []) rfl]
  repeat (any_goals (first | assumption | wp_step))
  refine codeAny_mono (code_set_led1 (.ref l) (E := E) (Q₁ := fun ob s1 => ob = .ref s.heap.objs.size ∧ s1 = { s with heap := s.heap.push (bareSet w) }) ⟨rfl, rfl⟩) fun r s1 hr => ?_
  cases r with
  | error e => exact hr
  | ok fl =>
    cases fl with
    | ret ob =>
      obtain ⟨rfl, rfl⟩ := hr
      have gS : (s.heap.push (bareSet w)).get? s.heap.objs.size = some (bareSet w) := Heap.get?_push_size _ rfl
      have tS : Shared.TypeIs { s with heap := s.heap.push (bareSet w) } (.ref s.heap.objs.size) "set" := ⟨_, gS, rfl⟩
      have il := PySem.F.called_set.init.lookup
      have ib := PySem.F.called_set.init.bind (.ref s.heap.objs.size)
      repeat (any_goals (first | assumption | wp_step))
      obtain ⟨ol, hol, _⟩ := id hl
      have lS : l < s.heap.objs.size := Heap.lt_size hol
      refine codeAny_mono (init_from_tuple (prog := prog) (w := w) (E := E) (s := { s with heap := s.heap.push (bareSet w) }) (xs := xs) (Q := fun r s2 => r = .none ∧ ∃ h' tk, s2 = { s with heap := h', toks := tk } ∧ Holds prog w h' s.heap.objs.size xs ∧ ∀ b o, s.heap.get? b = some o → h'.get? b = some o) ?_ gS (hl.push _) (Nat.ne_of_gt lS) hi few fun h' tk hH k => ⟨rfl, h', tk, rfl, hH, fun b o g => k b o (Nat.ne_of_lt (Heap.lt_size g)) (Heap.get?_push_of_some _ g)⟩) fun r2 s2 hr2 => ?_
      · simp [hh]
      · cases r2 with
        | error e => exact hr2
        | ok fl2 =>
          cases fl2 with
          | ret r =>
            obtain ⟨rfl, h', tk, rfl, hH, k⟩ := hr2
            repeat (any_goals (first | assumption | wp_step))
            exact h _ _ hH k
          | _ => exact hr2.elim
    | _ => exact hr.elim
end
section
variable {X : Cx}
def SqAny (K : PySem.W.Frag) (H : Hp) (l : Addr) (xs : List V) : Prop := SqL K H l xs ∨ SqT K H l xs
/-- len(set(xs)), xs a list or a tuple of texts -/
def tLenSetX (K : PySem.W.Frag) (ta : TE) : TE := fun σ H Q => ta σ H fun x H1 => ∃ (l : Addr) (xs : List Str), x = .ref l ∧ SqAny K H1 l (xs.map V.str) ∧ xs.length + 1 < scanBound ∧
  ∀ (zs : List Str), zs.Nodup → (∀ k, k ∈ zs ↔ k ∈ xs) → zs.length ≤ xs.length → Q (.int zs.length) H1
theorem g_lenSetX {K : PySem.W.Frag} {ta : TE} {σ : L2.St} {H : Hp} {Q : VK} (q : ta σ H fun x H1 => ∃ (l : Addr) (xs : List Str), x = .ref l ∧ SqAny K H1 l (xs.map V.str) ∧ xs.length + 1 < scanBound ∧
  ∀ (zs : List Str), zs.Nodup → (∀ k, k ∈ zs ↔ k ∈ xs) → zs.length ≤ xs.length → Q (.int zs.length) H1) : tLenSetX K ta σ H Q := q
theorem pe_lenSetX {K : PySem.W.Frag} {a : Expr} {ta : TE} {p p2 q pos : Pos} (hK : X.K = K) (hc : X.calm = true) (hg : Gl X "len") (hm : X.mg "len" = none) (hg2 : Gl X "set") (hm2 : X.mg "set" = none) (ha : PE X a ta)
    (na : starEach [a] X.env = (false, eval a X.env) :: starEach [] X.env := by rfl) : PE X (.Call (.Name "len" p) [.Call (.Name "set" p2) [a] [] q] [] pos) (tLenSetX K ta) := by
  subst hK
  refine ⟨fun pins s σ H Q I h => ?_⟩
  refine Call_ (ld_blt I hg hm boot_len ?_)
  refine PyProof.Rows.callWith_builtin1 (PyProof.Rows.args_cons ?_ rfl) rfl rfl
  refine Call_ (ld_blt I hg2 hm2 boot_set ?_)
  refine PyProof.Rows.callWith_type1 (PyProof.Rows.args_cons (thn (ha.run pins s σ H _ I h) fun v s1 ⟨x, H1, I1, r1, q1⟩ => PyProof.Rows.args_nil ?_) na) na rfl
  obtain ⟨l, xs, rfl, hq, h1, q1⟩ := q1
  cases r1
  have fin : ∀ (h' : Heap) (tk : Nat), Holds X.prog X.w h' s1.heap.objs.size xs → (∀ b o, s1.heap.get? b = some o → h'.get? b = some o) →
      wpAny (model X.prog X.w) X.A (spliced (backTo pos (starEach [] X.env))) (fun vs s₂ => wpAny (model X.prog X.w) X.A (call (.builtin "len") (Value.ref s1.heap.objs.size :: vs)) (EP X pins σ Q) X.xe s₂) X.xe { s1 with heap := h', toks := tk } := fun h' tk hS hk => by
    refine PyProof.Rows.args_nil ?_
    obtain ⟨L, ⟨o, es, ep, t, ho, hex, hd, ge, gi, nd, hb, hf, _⟩, hm, hn⟩ := hS
    have I2 : Inv X pins σ H1 { s1 with heap := h', toks := tk } := I1.kept fun b o e => hk b o e
    have hl : es.size = (L.map (·.1)).length := by rw [List.length_map, ← Array.length_toList, ge, List.length_map]
    refine call_len_set ho hex hd hf (by have : es.size < 1000000000000 := Nat.lt_of_lt_of_le hb (by decide); omega) ⟨.int (L.map (·.1)).length, H1, I2.tok _, ⟨_, by rw [hl]⟩, q1 _ nd hm (by rw [List.length_map]; exact hn)⟩
  rcases hq with hq | hq
  · obtain ⟨its, r, pl, hz⟩ := I1.list hq
    exact set_of_texts (I1.ok.hd hc) pl.isList (by simpa using strsAre_of r) h1 fin
  · obtain ⟨its, r, pl, hz⟩ := I1.tuple hq
    exact set_of_textsT (I1.ok.hd hc) pl (by simpa using strsAre_of r) h1 fin
end
end Tw

set_option Elab.async false
set_option linter.all false
set_option maxRecDepth 100000
namespace Tw
open PySem L2 PySem.Spec
/-- the address that a name of the text stands for -/
def cadr (mg : Str → Option Value) (x : Str) : Addr := match mg x with
  | some (.ref a) => a
  | _ => 0
theorem cadr_of {mg : Str → Option Value} {x : Str} {a : Addr} (h : mg x = some (.ref a)) : cadr mg x = a := by
  unfold cadr
  rw [h]
/-- a method of a class of the text with its promise -/
structure DefM (P : Program) (w : World) (K : PySem.W.Frag) (mg : Str → Option Value) (base : Heap) (k : Nat) (C : Addr) (m : Str) (ps : List Str) (sp : Sp) : Prop where
  ex : ∃ (f : Addr) (fd : FuncData), FnOk P w K mg base CX0 k f fd ps sp ∧ Meth K C m f ∧ Binds K fd ps []
/-- where a method of the text stands -/
structure HereM (K : PySem.W.Frag) (C : Addr) (m qual : Str) (st : Stmt) (ps : List Str) (f : Addr) (fd : FuncData) : Prop where
  fn : Fun K m qual st f fd
  me : Meth K C m f
  bd : Binds K fd ps []
/-- a maker of a class of the text with its promise -/
structure DefC (P : Program) (w : World) (K : PySem.W.Frag) (mg : Str → Option Value) (base : Heap) (k : Nat) (C : Addr) (ps : List Str) (sp : Sp) : Prop where
  ex : ∃ (f : Addr) (fd : FuncData), FnOk P w K mg base CX0 k f fd ps sp ∧ Mk K C f ∧ Binds K fd ps []
structure HereC (K : PySem.W.Frag) (C : Addr) (qual : Str) (st : Stmt) (ps : List Str) (f : Addr) (fd : FuncData) : Prop where
  fn : Fun K "__init__" qual st f fd
  mkr : Mk K C f
  bd : Binds K fd ps []
theorem HereM.def {P : Program} {w : World} {K : PySem.W.Frag} {mg : Str → Option Value} {base : Heap} {k : Nat} {C : Addr} {m qual : Str} {st : Stmt} {ps : List Str} {sp : Sp} {f : Addr} {fd : FuncData} (h : HereM K C m qual st ps f fd) (F : FnOk P w K mg base CX0 k f fd ps sp) : DefM P w K mg base k C m ps sp :=
  ⟨f, fd, F, h.me, h.bd⟩
theorem HereC.def {P : Program} {w : World} {K : PySem.W.Frag} {mg : Str → Option Value} {base : Heap} {k : Nat} {C : Addr} {qual : Str} {st : Stmt} {ps : List Str} {sp : Sp} {f : Addr} {fd : FuncData} (h : HereC K C qual st ps f fd) (F : FnOk P w K mg base CX0 k f fd ps sp) : DefC P w K mg base k C ps sp :=
  ⟨f, fd, F, h.mkr, h.bd⟩
section
variable {X : Cx} {k j : Nat} {C : Addr} {x m : Str} {p pos apos : Pos} {o e : Expr} {es : List Expr} {ps : List Str} {sp : Sp} {ta : TE} {t : TA}
def tMe (C : Addr) (m : Str) (sp : Sp) (ta : TE) (t : TA) : TE := fun σ H Q => ta σ H fun x H1 => ∃ a dx fs, x = .ref a ∧ H1 a = some (.ins C dx fs) ∧ fs.lookup m = none ∧ t σ H1 fun vs H2 => sp (x :: vs) H2 Q E0
theorem tMe_eq : tMeth C m sp [] E0 ta t = tMe C m sp ta t := by
  funext σ H Q
  unfold tMeth tMe
  simp only [List.append_nil]
def tNew (C : Addr) (sp : Sp) (t : TA) : TE := fun σ H Q => t σ H fun vs H1 => ∀ x dx, H1 x = none → H1 dx = none → dx ≠ x → sp (.ref x :: vs) (upd (upd H1 dx (.own x)) x (.ins C dx [])) (fun v H2 => v = .non ∧ Q (.ref x) H2) E0
theorem tNew_eq : tMake C sp [] E0 t = tNew C sp t := by
  funext σ H Q
  unfold tMake tNew
  simp only [List.append_nil]
theorem pe_never : PE X e (fun _ _ _ => False) := ⟨fun _ _ _ _ _ _ h => h.elim⟩
theorem pe_fldG {K : PySem.W.Frag} {f : Str} (hK : X.K = K) (he : PE X e ta) (hb : attributeBase e f X.env (eval e X.env) = eval e X.env) : PE X (.Attribute e f pos) (tFld K ta f) := by
  subst hK
  exact pe_fld he hb
theorem pi_tupG {K : PySem.W.Frag} {tg : Expr} (hK : X.K = K) (he : PE X e ta) : PI X tg e (iTup K ta) := by
  subst hK
  exact pi_tup he
theorem pi_listG {K : PySem.W.Frag} {tg : Expr} (hK : X.K = K) (he : PE X e ta) : PI X tg e (iList K ta) := by
  subst hK
  exact pi_list he
theorem pe_me {pl : Sem Bool} (he : PE X o ta) (c : Cls X.K C) (D : DefM X.prog X.w X.K X.mg X.base k C m ps sp) (hr : Room j X.A) (ha : PA X (e :: es) t) (hk : k ≤ j := by decide)
    (hst : starEach (e :: es) X.env = (false, eval e X.env) :: starEach es X.env := by rfl) (hpl : (backTo pos (starEach es X.env)).any (·.1) = false := by rfl)
    (ht : eval (.Call (.Attribute o m apos) (e :: es) [] pos) X.env = (do
      let ov ← eval o X.env
      standAt apos.atName
      let (f, first) ← holding [ov] (getMethod ov m pl)
      callWith pos f first (backTo pos (starEach (e :: es) X.env)) (backToKw pos (keywordEach [] X.env))) := by rfl) : PE X (.Call (.Attribute o m apos) (e :: es) [] pos) (tMe C m sp ta t) := by
  obtain ⟨f, fd, F, hm, hb⟩ := D.ex
  rw [← tMe_eq]
  exact pe_meth he c hm F (hr.mono hk) hb .nil pass0 ha hst hpl ht
theorem pe_me0 {pl : Sem Bool} (he : PE X o ta) (c : Cls X.K C) (D : DefM X.prog X.w X.K X.mg X.base k C m ps sp) (hr : Room j X.A) (hk : k ≤ j := by decide)
    (ht : eval (.Call (.Attribute o m apos) [] [] pos) X.env = (do
      let ov ← eval o X.env
      standAt apos.atName
      let (f, first) ← holding [ov] (getMethod ov m pl)
      callWith pos f first (backTo pos (starEach [] X.env)) (backToKw pos (keywordEach [] X.env))) := by rfl) : PE X (.Call (.Attribute o m apos) [] [] pos) (tMe C m sp ta tNil) := by
  obtain ⟨f, fd, F, hm, hb⟩ := D.ex
  rw [← tMe_eq]
  exact pe_meth0 he c hm F (hr.mono hk) hb .nil pass0 ht
theorem pe_new (D : DefC X.prog X.w X.K X.mg X.base k C ps sp) (hr : Room j X.A) (hg : Gl X x) (hm : X.mg x = some (.ref C)) (ha : PA X (e :: es) t) (hk : k + 1 ≤ j := by decide) (hdb : (x == ("__debug__" : Str)) = false := by decide)
    (he : starEach (e :: es) X.env = (false, eval e X.env) :: starEach es X.env := by rfl) (hpl : (backTo pos (starEach es X.env)).any (·.1) = false := by rfl) : PE X (.Call (.Name x p) (e :: es) [] pos) (tNew C sp t) := by
  obtain ⟨f, fd, F, mk, hb⟩ := D.ex
  rw [← tNew_eq]
  exact pe_make mk F (hr.mono hk) hg hm hb .nil pass0 ha hdb he hpl
end
section
variable {K : PySem.W.Frag} {σ : L2.St} {H : Hp} {Q : VK} {QT : Bool → Hp → Prop} {QA : List V → Hp → Prop} {D : Ends} {ta tv te : TE} {t : TA} {sp : Sp} {C : Addr} {f m : Str}
theorem g_sortedSet (q : ta σ H fun x H1 => ∃ (l : Addr) (xs : List Str), x = .ref l ∧ SqL K H1 l (xs.map V.str) ∧ xs.length + 1 < scanBound ∧
  ∀ (zs : List Str) (p : Addr), PyProof.Rows.sortedS zs = true → zs.Nodup → (∀ k, k ∈ zs ↔ k ∈ xs) → H1 p = none → Q (.ref p) (upd H1 p (.lst (zs.map V.str)))) : tSortedSet K ta σ H Q := q
theorem g_dget {td ty : TE} (q : td σ H fun x H1 => ty σ H1 fun y H2 => ∃ a v, x = .ref a ∧ DGet H2 a y (some v) ∧ Q v H2) : tDGet td ty σ H Q := q
theorem g_din {td ty : TE} (q : ty σ H fun y H1 => td σ H1 fun x H2 => ∃ a o, x = .ref a ∧ DGet H2 a y o ∧ Q (.bl o.isSome) H2) : tDIn ty td σ H Q := q
theorem g_dnotin {td ty : TE} (q : ty σ H fun y H1 => td σ H1 fun x H2 => ∃ a o, x = .ref a ∧ DGet H2 a y o ∧ Q (.bl (!o.isSome)) H2) : tDNotIn ty td σ H Q := q
theorem g_neB {a b : Bool} (q : Q (.bl (!decide (a = b))) H) : rNe (.bl a) (.bl b) H Q := ⟨rfl, by rw [dB]; exact q⟩
theorem g_itup {R : It → Hp → Prop} (q : ta σ H fun x H1 => ∃ a, x = .ref a ∧ (∃ xs, SqT K H1 a xs) ∧ R (Itt K a) H1) : iTup K ta σ H R := q
theorem for_tupA {p : Addr} {xs : List V} {g : TG} {tb : TS} (Pv : Nat → L2.St → Hp → Prop) (h0 : Pv 0 σ H) (hl : ∀ i σ H, i ≤ xs.length → Pv i σ H → SqT K H p xs)
    (hs : ∀ i x σ H (D' : Ends), xs[i]? = some x → Pv i σ H → (∀ σ H, Pv (i + 1) σ H → D'.nx σ H) → (∀ σ H, Pv (i + 1) σ H → D'.ct σ H) → (∀ σ H, D.nx σ H → D'.bk σ H) → D'.rt = D.rt → g x σ H fun σ2 H2 => tb D' σ2 H2) (hd : ∀ σ H, Pv xs.length σ H → D.nx σ H) :
    ∃ W : Nat → Nat → L2.St → Hp → Prop, (∃ m, W 0 m σ H) ∧ ∀ i m σ H, W i m σ H →
      ((Itt K p).stop i H ∧ D.nx σ H) ∨ ((Itt K p).go i H ∧ ∃ N : L2.St → Hp → Prop, (∀ σ' H', N σ' H' → ∃ m', m' < m ∧ W (i + 1) m' σ' H') ∧ ∀ x H', (Itt K p).yld i H x H' → g x σ H' fun σ2 H2 => tb { D with nx := N, ct := N, bk := D.nx } σ2 H2) :=
  for_tup Pv h0 hl (fun i x σ H hi p => hs i x σ H _ hi p (fun _ _ h => h) (fun _ _ h => h) (fun _ _ h => h) rfl) hd
theorem g_me (q : ta σ H fun x H1 => ∃ a dx fs, x = .ref a ∧ H1 a = some (.ins C dx fs) ∧ fs.lookup m = none ∧ t σ H1 fun vs H2 => sp (x :: vs) H2 Q E0) : tMe C m sp ta t σ H Q := q
theorem g_new (q : t σ H fun vs H1 => ∀ x dx, H1 x = none → H1 dx = none → dx ≠ x → sp (.ref x :: vs) (upd (upd H1 dx (.own x)) x (.ins C dx [])) (fun v H2 => v = .non ∧ Q (.ref x) H2) E0) : tNew C sp t σ H Q := q
theorem g_fld (q : ta σ H fun x H1 => ∃ a C dx fs v, x = .ref a ∧ H1 a = some (.ins C dx fs) ∧ Cls K C ∧ NoAttr K C f ∧ fs.lookup f = some v ∧ Q v H1) : tFld K ta f σ H Q := q
theorem g_sfld (q : tv σ H fun y H1 => ta σ H1 fun x H2 => ∃ a C dx fs, x = .ref a ∧ H2 a = some (.ins C dx fs) ∧ Cls K C ∧ NoAttr K C f ∧ fs.length < 1000 ∧ D.nx σ (upd H2 a (.ins C dx (putF f y fs)))) : sFld K ta tv f D σ H := q
end
end Tw

set_option Elab.async false
set_option linter.all false
set_option maxRecDepth 100000
namespace Tw
open PySem L2 PySem.Spec
section
variable {X : Cx} {k j : Nat} {C : Addr} {ps : List Str} {sp : Sp}
/-- two instances of a class of the text, by its own operator -/
def rOwn2 (C : Addr) (sp : Sp) : R2 := fun x y H Q => ∃ (a b dx dy : Addr) (fs gs : List (Str × V)), x = .ref a ∧ y = .ref b ∧ H a = some (.ins C dx fs) ∧ H b = some (.ins C dy gs) ∧ sp [x, y] H Q E0
/-- an instance, by its class's own operator -/
def rOwn1 (C : Addr) (sp : Sp) : V → Hp → VK → Prop := fun x H Q => ∃ (a dx : Addr) (fs : List (Str × V)), x = .ref a ∧ H a = some (.ins C dx fs) ∧ sp [x] H Q E0
theorem back_of {pins : List (Addr × Obj)} {σ : L2.St} {Q : VK} {v : Value} {s : Shared} (h : EP X pins σ Q v s) : PySem.W.CmpBack (EP X pins σ Q) v s := by
  obtain ⟨x, H', I, r, q⟩ := h
  cases v with
  | notImplemented => cases x <;> first | (rcases r with ⟨t, h⟩; cases h; done) | (cases r; done)
  | _ => exact ⟨x, H', I, r, q⟩
theorem op_own2 {op : Operator} (D : DefM X.prog X.w X.K X.mg X.base k C (PySem.dunder op.info.2) ps sp) (hr : Room j X.A) (hf : PySem.W.selfFirst X.K C = true) (hk : k ≤ j := by decide) : OpR X (binaryOp op) (rOwn2 C sp) := by
  intro pins s σ H x y u v Q I rx ry h
  obtain ⟨a, b, dx, dy, fs, gs, rfl, rfl, ea, eb, q⟩ := h
  obtain rfl : u = Value.ref a := rx
  obtain rfl : v = Value.ref b := ry
  obtain ⟨f, fd, F, hm, hb⟩ := D.ex
  obtain ⟨_, OA, _⟩ := ins_get I.hok ea
  obtain ⟨_, OB, _⟩ := ins_get I.hok eb
  obtain ⟨_, ia, _⟩ := OA.look
  obtain ⟨_, ib, _⟩ := OB.look
  obtain ⟨m, fr⟩ := I.fr
  refine PySem.W.binop_K fr I.mod.kin ia ib.type hf hm.at_ hm.fn ?_
  refine wpAny_mono (run_fn F (hr.mono hk) hb .nil pass0 I (vs := [.ref a, .ref b]) (.cons (show RelV (.ref a) (.ref a) from rfl) (.cons (show RelV (.ref b) (.ref b) from rfl) .nil)) q) (fun _ _ z => back_of z) fun _ _ z => z
theorem un_inv {P : Program} {w : World} (D : DefM X.prog X.w X.K X.mg X.base k C "__invert__" ps sp) (hr : Room j X.A) (hk : k ≤ j := by decide) : UnR X (unaryOp .Invert) (rOwn1 C sp) := by
  intro pins s σ H x u Q I rx h
  obtain ⟨a, dx, fs, rfl, ea, q⟩ := h
  obtain rfl : u = Value.ref a := rx
  obtain ⟨f, fd, F, hm, hb⟩ := D.ex
  obtain ⟨_, OA, _⟩ := ins_get I.hok ea
  obtain ⟨_, ia, _⟩ := OA.look
  obtain ⟨m, fr⟩ := I.fr
  refine PySem.W.ksp_inv fr I.mod.kin ia hm.at_ hm.fn ?_
  exact run_fn F (hr.mono hk) hb .nil pass0 I (vs := [.ref a]) (.cons (show RelV (.ref a) (.ref a) from rfl) .nil) q
end
end Tw

set_option Elab.async false
set_option linter.all false
set_option maxRecDepth 100000
namespace Tw
open PySem L2 PySem.Spec
section
variable {prog : Program} {w : World} {A : Around} {E : Value → Shared → Prop} {s : Shared} {K : PySem.W.Frag} {x C f : Addr} {o : Obj} {od : Option Obj} {T : String}
/-- an own operator whose right side is of a built-in kind -/
theorem bin_kind {op : Operator} {b : Value} {lo ro rc : Option Value} {Q : Value → Shared → Prop} (kin : K.In s.heap) (inst : PySem.W.InstAt s.heap x o C od) (kind : PySem.W.Looks (model prog w) s.heap (typeOf b) (.type T)) (own : PySem.W.selfFirst K C = true)
    (at1 : PySem.W.findIn K (.ref C) (PySem.dunder op.info.2) = some (some (.ref f))) (isf : PySem.W.isFn K (.ref f) = true) (at2 : PySem.W.findIn K (.ref C) (dunderR op.info.2) = some rc) (at3 : rc = none ∨ ∃ g : Addr, rc = some (.ref g))
    (tl : PySem.W.findIn K (.type T) (PySem.dunder op.info.2) = some lo) (tr : PySem.W.findIn K (.type T) (dunderR op.info.2) = some ro) (ns : PySem.W.subIn K (.type T) (.ref C) = some false)
    (h : wpAny (model prog w) A (call (.ref f) [.ref x, b]) (PySem.W.CmpBack Q) E s) : wpAny (model prog w) A (binaryOp op (.ref x) b) Q E s := by
  obtain ⟨cd, more, ecd, emr⟩ := PySem.W.ksp_first own
  have asked := PySem.W.ksp_try kin inst at1 isf h
  cases nme : op.info with
  | mk sg nm =>
  rw [nme] at at1 at2 tl tr asked
  have q4 := PySem.W.ksp_fillsT (M := model prog w) kin tl tr
  have q3 : PySem.W.Looks (model prog w) s.heap (fillsNumberSlot (.ref C) nm) true := PySem.W.fills_K kin ecd emr at1
  have q5 : PySem.W.Looks (model prog w) s.heap (isSubtype (.type T) (.ref C)) false := PySem.W.looks_subIn kin ns
  have q6 : PySem.W.Looks (model prog w) s.heap (numberSlotInPython (.ref C) nm) true := PySem.W.ksp_inPy kin at1 at2 at3
  have q7 : PySem.W.Looks (model prog w) s.heap (numberSlotInPython (.type T) nm) false := PySem.W.Looks.of_pure rfl
  have q8 : PySem.W.Looks (model prog w) s.heap (typeLookup (.type T) (dunderR nm)) ro := PySem.W.looks_findIn kin tr
  have q1 : PySem.W.Looks (model prog w) s.heap (typeOf (.ref x)) (.ref C) := inst.type
  obtain ⟨hp, gg, dd, kk, oo⟩ := s
  have diff : (Value.ref C == Value.type T) = false := by
    cases e : (Value.ref C == Value.type T) with
    | false => rfl
    | true => cases (beq_iff_eq.mp e)
  generalize ((lo.isSome && !isSeqSlot lo) || (ro.isSome && !isSeqSlot ro)) = slot at q4
  simp only [binaryOp, nme]
  refine wpAny_holding (wpAny_bind ?_)
  unfold binaryOp1
  refine wpAny_bind (q1.at ?_)
  refine wpAny_bind (kind.at ?_)
  refine wpAny_bind (q3.at ?_)
  simp only [diff, Bool.false_eq_true, if_false]
  cases slot
  all_goals
    ksp_lk
    refine wpAny_mono asked (fun r t ht => ?_) fun _ _ e => e
    obtain ⟨v, rfl, hv⟩ := ht
    ksp_lk
    exact hv
end
end Tw
namespace Tw
open PySem L2 PySem.Spec
/-- the built-in kinds that a law's things are of -/
def kinds7 : List String := ["NoneType", "bool", "int", "str", "list", "tuple", "dict"]
theorem kin_and {K : PySem.W.Frag} {C : Addr} : ∀ T ∈ kinds7, (∃ lo, PySem.W.findIn K (.type T) (PySem.dunder Operator.BitAnd.info.2) = some lo) ∧ (∃ ro, PySem.W.findIn K (.type T) (dunderR Operator.BitAnd.info.2) = some ro) ∧ PySem.W.subIn K (.type T) (.ref C) = some false := by
  intro T h
  unfold kinds7 at h
  simp only [List.mem_cons, List.not_mem_nil, or_false] at h
  rcases h with rfl | rfl | rfl | rfl | rfl | rfl | rfl <;> exact ⟨Option.isSome_iff_exists.mp (by kernel_rfl), Option.isSome_iff_exists.mp (by kernel_rfl), by kernel_rfl⟩
end Tw
namespace Tw
open PySem L2 PySem.Spec
theorem kin_or {K : PySem.W.Frag} {C : Addr} : ∀ T ∈ kinds7, (∃ lo, PySem.W.findIn K (.type T) (PySem.dunder Operator.BitOr.info.2) = some lo) ∧ (∃ ro, PySem.W.findIn K (.type T) (dunderR Operator.BitOr.info.2) = some ro) ∧ PySem.W.subIn K (.type T) (.ref C) = some false := by
  intro T h
  unfold kinds7 at h
  simp only [List.mem_cons, List.not_mem_nil, or_false] at h
  rcases h with rfl | rfl | rfl | rfl | rfl | rfl | rfl <;> exact ⟨Option.isSome_iff_exists.mp (by kernel_rfl), Option.isSome_iff_exists.mp (by kernel_rfl), by kernel_rfl⟩
/-- an instance and a thing of a built-in kind, by the class's own operator -/
def rOwnT (K : PySem.W.Frag) (C : Addr) (sp : Sp) : R2 := fun x y H Q => ∃ (a dx : Addr) (fs : List (Str × V)) (T : String), x = .ref a ∧ H a = some (.ins C dx fs) ∧ TyX K H y (.type T) ∧ T ∈ kinds7 ∧ sp [x, y] H Q E0
section
variable {X : Cx} {k j : Nat} {C : Addr} {ps : List Str} {sp : Sp}
theorem op_ownT {op : Operator} (D : DefM X.prog X.w X.K X.mg X.base k C (PySem.dunder op.info.2) ps sp) (hr : Room j X.A) (own : PySem.W.selfFirst X.K C = true) (nr : PySem.W.findIn X.K (.ref C) (dunderR op.info.2) = some none)
    (facts : ∀ T ∈ kinds7, (∃ lo, PySem.W.findIn X.K (.type T) (PySem.dunder op.info.2) = some lo) ∧ (∃ ro, PySem.W.findIn X.K (.type T) (dunderR op.info.2) = some ro) ∧ PySem.W.subIn X.K (.type T) (.ref C) = some false) (hk : k ≤ j := by decide) : OpR X (binaryOp op) (rOwnT X.K C sp) := by
  intro pins s σ H x y u v Q I rx ry h
  obtain ⟨a, dx, fs, T, rfl, ea, ty, hT, q⟩ := h
  obtain rfl : u = Value.ref a := rx
  obtain ⟨f, fd, F, hm, hb⟩ := D.ex
  obtain ⟨_, OA, _⟩ := ins_get I.hok ea
  obtain ⟨_, ia, _⟩ := OA.look
  obtain ⟨Pk, kx, pk, _⟩ := kit_of I ry ty
  obtain ⟨⟨lo, f1⟩, ⟨ro, f2⟩, f3⟩ := facts T hT
  refine bin_kind I.kIn ia (kx.ty _ _ I.kIn pk) own hm.at_ hm.fn nr (.inl rfl) f1 f2 f3 ?_
  exact wpAny_mono (run_fn F (hr.mono hk) hb .nil pass0 I (vs := [.ref a, y]) (.cons (show RelV (.ref a) (.ref a) from rfl) (.cons ry .nil)) q) (fun _ _ z => back_of z) fun _ _ z => z
theorem op_andG {K : PySem.W.Frag} (hK : X.K = K) (D : DefM X.prog X.w X.K X.mg X.base k C (PySem.dunder Operator.BitAnd.info.2) ps sp) (hr : Room j X.A) (own : PySem.W.selfFirst X.K C = true) (nr : PySem.W.findIn X.K (.ref C) (dunderR Operator.BitAnd.info.2) = some none) (hk : k ≤ j := by decide) :
    OpR X (binaryOp .BitAnd) (fun x y H Q => rOwn2 C sp x y H Q ∨ rOwnT K C sp x y H Q) := by
  subst hK
  exact (op_own2 D hr own hk).or (op_ownT D hr own nr kin_and hk)
theorem op_orG {K : PySem.W.Frag} (hK : X.K = K) (D : DefM X.prog X.w X.K X.mg X.base k C (PySem.dunder Operator.BitOr.info.2) ps sp) (hr : Room j X.A) (own : PySem.W.selfFirst X.K C = true) (nr : PySem.W.findIn X.K (.ref C) (dunderR Operator.BitOr.info.2) = some none) (hk : k ≤ j := by decide) :
    OpR X (binaryOp .BitOr) (fun x y H Q => rOwn2 C sp x y H Q ∨ rOwnT K C sp x y H Q) := by
  subst hK
  exact (op_own2 D hr own hk).or (op_ownT D hr own nr kin_or hk)
end
end Tw

set_option Elab.async false
set_option linter.all false
set_option maxRecDepth 100000
set_option maxHeartbeats 4000000
/-! own errors over Exception, of a class below one's own base, with an __init__ that stores its one parameter -/
namespace PySem
namespace TwX
open PySem.W PySem.Calls PyProof.Rows PySem.HandSPX
/-- the classes of an error's order: own ones, then Exception's -/
abbrev exT : List Value := [.type "Exception", .type "BaseException", .type "object"]
inductive OwnEx : List Value → Prop where
  | tail : OwnEx exT
  | own (c : Addr) {r : List Value} (h : OwnEx r) : OwnEx (.ref c :: r)
theorem OwnEx.pass {l : List Value} (h : OwnEx l) (self : Value) : refuseLoop self "__setattr__" l = pure () := by
  induction h with
  | tail => exact F.store_Exception.passes self
  | own c _ ih => rw [refuseLoop_ref, ih]
theorem OwnEx.has {l : List Value} (h : OwnEx l) (n : String) : l.contains (.type n) = exT.contains (.type n) := by
  induction h with
  | tail => rfl
  | own c _ ih => rw [List.contains_cons, ih]; rfl
theorem OwnEx.some {l : List Value} (h : OwnEx l) : l.isEmpty = false := by cases h <;> rfl
section
open Builtin Builtin.ObjectAttr
variable {prog : Program} {w : World} {A : Around} {R : Result → Shared → Prop} {hp : Heap} {gs : Array GenState} {dr : Drawn} {tc : Nat} {os : OsState}
theorem setattr_to {K : Frag} {nm : Str} {tk : Tok} {v : Value} {x C : Addr} {ox : Obj} {od : Option Obj} {cd : ClassData} (XK : K.In hp) (J : InstAt hp x ox C od) (hc : clsIn K C = some cd) (hm : OwnEx cd.mro) (hn : findIn K (.ref C) nm = some none)
    (hq : wpAny (model prog w) A.in1 (storeInOwnDict (.ref x) (.ref C) (.str nm tk) nm v false) (fun fin s' => match fin with | .done f => R (.ok f) s' | .again c' => c'.quiet = true ∧ codeAny (model prog w) A c' R s') (fun e s' => R (.error e) s') ⟨hp, gs, dr, tc, os⟩) :
    codeAny (model prog w) A (.call (.builtin "object.__setattr__") ⟨[.ref x, .str nm tk, v], []⟩) R ⟨hp, gs, dr, tc, os⟩ := by
  have ST := F.store_object
  have hmo : mroIn K C (.type "object") = some true := by
    unfold mroIn
    rw [hc, Option.bind_some, if_neg (by rw [hm.some]; decide), hm.has "object"]
    exact congrArg _ (by decide +kernel)
  have isO : Looks (model prog w) hp (isInstance (.ref x) (.type "object")) true := J.type.andThen (looks_mroIn XK hmo)
  refine codeAny_call_builtin ST.slot.plain ST.entry ?_
  refine @check_slot (model prog w) _ _ ⟨hp, gs, dr, tc, os⟩ "object.__setattr__" "object" "__setattr__" (.ref x) [.str nm tk, v] [] _ ST.kind ST.split isO (ST.args (.ref x) (.str nm tk) v) ?_
  have lm : Looks (model prog w) hp (mroOf (.ref C)) cd.mro := (looks_clsIn XK hc).andThen .now
  have lt : Looks (model prog w) hp (storeTaker? none) none := .now
  rw [osa_eq, refuse_eq]
  refine wpAny_bind (wpAny_bind ?_)
  refine J.type.at (wpAny_bind (lm.at ?_))
  rw [hm.pass]
  refine wpAny_pure (wpAny_bind ?_)
  exact J.type.at (wpAny_bind ((looks_findIn XK hn).at (wpAny_bind (lt.at hq))))
/-- the first field of a fresh error -/
theorem setattr_first {K : Frag} {nm : Str} {tk : Tok} {v : Value} {x C : Addr} {fv : Array Value} {cd : ClassData} (XK : K.In hp) (hx : hp.get? x = some { cls := .ref C, data := .fields fv }) (hc : clsIn K C = some cd) (hm : OwnEx cd.mro) (hh : cd.hasDict = true) (hn : findIn K (.ref C) nm = some none)
    (hq : ∀ h2 tk2 dx, (∀ b o, b ≠ x → hp.get? b = some o → h2.get? b = some o) → hp.objs.size ≤ dx → dx ≠ x → h2.get? x = some { cls := .ref C, dict := some dx, data := .fields fv } → h2.Ns1 dx (fun y => if y = nm then some v else none) → R (.ok (.ret .none)) ⟨h2, gs, dr, tk2, os⟩) :
    codeAny (model prog w) A (.call (.builtin "object.__setattr__") ⟨[.ref x, .str nm tk, v], []⟩) R ⟨hp, gs, dr, tc, os⟩ := by
  have J : InstAt hp x { cls := .ref C, data := .fields fv } C none := ⟨hx, rfl, rfl, trivial⟩
  have nx : x ≠ hp.objs.size := Nat.ne_of_lt (Heap.lt_size hx)
  have lc : Looks (model prog w) hp (classData C) cd := looks_clsIn XK hc
  refine setattr_to XK J hc hm hn ?_
  obtain ⟨a1, a2, a3, a4, a5, a6, a7, a8, a9, a10, a11⟩ := cd
  dsimp only at hh
  subst hh
  unfold storeInOwnDict ownDictForStores
  repeat (first | with_reducible refine HandSPX.store_in_new ?_ ?_ | with_reducible refine wpAny_loadPart_at hx ?_ | with_reducible refine lc.at ?_ | wp_step)
  · refine ⟨_, #[], _, (Heap.get?_update_ne _ _ _ _ nx.symm).trans (Heap.get?_push_at rfl rfl), rfl, ?_, fun _ => rfl⟩
    intro e he
    exact absurd he (by simp)
  · intro h2 tk2 hn2 sb
    have px : (hp.push { cls := .type "dict", data := .dict #[] }).get? x = some { cls := .ref C, data := .fields fv } := Heap.get?_push_of_some _ hx
    refine hq h2 tk2 hp.objs.size ?_ (Nat.le_refl _) nx.symm ((sb.2 x nx).trans (Heap.get?_update_self _ px rfl)) hn2
    intro b o hb ho
    exact (sb.2 b (Nat.ne_of_lt (Heap.lt_size ho))).trans ((Heap.get?_update_ne _ _ _ _ hb).trans (Heap.get?_push_of_some _ ho))
/-- a further one -/
theorem setattr_next {K : Frag} {nm : Str} {tk : Tok} {v : Value} {x C dx : Addr} {fv : Array Value} {cd : ClassData} {m0 : Str → Option Value} {nl : List Str} (XK : K.In hp) (hx : hp.get? x = some { cls := .ref C, dict := some dx, data := .fields fv }) (hns : hp.Ns1 dx m0) (hw : Within m0 nl) (hz : nl.length ≤ 1000)
    (hc : clsIn K C = some cd) (hm : OwnEx cd.mro) (hh : cd.hasDict = true) (hn : findIn K (.ref C) nm = some none)
    (hq : ∀ h2 tk2, (∀ b o, b ≠ dx → hp.get? b = some o → h2.get? b = some o) → h2.Ns1 dx (fun y => if y = nm then some v else m0 y) → R (.ok (.ret .none)) ⟨h2, gs, dr, tk2, os⟩) :
    codeAny (model prog w) A (.call (.builtin "object.__setattr__") ⟨[.ref x, .str nm tk, v], []⟩) R ⟨hp, gs, dr, tc, os⟩ := by
  obtain ⟨oD, eD, pD, gD, dD, _⟩ := hns.count hw
  have J : InstAt hp x { cls := .ref C, dict := some dx, data := .fields fv } C (some oD) := ⟨hx, rfl, rfl, gD⟩
  have lc : Looks (model prog w) hp (classData C) cd := looks_clsIn XK hc
  refine setattr_to XK J hc hm hn ?_
  obtain ⟨a1, a2, a3, a4, a5, a6, a7, a8, a9, a10, a11⟩ := cd
  dsimp only at hh
  subst hh
  unfold storeInOwnDict ownDictForStores
  repeat (first | with_reducible refine ESX.store_in_old hns hw hz ?_ | with_reducible refine wpAny_loadPart_at hx ?_ | with_reducible refine lc.at ?_ | wp_step)
  exact fun h2 tk2 hn2 sb => hq h2 tk2 (fun b o hb ho => (sb.2 b hb).trans ho) hn2
end
end TwX
end PySem

set_option Elab.async false
set_option linter.all false
set_option maxRecDepth 100000
namespace Tw
open PySem L2 PySem.Spec
/-- a def of the text that may let an error out -/
structure DefX (P : Program) (w : World) (K : PySem.W.Frag) (mg : Str → Option Value) (base : Heap) (k : Nat) (x : Str) (ps : List Str) (sp : Sp) : Prop where
  ex : ∃ (f : Addr) (fd : FuncData), FnOk P w K mg base (L2.CX P w) k f fd ps sp ∧ mg x = some (.ref f) ∧ PySem.W.keepIn K (.ref f) = true ∧ Binds K fd ps []
/-- a method that may let an error out -/
structure DefMX (P : Program) (w : World) (K : PySem.W.Frag) (mg : Str → Option Value) (base : Heap) (k : Nat) (C : Addr) (m : Str) (ps : List Str) (sp : Sp) : Prop where
  ex : ∃ (f : Addr) (fd : FuncData), FnOk P w K mg base (L2.CX P w) k f fd ps sp ∧ Meth K C m f ∧ Binds K fd ps []
theorem Here.defX {P : Program} {w : World} {K : PySem.W.Frag} {mg : Str → Option Value} {base : Heap} {k : Nat} {x : Str} {st : Stmt} {ps : List Str} {sp : Sp} {f : Addr} {fd : FuncData} (h : Here K mg x st ps f fd) (F : FnOk P w K mg base (L2.CX P w) k f fd ps sp) : DefX P w K mg base k x ps sp :=
  ⟨f, fd, F, h.mg, h.fn.kp, h.bd⟩
theorem HereM.defX {P : Program} {w : World} {K : PySem.W.Frag} {mg : Str → Option Value} {base : Heap} {k : Nat} {C : Addr} {m qual : Str} {st : Stmt} {ps : List Str} {sp : Sp} {f : Addr} {fd : FuncData} (h : HereM K C m qual st ps f fd) (F : FnOk P w K mg base (L2.CX P w) k f fd ps sp) : DefMX P w K mg base k C m ps sp :=
  ⟨f, fd, F, h.me, h.bd⟩
/-- what is wanted of a body that may raise -/
theorem Fun.okMX {P : Program} {w : World} {K : PySem.W.Frag} {mg : Str → Option Value} {base : Heap} {x qual : Str} {st : Stmt} {f : Addr} {fd : FuncData} {N ps : List Str} {k : Nat} {sp : Sp} (F : Fun K x qual st f fd) (S : FnScope N ps (defScope st)) (len : ∀ vs H Q E, sp vs H Q E → vs.length = ps.length)
    (hbody : ∀ (cdv : Value) (A : Around) (outer : List Env) (s : Shared) (H : Hp) (vs : List V) (Q : VK) (E : XK), Room k (A.deeper (PyProof.Rows.envOfC qual (defScope st) s.heap.objs.size f cdv)) → sp vs H Q E →
      ∃ t, PSs (cxOf (L2.CX P w) P w K mg base N qual (defScope st) f cdv A outer s H E) (defBody st) t ∧ t (mkE (fun _ H' => Q .non H') Q (fun _ _ => False) (fun _ _ => False)) (L2.start N vs) H) : FnOk P w K mg base (L2.CX P w) (k + 1) f fd ps sp := F.okX S len hbody
section
variable {X : Cx} {k j : Nat} {C : Addr} {x m : Str} {p pos apos : Pos} {o e a b : Expr} {es : List Expr} {ps : List Str} {sp : Sp} {ta tb : TE} {t : TA} {W : WX}
theorem pe_defX (tk : Takes X W) (D : DefX X.prog X.w X.K X.mg X.base k x ps sp) (hr : Room j X.A) (hg : Gl X x) (ha : PA X (e :: es) t) (hk : k ≤ j := by decide) (hdb : (x == ("__debug__" : Str)) = false := by decide)
    (he : starEach (e :: es) X.env = (false, eval e X.env) :: starEach es X.env := by rfl) (hpl : (backTo pos (starEach es X.env)).any (·.1) = false := by rfl) : PE X (.Call (.Name x p) (e :: es) [] pos) (tCallS sp (WE W) t) := by
  obtain ⟨f, fd, F, hm, hkp, hb⟩ := D.ex
  exact pe_callS F (hr.mono hk) hg hm hkp hb (fun σ => passAt tk σ) ha hdb he hpl
/-- an operator that may raise -/
def OpW (X : Cx) (f : Value → Value → Sem Value) (r : L2.St → R2) : Prop := ∀ (pins : List (Addr × Obj)) (s : Shared) (σ : L2.St) (H : Hp) (x y : V) (v u : Value) (Q : VK), Inv X pins σ H s → RelV x v → RelV y u → r σ x y H Q → wpAny (model X.prog X.w) X.A (f v u) (EP X pins σ Q) X.xe s
def tOpW (r : L2.St → R2) (ta tb : TE) : TE := fun σ H Q => ta σ H fun x H1 => tb σ H1 fun y H2 => r σ x y H2 Q
theorem pe_opW {op : Operator} {r : L2.St → R2} (ho : OpW X (binaryOp op) r) (ha : PE X a ta) (hb : PE X b tb) : PE X (.BinOp a op b pos) (tOpW r ta tb) :=
  ⟨fun pins s σ _ Q I h => wpAny_BinOp (binT ha hb I h fun v u s2 x y H2 I2 rx ry q => ho pins s2 σ H2 x y v u Q I2 rx ry q)⟩
theorem op_own2W {op : Operator} (tk : Takes X W) (D : DefMX X.prog X.w X.K X.mg X.base k C (PySem.dunder op.info.2) ps sp) (hr : Room j X.A) (hf : PySem.W.selfFirst X.K C = true) (hk : k ≤ j := by decide) :
    OpW X (binaryOp op) (fun σ x y H Q => ∃ (a b dx dy : Addr) (fs gs : List (Str × V)), x = .ref a ∧ y = .ref b ∧ H a = some (.ins C dx fs) ∧ H b = some (.ins C dy gs) ∧ sp [x, y] H Q (WE W σ)) := by
  intro pins s σ H x y u v Q I rx ry h
  obtain ⟨a, b, dx, dy, fs, gs, rfl, rfl, ea, eb, q⟩ := h
  obtain rfl : u = Value.ref a := rx
  obtain rfl : v = Value.ref b := ry
  obtain ⟨f, fd, F, hm, hb⟩ := D.ex
  obtain ⟨_, OA, _⟩ := ins_get I.hok ea
  obtain ⟨_, OB, _⟩ := ins_get I.hok eb
  obtain ⟨_, ia, _⟩ := OA.look
  obtain ⟨_, ib, _⟩ := OB.look
  obtain ⟨m, fr⟩ := I.fr
  refine PySem.W.binop_K fr I.mod.kin ia ib.type hf hm.at_ hm.fn ?_
  exact wpAny_mono (run_fnS F (hr.mono hk) hb (passAt tk σ) I (vs := [.ref a, .ref b]) (.cons (show RelV (.ref a) (.ref a) from rfl) (.cons (show RelV (.ref b) (.ref b) from rfl) .nil)) q) (fun _ _ z => back_of z) fun _ _ z => z
theorem op_ownTW {op : Operator} (tk : Takes X W) (D : DefMX X.prog X.w X.K X.mg X.base k C (PySem.dunder op.info.2) ps sp) (hr : Room j X.A) (own : PySem.W.selfFirst X.K C = true) (nr : PySem.W.findIn X.K (.ref C) (dunderR op.info.2) = some none)
    (facts : ∀ T ∈ kinds7, (∃ lo, PySem.W.findIn X.K (.type T) (PySem.dunder op.info.2) = some lo) ∧ (∃ ro, PySem.W.findIn X.K (.type T) (dunderR op.info.2) = some ro) ∧ PySem.W.subIn X.K (.type T) (.ref C) = some false) (hk : k ≤ j := by decide) :
    OpW X (binaryOp op) (fun σ x y H Q => ∃ (a dx : Addr) (fs : List (Str × V)) (T : String), x = .ref a ∧ H a = some (.ins C dx fs) ∧ TyX X.K H y (.type T) ∧ T ∈ kinds7 ∧ sp [x, y] H Q (WE W σ)) := by
  intro pins s σ H x y u v Q I rx ry h
  obtain ⟨a, dx, fs, T, rfl, ea, ty, hT, q⟩ := h
  obtain rfl : u = Value.ref a := rx
  obtain ⟨f, fd, F, hm, hb⟩ := D.ex
  obtain ⟨_, OA, _⟩ := ins_get I.hok ea
  obtain ⟨_, ia, _⟩ := OA.look
  obtain ⟨Pk, kx, pk, _⟩ := kit_of I ry ty
  obtain ⟨⟨lo, f1⟩, ⟨ro, f2⟩, f3⟩ := facts T hT
  refine bin_kind I.kIn ia (kx.ty _ _ I.kIn pk) own hm.at_ hm.fn nr (.inl rfl) f1 f2 f3 ?_
  exact wpAny_mono (run_fnS F (hr.mono hk) hb (passAt tk σ) I (vs := [.ref a, y]) (.cons (show RelV (.ref a) (.ref a) from rfl) (.cons ry .nil)) q) (fun _ _ z => back_of z) fun _ _ z => z
end
end Tw
namespace Tw
open PySem L2 PySem.Spec
section
variable {X : Cx} {k j : Nat} {C : Addr} {x m : Str} {p pos apos : Pos} {o e a b : Expr} {es : List Expr} {ps : List Str} {sp : Sp} {ta tb : TE} {t : TA} {W : WX}
/-- o.m(..) that may raise -/
def tMeX (C : Addr) (m : Str) (sp : Sp) (W : WX) (ta : TE) (t : TA) : TE := fun σ H Q => ta σ H fun x H1 => ∃ a dx fs, x = .ref a ∧ H1 a = some (.ins C dx fs) ∧ fs.lookup m = none ∧ t σ H1 fun vs H2 => sp (x :: vs) H2 Q (WE W σ)
theorem pe_meX {pl : Sem Bool} (tk : Takes X W) (he : PE X o ta) (c : Cls X.K C) (D : DefMX X.prog X.w X.K X.mg X.base k C m ps sp) (hr : Room j X.A) (ha : PA X (e :: es) t) (hk : k ≤ j := by decide)
    (st : starEach (e :: es) X.env = (false, eval e X.env) :: starEach es X.env := by rfl) (nst : (backTo pos (starEach es X.env)).any (·.1) = false := by rfl)
    (form : eval (.Call (.Attribute o m apos) (e :: es) [] pos) X.env = (do
      let recv ← eval o X.env
      standAt apos.atName
      let (g, front) ← holding [recv] (getMethod recv m pl)
      callWith pos g front (backTo pos (starEach (e :: es) X.env)) (backToKw pos (keywordEach [] X.env))) := by rfl) : PE X (.Call (.Attribute o m apos) (e :: es) [] pos) (tMeX C m sp W ta t) := by
  obtain ⟨f, fd, F, hm, hb⟩ := D.ex
  constructor
  intro pins s σ H Q I h
  refine PySem.W.methodCall_KW (pl := pl) (thn (he.run pins s σ H _ I h) ?_) form
  rintro u s1 ⟨y, H1, I1, ry, q, dq, fs, rfl, eq, lk, rest⟩
  obtain rfl : u = Value.ref q := ry
  refine getmeth_ok I1 eq c hm lk ?_
  refine PySem.W.callWith_K (first := [.ref q]) (h₀ := X.base) I.ok.mod.kin hm.kp (thn (ha.run pos pins s1 σ H1 _ I1 rest) ?_) st nst
  rintro us s2 ⟨vs, H2, I2, rv, fin⟩
  exact ⟨I2.kIn, run_fnS (us := .ref q :: us) (vs := .ref q :: vs) F (hr.mono hk) hb (passAt tk σ) I2 (.cons (show RelV (.ref q) (.ref q) from rfl) rv) fin⟩
theorem g_callS {σ : L2.St} {H : Hp} {Q : VK} {E : L2.St → XK} (q : t σ H fun vs H1 => sp vs H1 Q (E σ)) : tCallS sp E t σ H Q := q
theorem g_meX {σ : L2.St} {H : Hp} {Q : VK} (q : ta σ H fun x H1 => ∃ a dx fs, x = .ref a ∧ H1 a = some (.ins C dx fs) ∧ fs.lookup m = none ∧ t σ H1 fun vs H2 => sp (x :: vs) H2 Q (WE W σ)) : tMeX C m sp W ta t σ H Q := q
end
end Tw
namespace Tw
open PySem L2 PySem.Spec
/-- what isinstance asks of a class of the text -/
structure OwnIs (K : PySem.W.Frag) (C : Addr) : Prop where
  ha : PySem.W.findIn K (.ref C) "__class__" = some (some (.builtin "object.__class__"))
  hn : PySem.W.specialIn K (.builtin "object.__class__") "__get__" = some (some (.builtin "getset_descriptor.__get__"))
  ht : PySem.W.takesIn K (.builtin "object.__class__") = some true
  hm : PySem.W.mroIn K C (.type "object") = some true
  me : PySem.W.kitOne K (.ref C) (.ref C) = some true
  no : ∀ T ∈ kinds7, PySem.W.kitOne K (.type T) (.ref C) = some false
theorem g_isOwn {K : PySem.W.Frag} {C a dx : Addr} {fs : List (Str × V)} {H : Hp} {Q : VK} (O : OwnIs K C) (c : Cls K C) (e : H a = some (.ins C dx fs)) (q : Q (.bl true) H) : rIsi K [.ref a, .ref C] H Q :=
  ⟨_, _, _, _, true, rfl, .own C, .base (.ins e c O.ha O.hn O.ht O.hm), O.me, q⟩
theorem g_isNot {K : PySem.W.Frag} {C : Addr} {x : V} {T : String} {H : Hp} {Q : VK} (O : OwnIs K C) (ty : TyX K H x (.type T)) (h : T ∈ kinds7) (q : Q (.bl false) H) : rIsi K [x, .ref C] H Q :=
  ⟨_, _, _, _, false, rfl, .own C, ty, O.no T h, q⟩
section
variable {X : Cx} {k j : Nat} {C : Addr} {x m : Str} {p pos apos : Pos} {o e a b : Expr} {es : List Expr} {ps : List Str} {sp : Sp} {ta tb : TE} {t : TA} {W : WX}
theorem OpW.or {f : Value → Value → Sem Value} {r r' : L2.St → R2} (h : OpW X f r) (h' : OpW X f r') : OpW X f (fun σ x y H Q => r σ x y H Q ∨ r' σ x y H Q) :=
  fun pins s σ H x y v u Q I rx ry q => q.elim (h pins s σ H x y v u Q I rx ry) (h' pins s σ H x y v u Q I rx ry)
/-- an own operator that may raise: with another instance, with a thing of a built-in kind -/
def rOwnW (K : PySem.W.Frag) (C : Addr) (sp : Sp) (W : WX) : L2.St → R2 := fun σ x y H Q => (∃ (a b dx dy : Addr) (fs gs : List (Str × V)), x = .ref a ∧ y = .ref b ∧ H a = some (.ins C dx fs) ∧ H b = some (.ins C dy gs) ∧ sp [x, y] H Q (WE W σ)) ∨
  ∃ (a dx : Addr) (fs : List (Str × V)) (T : String), x = .ref a ∧ H a = some (.ins C dx fs) ∧ TyX K H y (.type T) ∧ T ∈ kinds7 ∧ sp [x, y] H Q (WE W σ)
theorem op_andW {K : PySem.W.Frag} (hK : X.K = K) (tk : Takes X W) (D : DefMX X.prog X.w X.K X.mg X.base k C (PySem.dunder Operator.BitAnd.info.2) ps sp) (hr : Room j X.A) (own : PySem.W.selfFirst X.K C = true) (nr : PySem.W.findIn X.K (.ref C) (dunderR Operator.BitAnd.info.2) = some none) (hk : k ≤ j := by decide) :
    OpW X (binaryOp .BitAnd) (rOwnW K C sp W) := by
  subst hK
  exact (op_own2W tk D hr own hk).or (op_ownTW tk D hr own nr kin_and hk)
theorem op_orW {K : PySem.W.Frag} (hK : X.K = K) (tk : Takes X W) (D : DefMX X.prog X.w X.K X.mg X.base k C (PySem.dunder Operator.BitOr.info.2) ps sp) (hr : Room j X.A) (own : PySem.W.selfFirst X.K C = true) (nr : PySem.W.findIn X.K (.ref C) (dunderR Operator.BitOr.info.2) = some none) (hk : k ≤ j := by decide) :
    OpW X (binaryOp .BitOr) (rOwnW K C sp W) := by
  subst hK
  exact (op_own2W tk D hr own hk).or (op_ownTW tk D hr own nr kin_or hk)
def tUnW (C : Addr) (sp : Sp) (W : WX) (ta : TE) : TE := fun σ H Q => ta σ H fun x H1 => ∃ (a dx : Addr) (fs : List (Str × V)), x = .ref a ∧ H1 a = some (.ins C dx fs) ∧ sp [x] H1 Q (WE W σ)
theorem pe_invW (tk : Takes X W) (D : DefMX X.prog X.w X.K X.mg X.base k C "__invert__" ps sp) (hr : Room j X.A) (ha : PE X a ta) (hk : k ≤ j := by decide) : PE X (.UnaryOp .Invert a pos) (tUnW C sp W ta) := by
  constructor
  intro pins s σ H Q I h
  refine PyProof.Rows.UnaryOp_ (thn (ha.run pins s σ H _ I h) ?_)
  rintro u s1 ⟨y, H1, I1, ry, q, dq, fs, rfl, eq, rest⟩
  obtain rfl : u = Value.ref q := ry
  obtain ⟨f, fd, F, hm, hb⟩ := D.ex
  obtain ⟨_, OA, _⟩ := ins_get I1.hok eq
  obtain ⟨_, ia, _⟩ := OA.look
  obtain ⟨_, fr⟩ := I1.fr
  refine PySem.W.ksp_inv fr I1.mod.kin ia hm.at_ hm.fn ?_
  exact run_fnS F (hr.mono hk) hb (passAt tk σ) I1 (vs := [.ref q]) (.cons (show RelV (.ref q) (.ref q) from rfl) .nil) rest
/-- a class of the text as a value -/
theorem pe_cls (hg : Gl X x) (hm : X.mg x = some (.ref C)) (hdb : (x == ("__debug__" : Str)) = false := by decide) : PE X (.Name x p) (tC (.ref C)) := pe_glob (v := .ref C) hg hm rfl hdb
end
end Tw
namespace Tw
open PySem L2 PySem.Spec
section
variable {σ : L2.St} {H : Hp} {Q : VK} {ta tb : TE} {t : TA} {sp : Sp} {W : WX} {C : Addr} {r : L2.St → R2} {D : Ends}
theorem g_opW (q : ta σ H fun x H1 => tb σ H1 fun y H2 => r σ x y H2 Q) : tOpW r ta tb σ H Q := q
theorem g_unW (q : ta σ H fun x H1 => ∃ (a dx : Addr) (fs : List (Str × V)), x = .ref a ∧ H1 a = some (.ins C dx fs) ∧ sp [x] H1 Q (WE W σ)) : tUnW C sp W ta σ H Q := q
end
end Tw

set_option Elab.async false
set_option linter.all false
set_option maxRecDepth 100000
/-! truths, orders of values, defs with one keyword-only parameter, dicts -/
namespace Tw
open PySem L2 PySem.Spec PyProof.Rows
def isTv (x : V) : Prop := x = .non ∨ ∃ b, x = .bl b
def rIsTv : R2 := fun x y H Q => isTv x ∧ (∃ b, y = .bl b) ∧ Q (.bl (decide (x = y))) H
def rNotTv : R2 := fun x y H Q => isTv x ∧ (∃ b, y = .bl b) ∧ Q (.bl (!decide (x = y))) H
def ltV : V → V → Bool
  | .int i, .int j => decide (i < j)
  | .str a, .str b => decide (a.cps.toList < b.cps.toList)
  | _, _ => false
/-- two numbers, two texts -/
def sameK (x y : V) : Prop := (∃ i j, x = .int i ∧ y = .int j) ∨ ∃ a b : Str, x = .str a ∧ y = .str b
def rLtV : R2 := fun x y H Q => sameK x y ∧ Q (.bl (ltV x y)) H
def rLeV : R2 := fun x y H Q => sameK x y ∧ Q (.bl (!ltV y x)) H
def rGtV : R2 := fun x y H Q => sameK x y ∧ Q (.bl (ltV y x)) H
def rGeV : R2 := fun x y H Q => sameK x y ∧ Q (.bl (!ltV x y)) H
theorem not_lt_le {i j : Int} : (!decide (j < i)) = decide (i ≤ j) := by
  by_cases h : j < i
  · rw [decide_eq_true h, decide_eq_false (by omega)]; rfl
  · rw [decide_eq_false h, decide_eq_true (by omega)]; rfl
section
variable {X : Cx}
theorem op_isTv : OpR X (compareOp .Is) rIsTv := by
  intro pins s σ H x y v u Q I rx ry h
  obtain ⟨hx, ⟨b, rfl⟩, q⟩ := h
  cases (show u = Value.bool b from ry)
  rcases hx with rfl | ⟨a, rfl⟩
  · cases (show v = Value.none from rx)
    exact wpAny_is_other rfl (fun z => nomatch z) ⟨.bl false, H, I, rfl, by simpa using q⟩
  · cases (show v = Value.bool a from rx)
    by_cases e : a = b
    · subst e
      exact wpAny_is_self rfl ⟨.bl true, H, I, rfl, by simpa using q⟩
    · exact wpAny_is_other rfl (fun z => e (Value.bool.inj z)) ⟨.bl false, H, I, rfl, by simpa [e] using q⟩
theorem op_notTv : OpR X (compareOp .IsNot) rNotTv := by
  intro pins s σ H x y v u Q I rx ry h
  obtain ⟨hx, ⟨b, rfl⟩, q⟩ := h
  cases (show u = Value.bool b from ry)
  rcases hx with rfl | ⟨a, rfl⟩
  · cases (show v = Value.none from rx)
    exact wpAny_isNot_other rfl (fun z => nomatch z) ⟨.bl true, H, I, rfl, by simpa using q⟩
  · cases (show v = Value.bool a from rx)
    by_cases e : a = b
    · subst e
      exact wpAny_isNot_self rfl ⟨.bl false, H, I, rfl, by simpa using q⟩
    · exact wpAny_isNot_other rfl (fun z => e (Value.bool.inj z)) ⟨.bl true, H, I, rfl, by simpa [e] using q⟩
theorem op_ltV : OpR X (compareOp .Lt) rLtV := by
  intro pins s σ H x y v u Q I rx ry ⟨h, q⟩
  rcases h with ⟨i, j, rfl, rfl⟩ | ⟨a, b, rfl, rfl⟩
  · exact op_lt pins s σ H _ _ v u Q I rx ry ⟨i, j, rfl, rfl, q⟩
  · exact op_lt_str pins s σ H _ _ v u Q I rx ry ⟨a, b, rfl, rfl, q⟩
theorem op_leV : OpR X (compareOp .LtE) rLeV := by
  intro pins s σ H x y v u Q I rx ry ⟨h, q⟩
  rcases h with ⟨i, j, rfl, rfl⟩ | ⟨a, b, rfl, rfl⟩
  · exact op_le pins s σ H _ _ v u Q I rx ry ⟨i, j, rfl, rfl, by show Q (.bl (decide (i ≤ j))) H; rw [← not_lt_le]; exact q⟩
  · exact op_le_str pins s σ H _ _ v u Q I rx ry ⟨a, b, rfl, rfl, q⟩
theorem op_gtV : OpR X (compareOp .Gt) rGtV := by
  intro pins s σ H x y v u Q I rx ry ⟨h, q⟩
  rcases h with ⟨i, j, rfl, rfl⟩ | ⟨a, b, rfl, rfl⟩
  · exact op_gt pins s σ H _ _ v u Q I rx ry ⟨i, j, rfl, rfl, q⟩
  · exact op_gt_str pins s σ H _ _ v u Q I rx ry ⟨a, b, rfl, rfl, q⟩
theorem op_geV : OpR X (compareOp .GtE) rGeV := by
  intro pins s σ H x y v u Q I rx ry ⟨h, q⟩
  rcases h with ⟨i, j, rfl, rfl⟩ | ⟨a, b, rfl, rfl⟩
  · exact op_ge pins s σ H _ _ v u Q I rx ry ⟨i, j, rfl, rfl, by show Q (.bl (decide (j ≤ i))) H; rw [← not_lt_le]; exact q⟩
  · exact op_ge_str pins s σ H _ _ v u Q I rx ry ⟨a, b, rfl, rfl, q⟩
end
/-! defs with one keyword-only parameter that has a default -/
structure HereKw (K : PySem.W.Frag) (mg : Str → Option Value) (x : Str) (st : Stmt) (ps : List Str) (n : Nat) (kn : Str) (dv : V) (f : Addr) (fd : FuncData) : Prop where
  fn : Fun K x x st f fd
  mg : mg x = some (.ref f)
  bd : ∃ ds, Vals [dv] ds ∧ Binds K fd ps ds
  kb : KBn K fd ps n [kn] (fun us ws => us ++ ws) (fun vs zs => vs ++ zs)
structure DefKw (P : Program) (w : World) (K : PySem.W.Frag) (mg : Str → Option Value) (base : Heap) (k : Nat) (x : Str) (ps : List Str) (n : Nat) (kn : Str) (dv : V) (sp : Sp) : Prop where
  ex : ∃ (f : Addr) (fd : FuncData), FnOk P w K mg base CX0 k f fd ps sp ∧ mg x = some (.ref f) ∧ PySem.W.keepIn K (.ref f) = true ∧ (∃ ds, Vals [dv] ds ∧ Binds K fd ps ds) ∧ KBn K fd ps n [kn] (fun us ws => us ++ ws) (fun vs zs => vs ++ zs)
theorem HereKw.def {P : Program} {w : World} {K : PySem.W.Frag} {mg : Str → Option Value} {base : Heap} {k n : Nat} {x kn : Str} {dv : V} {st : Stmt} {ps : List Str} {sp : Sp} {f : Addr} {fd : FuncData} (h : HereKw K mg x st ps n kn dv f fd) (F : FnOk P w K mg base CX0 k f fd ps sp) : DefKw P w K mg base k x ps n kn dv sp :=
  ⟨f, fd, F, h.mg, h.fn.kp, h.bd, h.kb⟩
section
variable {X : Cx} {k j n : Nat} {x kn : Str} {dv : V} {p pos kpos : Pos} {e ke : Expr} {es : List Expr} {ps : List Str} {sp : Sp} {t : TA} {te : TE}
def tDefK (sp : Sp) (dv : V) (t : TA) : TE := fun σ H Q => t σ H fun vs H1 => sp (vs ++ [dv]) H1 Q E0
theorem tDefK_eq : tCall sp [dv] E0 t = tDefK sp dv t := by
  funext σ H Q
  unfold tCall tDefK
  rfl
theorem pe_defK (D : DefKw X.prog X.w X.K X.mg X.base k x ps n kn dv sp) (hr : Room j X.A) (hg : Gl X x) (ha : PA X (e :: es) t) (hk : k ≤ j := by decide) (hdb : (x == ("__debug__" : Str)) = false := by decide)
    (he : starEach (e :: es) X.env = (false, eval e X.env) :: starEach es X.env := by rfl) (hpl : (backTo pos (starEach es X.env)).any (·.1) = false := by rfl) : PE X (.Call (.Name x p) (e :: es) [] pos) (tDefK sp dv t) := by
  obtain ⟨f, fd, F, hm, hkp, ⟨ds, hv, hb⟩, _⟩ := D.ex
  rw [← tDefK_eq]
  exact pe_call F (hr.mono hk) hg hm hkp hb hv pass0 ha hdb he hpl
def tDefKw (n : Nat) (sp : Sp) (t : TA) (te : TE) : TE := tCallN n 1 sp (fun vs zs => vs ++ zs) E0 t (tCons te tNil)
theorem pe_defKw (D : DefKw X.prog X.w X.K X.mg X.base k x ps n kn dv sp) (hr : Room j X.A) (hg : Gl X x) (ha : PA X (e :: es) t) (hke : PE X ke te) (hk : k ≤ j := by decide)
    (hall : (backToKw pos (keywordEach [⟨some kn, ke, kpos⟩] X.env)).all (·.1.isSome) = true := by rfl) (hks : (backToKw pos (keywordEach [⟨some kn, ke, kpos⟩] X.env)).filterMap (·.1) = [kn] := by rfl)
    (hdb : (x == ("__debug__" : Str)) = false := by decide) (he : starEach (e :: es) X.env = (false, eval e X.env) :: starEach es X.env := by rfl)
    (hpl : ((backTo pos (starEach (e :: es) X.env)).any (·.1) || (backToKw pos (keywordEach [⟨some kn, ke, kpos⟩] X.env)).any (·.1.isNone)) = false := by rfl) : PE X (.Call (.Name x p) (e :: es) [⟨some kn, ke, kpos⟩] pos) (tDefKw n sp t te) := by
  obtain ⟨f, fd, F, hm, hkp, _, kb⟩ := D.ex
  exact pe_callN F (hr.mono hk) hg hm hkp kb pass0 ha (pk_cons hke pk_nil) hall hks hdb he hpl
theorem g_defK {σ : L2.St} {H : Hp} {Q : VK} (q : t σ H fun vs H1 => sp (vs ++ [dv]) H1 Q E0) : tDefK sp dv t σ H Q := q
theorem g_defKw {σ : L2.St} {H : Hp} {Q : VK} (q : t σ H fun vs H1 => te σ H1 fun z H2 => vs.length = n ∧ 1 = 1 ∧ sp (vs ++ [z]) H2 Q E0) : tDefKw n sp t te σ H Q := q
end
theorem kw_bd {K : PySem.W.Frag} {fd : FuncData} {D : Addr} {kn : Str} {ps : List Str} {n : Nat} {i : Int} {t : Tok} (hps : ps.length = n + 1) (hn : PySem.W.nsIn K D kn = some (some (.int i t)))
    (h : ∀ us : List Value, us.length = n → ∀ u : Value, KwChain D [(kn, u)] (bindArgs fd ⟨us, []⟩) (ps.zip (us ++ [u]))) : ∃ ds, Vals [.int i] ds ∧ Binds K fd ps ds := by
  refine ⟨[.int i t], .cons ⟨t, rfl⟩ .nil, fun s us X hlen => BindsTo.of_looks fun M => KwChain.looks X (fun q hq => ?_) (h us ?_ (.int i t))⟩
  · obtain rfl : q = (kn, .int i t) := List.mem_singleton.mp hq
    exact hn
  · simp at hlen
    omega
theorem kw_kb {K : PySem.W.Frag} {fd : FuncData} {kn : Str} {ps : List Str} {n : Nat} (h : ∀ us : List Value, us.length = n → ∀ u : Value, bindArgs fd ⟨us, [(kn, u)]⟩ = pure (ps.zip (us ++ [u]))) : KBn K fd ps n [kn] (fun us ws => us ++ ws) (fun vs zs => vs ++ zs) := by
  refine ⟨fun s us ws X l1 l2 => ?_, fun r1 r2 => r1.append r2⟩
  match ws, l2 with
  | [u], _ => exact .of_eq (h us l1 u)
end Tw

set_option Elab.async false
set_option linter.all false
set_option maxRecDepth 100000
namespace Tw
open PySem L2 PySem.Spec
section
variable {J : It} {g : TG} {tt : TT} {te : TE} {vs : List Nat} {σ : L2.St} {H1 : Hp} {D : Addr} {Qd : Hp → Prop}
/-- a comprehension whose turns leave the heap: what is kept has a property -/
theorem lc_any (xs : List V) (P : V → Prop) (hD : H1 D = none) (hJ : ∀ H, (∀ q o, H1 q = some o → H q = some o) → Fits J xs H) (hlen : xs.length ≤ 1000000)
    (hs : ∀ x Hh (R : V → Hp → Prop) (S : Hp → Prop), x ∈ xs → (∀ q o, H1 q = some o → Hh q = some o) → (∀ y, P y → R y Hh) → S Hh →
      g x (wipe σ vs) Hh fun σ2 H2 => wipe σ2 vs = wipe σ vs ∧ tt σ2 H2 fun b H3 => if b = true then te σ2 H3 R else S H3)
    (hd : ∀ H ys, (∀ q o, H1 q = some o → H q = some o) → H D = some (.lst ys) → (∀ y ∈ ys, P y) → ys.length ≤ xs.length → Qd H) :
    ∃ W : Nat → Nat → Hp → Prop, (∃ m, W 0 m (upd H1 D (.lst []))) ∧ ∀ i m H, W i m H →
      (J.stop i H ∧ Qd H) ∨ (J.go i H ∧ ∃ Nx : Hp → Prop, (∀ H', Nx H' → ∃ m', m' < m ∧ W (i + 1) m' H') ∧ ∀ x H', J.yld i H x H' → g x (wipe σ vs) H' fun σ2 H2 => wipe σ2 vs = wipe σ vs ∧ tt σ2 H2 fun b H3 =>
        if b = true then te σ2 H3 fun y H4 => ∃ acc, H4 D = some (.lst acc) ∧ acc.length < sizeLine ∧ Nx (upd H4 D (.lst (acc ++ [y]))) else Nx H3) := by
  refine ⟨fun i m H => m = xs.length - i ∧ i ≤ xs.length ∧ (∃ ys, H D = some (.lst ys) ∧ (∀ y ∈ ys, P y) ∧ ys.length ≤ i) ∧ ∀ q o, H1 q = some o → H q = some o, ⟨xs.length, by simp, Nat.zero_le _, ⟨[], upd_same, (fun y hy => nomatch hy), Nat.zero_le _⟩, fun q o h => by rw [upd_ne (ne_of_none h hD)]; exact h⟩, ?_⟩
  rintro i m H ⟨rfl, hi, ⟨ys, hDl, hP, hl⟩, hK⟩
  have fi := hJ H hK
  by_cases hlt : i < xs.length
  · refine .inr ⟨fi.go i hlt, fun H' => (∃ ys, H' D = some (.lst ys) ∧ (∀ y ∈ ys, P y) ∧ ys.length ≤ i + 1) ∧ ∀ q o, H1 q = some o → H' q = some o, fun H' w => ⟨xs.length - (i + 1), by omega, rfl, hlt, w⟩, ?_⟩
    intro x H' hy
    obtain ⟨rfl, hx⟩ := fi.yld i x H' hy
    refine hs x H' (fun y H4 => _) (fun H3 => _) (List.mem_of_getElem? hx) hK (fun y hy => ⟨_, hDl, ?_, ⟨_, upd_same, fun z hz => ?_, ?_⟩, fun q o h => by rw [upd_ne (ne_of_none h hD)]; exact hK q o h⟩) ⟨⟨ys, hDl, hP, by omega⟩, hK⟩
    · rw [sizeLine_eq]
      omega
    · rcases List.mem_append.mp hz with hz | hz
      · exact hP z hz
      · rw [List.mem_singleton.mp hz]; exact hy
    · rw [List.length_append]
      show ys.length + 1 ≤ _
      omega
  · have e : i = xs.length := by omega
    subst e
    exact .inl ⟨fi.stop _ (Nat.le_refl _), hd H ys hK hDl hP hl⟩
/-- a comprehension whose turns leave the heap, with an if -/
theorem lc_filt (xs : List V) (f : V → Bool) (v : V → V) (hD : H1 D = none) (hJ : ∀ H, (∀ q o, H1 q = some o → H q = some o) → Fits J xs H) (hlen : xs.length ≤ 1000000)
    (hs : ∀ x Hh (R : V → Hp → Prop) (S : Hp → Prop), x ∈ xs → (∀ q o, H1 q = some o → Hh q = some o) → (f x = true → R (v x) Hh) → (f x = false → S Hh) →
      g x (wipe σ vs) Hh fun σ2 H2 => wipe σ2 vs = wipe σ vs ∧ tt σ2 H2 fun b H3 => if b = true then te σ2 H3 R else S H3)
    (hd : ∀ H, (∀ q o, H1 q = some o → H q = some o) → H D = some (.lst ((xs.filter f).map v)) → Qd H) :
    ∃ W : Nat → Nat → Hp → Prop, (∃ m, W 0 m (upd H1 D (.lst []))) ∧ ∀ i m H, W i m H →
      (J.stop i H ∧ Qd H) ∨ (J.go i H ∧ ∃ Nx : Hp → Prop, (∀ H', Nx H' → ∃ m', m' < m ∧ W (i + 1) m' H') ∧ ∀ x H', J.yld i H x H' → g x (wipe σ vs) H' fun σ2 H2 => wipe σ2 vs = wipe σ vs ∧ tt σ2 H2 fun b H3 =>
        if b = true then te σ2 H3 fun y H4 => ∃ acc, H4 D = some (.lst acc) ∧ acc.length < sizeLine ∧ Nx (upd H4 D (.lst (acc ++ [y]))) else Nx H3) := by
  refine ⟨fun i m H => m = xs.length - i ∧ i ≤ xs.length ∧ H D = some (.lst (((xs.take i).filter f).map v)) ∧ ∀ q o, H1 q = some o → H q = some o, ⟨xs.length, by simp, Nat.zero_le _, upd_same, fun q o h => by rw [upd_ne (ne_of_none h hD)]; exact h⟩, ?_⟩
  rintro i m H ⟨rfl, hi, hDl, hK⟩
  have fi := hJ H hK
  by_cases hlt : i < xs.length
  · refine .inr ⟨fi.go i hlt, fun H' => H' D = some (.lst (((xs.take (i + 1)).filter f).map v)) ∧ ∀ q o, H1 q = some o → H' q = some o, fun H' w => ⟨xs.length - (i + 1), by omega, rfl, hlt, w⟩, ?_⟩
    intro x H' hy
    obtain ⟨rfl, hx⟩ := fi.yld i x H' hy
    have e1 : xs.take (i + 1) = xs.take i ++ [x] := by rw [List.take_succ, hx]; rfl
    refine hs x H' (fun y H4 => _) (fun H3 => _) (List.mem_of_getElem? hx) hK (fun hf => ⟨_, hDl, ?_, ?_, fun q o h => by rw [upd_ne (ne_of_none h hD)]; exact hK q o h⟩) (fun hf => ⟨?_, hK⟩)
    · have h1 := List.length_filter_le f (xs.take i)
      rw [List.length_take] at h1
      rw [List.length_map, sizeLine_eq]
      omega
    · rw [upd_same, e1, List.filter_append, List.filter_cons, if_pos hf, List.map_append]; rfl
    · rw [hDl, e1, List.filter_append, List.filter_cons, if_neg (by rw [hf]; exact Bool.false_ne_true)]
      simp
  · have e : i = xs.length := by omega
    subst e
    refine .inl ⟨fi.stop _ (Nat.le_refl _), hd H hK ?_⟩
    rw [hDl, List.take_length]
end
end Tw

set_option Elab.async false
set_option linter.all false
set_option maxRecDepth 100000
set_option maxHeartbeats 4000000
/-! != of lists that are equal item by item -/
namespace PySem.SeqAt
open AutoSeq1 (wpAny_loadPart')
open MeetsSeq MeetsSeq2 MeetsSeq3 SeqRoads2
section
variable {prog : Program} {w : World}
theorem tw_ne_loop (l b : Addr) (items items2 : Array Value) (n n2 : Nat) (dd dd2 : Option Addr) (sl sl2 : Array (Option Value)) (hsz : items.size = items2.size) (k : Nat) :
    ∀ i : Nat, items.size - i = k → MeetsIn prog w (Builtin.«list.__eq__.loop» ⟨[.ref l, .ref b, rawInt i, rawInt 3], []⟩)
      (fun A R s => s.heap.get? l = some { cls := .type "list", dict := dd, data := .seq items n, slots := sl } ∧ s.heap.get? b = some { cls := .type "list", dict := dd2, data := .seq items2 n2, slots := sl2 } ∧
        (∀ j (h1 : j < items.size) (h2 : j < items2.size), EqP prog w A.in1 s items[j] items2[j] true) ∧
        R (.ok (.ret (.bool false))) s) := by
  induction k with
  | zero =>
    intro i hk A R s h
    obtain ⟨hp, g, d, tk, os⟩ := s; obtain ⟨hl, hb, he, h⟩ := h
    wp_walk using wpAny_loadPart' hl, wpAny_loadPart' hb
    have hi1 : items[((i : Nat) : Int).toNat]? = none := by simp; omega
    have hi2 : items2[((i : Nat) : Int).toNat]? = none := by simp; omega
    rw [hi1, hi2]
    wp_walk using wpAny_loadPart' hl, wpAny_loadPart' hb
    show R (.ok (.ret (.bool (items.size != items2.size)))) _
    rw [hsz]
    simpa using h
  | succ k ih =>
    intro i hk A R s h
    obtain ⟨hp, g, d, tk, os⟩ := s; obtain ⟨hl, hb, he, h⟩ := h
    wp_walk using wpAny_loadPart' hl, wpAny_loadPart' hb
    have hlt : i < items.size := by omega
    have hlt2 : i < items2.size := by omega
    have hi1 : items[((i : Nat) : Int).toNat]? = some items[i] := by simp [hlt]
    have hi2 : items2[((i : Nat) : Int).toNat]? = some items2[i] := by simp [hlt2]
    have hc : ((i : Int) + 1) = ((i + 1 : Nat) : Int) := by push_cast; rfl
    rw [hi1, hi2]
    refine wpAny_bind (he i hlt hlt2 _ _ ?_)
    wp_walk
    rw [hc]
    exact ⟨plainId_quiet plain_eq_loop _, codeAny_builtin entry_eq_loop (by
      rw [Around.under_plainId plain_eq_loop _]
      exact ih (i + 1) (by omega) A R _ ⟨hl, hb, he, h⟩)⟩
theorem tw_list_ne (l b : Addr) (items items2 : Array Value) (n n2 : Nat) (dd dd2 : Option Addr) (sl sl2 : Array (Option Value)) (hsz : items.size = items2.size) :
    MeetsIn prog w (Builtin.«list.__ne__» ⟨[.ref l, .ref b], []⟩)
      (fun A R s => s.heap.get? l = some { cls := .type "list", dict := dd, data := .seq items n, slots := sl } ∧ s.heap.get? b = some { cls := .type "list", dict := dd2, data := .seq items2 n2, slots := sl2 } ∧
        (∀ j (h1 : j < items.size) (h2 : j < items2.size), EqP prog w A.in1 s items[j] items2[j] true) ∧
        R (.ok (.ret (.bool false))) s) := by
  intro A R s h
  obtain ⟨hp, g, d, tk, os⟩ := s; obtain ⟨hl, hb, he, h⟩ := h
  have f3 := AutoSeq1.sub_list_list
  have hne : ¬ (items.size != items2.size) = true := by simp [hsz]
  wp_walk using wpAny_loadPart' hl, wpAny_loadPart' hb
  exact ⟨plainId_quiet plain_eq_loop _, codeAny_builtin entry_eq_loop (by
    rw [Around.under_plainId plain_eq_loop _]
    exact tw_ne_loop l b items items2 n n2 dd dd2 sl sl2 hsz _ 0 rfl A R _ ⟨hl, hb, he, h⟩)⟩
theorem tw_ne_lists {A : Around} {s : Shared} {l b : Addr} {items items2 : Array Value} (hl : s.heap.IsList l items) (hb : s.heap.IsList b items2) (hsz : items.size = items2.size) (hu : A.units < cLine)
    (he : ∀ j (h1 : j < items.size) (h2 : j < items2.size), EqP prog w A.in1 s items[j] items2[j] true) (E Q : Value → Shared → Prop) (h : Q (.bool false) s) : wpAny (model prog w) A (richCompare .NotEq (.ref l) (.ref b)) Q E s := by
  obtain ⟨⟨cls, dd, data, sl⟩, ho, hc, n, hd⟩ := id hl
  obtain ⟨⟨cls2, dd2, data2, sl2⟩, ho2, hc2, n2, hd2⟩ := id hb
  simp only at hc hd hc2 hd2
  subst hc hd hc2 hd2
  have ta : s.TypeIs (.ref l) "list" := ⟨_, ho, rfl⟩
  have tb : s.TypeIs (.ref b) "list" := ⟨_, ho2, rfl⟩
  exact wpAny_richCompare_same_room (op := .NotEq) ta tb F.slot_list_ne (call_meetsIn F.slot_list_ne ta F.entry_list_ne (F.args_list_ne_2 _ _) (tw_list_ne l b items items2 n n2 dd dd2 sl sl2 hsz)
    ⟨ho, ho2, he, show Value.bool false ≠ Value.notImplemented ∧ Q (.bool false) s from ⟨(fun x => nomatch x), h⟩⟩) hu
end
end PySem.SeqAt
namespace L2
open PySem PySem.Spec PyProof.Rows
section
variable {X : Cx}
/-- a != b, two lists whose items are equal -/
def rNeV (K : PySem.W.Frag) : R2 := fun x y H Q => ∃ n a b xs ys, n ≤ 60 ∧ x = .ref a ∧ y = .ref b ∧ SqL K H a xs ∧ SqL K H b ys ∧ Paired (EqV K H n) xs ys ∧ Q (.bl false) H
theorem op_neV (hu : X.A.units + 64 < cLine) : OpR X (compareOp .NotEq) (rNeV X.K) := by
  intro pins s σ H x y v u Q I rx ry h
  obtain ⟨n, a, b, xs, ys, hn, rfl, rfl, ha, hb, hp, q⟩ := h
  cases (show v = Value.ref a from rx)
  cases (show u = Value.ref b from ry)
  obtain ⟨us, r1, p1, _⟩ := I.list ha
  obtain ⟨ws, r2, p2, _⟩ := I.list hb
  have hsz : us.toArray.size = ws.toArray.size := by
    rw [List.size_toArray, List.size_toArray, ← r1.length, ← r2.length]
    exact Paired.length hp
  refine SeqAt.tw_ne_lists p1.isList p2.isList hsz (by omega) (fun j h1 h2 => ?_) _ _ ⟨.bl false, H, I, rfl, q⟩
  have k := items_run (eqV_run I n X.A.in1 (by show X.A.units + 1 + n < cLine; omega)) hp r1 r2 j (by simpa using h1) (by simpa using h2)
  simpa using k
theorem op_neVu {K : PySem.W.Frag} (h : X.K = K) (hu : X.A.units + 64 < cLine) : OpR X (compareOp .NotEq) (rNeV K) := by subst h; exact op_neV hu
theorem op_eqVu {K : PySem.W.Frag} (h : X.K = K) (hu : X.A.units + 64 < cLine) : OpR X (compareOp .Eq) (rEqV K) := by subst h; exact op_eqV hu
end
end L2
namespace Tw
open PySem L2
def rMin2 : List V → Hp → VK → Prop := fun xs H Q => ∃ i j, xs = [.int i, .int j] ∧ Q (.int (if j < i then j else i)) H
def rInsert : V → List V → Hp → VK → Prop := fun x vs H Q => ∃ (l : Addr) (xs : List V) (i : Int) (y : V), x = .ref l ∧ vs = [.int i, y] ∧ H l = some (.lst xs) ∧ xs.length < sizeLine ∧ 0 ≤ i ∧ i < 2 ^ 63 ∧ Q .non (upd H l (.lst (xs.take i.toNat ++ [y] ++ xs.drop i.toNat)))
section
variable {X : Cx}
theorem call_min2G (h : X.calm = true) : CallR X (.builtin "min") rMin2 := call_min2 h
theorem pg_tupG {K : PySem.W.Frag} {es : List Expr} {k : Nat} {t : TGs} {n : Nat} {pos : Pos} (hK : X.K = K) (hc : X.calm = true) (h : PGs X es t)
    (hn : (assignEach es X.env).length = n := by rfl) (hst : (assignEach es X.env).findIdx? (·.1) = none := by rfl) : PG X (.Tuple es k pos) (gTup K n t) := by subst hK; exact pg_tup hc h hn hst
theorem mt_insertG : MtR X "list.insert" rInsert := mt_insert
end
section
variable {K : PySem.W.Frag} {σ : L2.St} {H : Hp} {Q : VK} {D : Ends} {t : TA} {c : TT} {tb : TS} {i j : Int}
theorem g_min2 (q : Q (.int (if j < i then j else i)) H) : rMin2 [.int i, .int j] H Q := ⟨i, j, rfl, q⟩
theorem g_rng2 {R : It → Hp → Prop} (q : t σ H fun vs H1 => ∃ i j : Int, vs = [.int i, .int j] ∧ (-(2 ^ 62) ≤ i ∧ i < 2 ^ 62 ∧ -(2 ^ 62) ≤ j ∧ j < 2 ^ 62) ∧ R (Itr i (j - i).toNat) H1) : iRng2 t σ H R := q
theorem g_gtup {n : Nat} {u : TGs} {p : Addr} {xs : List V} {QS : L2.St → Hp → Prop} (h : H p = some (.tup xs)) (hl : xs.length = n) (q : u xs σ H QS) : gTup K n u (.ref p) σ H QS := ⟨p, xs, rfl, SqT.of h, hl, q⟩
theorem g_gcons {g : TG} {u : TGs} {v : V} {r : List V} {QS : L2.St → Hp → Prop} (q : g v σ H fun σ' H' => u r σ' H' QS) : gCons g u (v :: r) σ H QS := ⟨v, r, rfl, q⟩
theorem g_gnil {QS : L2.St → Hp → Prop} (q : QS σ H) : gNil [] σ H QS := ⟨rfl, q⟩
theorem g_while (q : ∃ W : Nat → L2.St → Hp → Prop, (∃ m, W m σ H) ∧ ∀ m σ H, W m σ H →
  c σ H fun b H1 => if b = true then ∃ N : L2.St → Hp → Prop, (∀ σ' H', N σ' H' → ∃ m', m' < m ∧ W m' σ' H') ∧ tb { D with nx := N, ct := N, bk := D.nx } σ H1 else D.nx σ H1) : tWhile c tb D σ H := q
theorem g_ins {p : Addr} {xs : List V} {v : V} (h : H p = some (.lst xs)) (hz : xs.length < 10000000) (h0 : 0 ≤ i) (h1 : i < 10000000) (q : Q .non (upd H p (.lst (xs.take i.toNat ++ [v] ++ xs.drop i.toNat)))) : rInsert (.ref p) [.int i, v] H Q := ⟨p, xs, i, v, rfl, rfl, h, by rw [sizeLine_eq]; omega, h0, by omega, q⟩
end
end Tw
namespace Tw
open PySem L2
section
variable {σ : L2.St} {g : TG} {tt : TT} {te : TE} {vs : List Nat} {J : It} {H1 : Hp} {D : Addr} {Qd : Hp → Prop}
/-- a comprehension whose turns make new things -/
theorem lc_new (xs : List V) (Rel : Nat → V → Hp → Prop) (hD : H1 D = none) (hJ : ∀ H, (∀ q o, H1 q = some o → H q = some o) → Fits J xs H) (hlen : xs.length ≤ 1000000)
    (hmono : ∀ i y H H', (∃ ys, H D = some (.lst ys)) → Rel i y H → (∀ q o, q ≠ D → H q = some o → H' q = some o) → Rel i y H')
    (hs : ∀ i x Hh (R : V → Hp → Prop) (S : Hp → Prop), xs[i]? = some x → (∀ q o, H1 q = some o → Hh q = some o) → (∃ ys, Hh D = some (.lst ys)) → (∀ y H4, (∀ q o, Hh q = some o → H4 q = some o) → Rel i y H4 → R y H4) →
      g x (wipe σ vs) Hh fun σ2 H2 => wipe σ2 vs = wipe σ vs ∧ tt σ2 H2 fun b H3 => if b = true then te σ2 H3 R else S H3)
    (hd : ∀ H ys, (∀ q o, H1 q = some o → H q = some o) → H D = some (.lst ys) → ys.length = xs.length → (∀ i y, ys[i]? = some y → Rel i y H) → Qd H) :
    ∃ W : Nat → Nat → Hp → Prop, (∃ m, W 0 m (upd H1 D (.lst []))) ∧ ∀ i m H, W i m H →
      (J.stop i H ∧ Qd H) ∨ (J.go i H ∧ ∃ Nx : Hp → Prop, (∀ H', Nx H' → ∃ m', m' < m ∧ W (i + 1) m' H') ∧ ∀ x H', J.yld i H x H' → g x (wipe σ vs) H' fun σ2 H2 => wipe σ2 vs = wipe σ vs ∧ tt σ2 H2 fun b H3 =>
        if b = true then te σ2 H3 fun y H4 => ∃ acc, H4 D = some (.lst acc) ∧ acc.length < sizeLine ∧ Nx (upd H4 D (.lst (acc ++ [y]))) else Nx H3) := by
  refine ⟨fun i m H => m = xs.length - i ∧ i ≤ xs.length ∧ (∀ q o, H1 q = some o → H q = some o) ∧ ∃ ys, H D = some (.lst ys) ∧ ys.length = i ∧ ∀ j y, ys[j]? = some y → Rel j y H, ⟨xs.length, by simp, Nat.zero_le _, fun q o h => by rw [upd_ne (ne_of_none h hD)]; exact h, [], upd_same, rfl, fun j y h => by simp at h⟩, ?_⟩
  rintro i m H ⟨rfl, hi, hK, ys, hDl, hyl, hR⟩
  have fi := hJ H hK
  by_cases hlt : i < xs.length
  · refine .inr ⟨fi.go i hlt, fun H' => (∀ q o, H1 q = some o → H' q = some o) ∧ ∃ ys, H' D = some (.lst ys) ∧ ys.length = i + 1 ∧ ∀ j y, ys[j]? = some y → Rel j y H', fun H' w => ⟨xs.length - (i + 1), by omega, rfl, hlt, w⟩, ?_⟩
    intro x H' hy
    obtain ⟨rfl, hx⟩ := fi.yld i x H' hy
    refine hs i x H' (fun y H4 => _) (fun H3 => _) hx hK ⟨_, hDl⟩ fun y H4 k4 r4 => ⟨ys, k4 _ _ hDl, by rw [sizeLine_eq]; omega, fun q o h => by rw [upd_ne (ne_of_none h hD)]; exact k4 _ _ (hK q o h), ys ++ [y], upd_same, by rw [List.length_append, hyl]; rfl, fun j z hz => ?_⟩
    have ku : ∀ q o, q ≠ D → H4 q = some o → (upd H4 D (.lst (ys ++ [y]))) q = some o := fun q o n h => by rw [upd_ne n]; exact h
    by_cases hj : j < ys.length
    · rw [List.getElem?_append_left hj] at hz
      exact hmono j z _ _ ⟨ys, k4 _ _ hDl⟩ (hmono j z _ _ ⟨ys, hDl⟩ (hR j z hz) fun q o _ h => k4 q o h) ku
    · rw [List.getElem?_append_right (by omega)] at hz
      obtain ⟨h0, _⟩ := List.getElem?_eq_some_iff.mp hz
      have e : j - ys.length = 0 := by simpa using h0
      rw [e] at hz
      obtain rfl : y = z := by simpa using hz
      obtain rfl : j = i := by omega
      exact hmono _ _ _ _ ⟨ys, k4 _ _ hDl⟩ r4 ku
  · have e : i = xs.length := by omega
    subst e
    exact .inl ⟨fi.stop _ (Nat.le_refl _), hd H ys hK hDl hyl hR⟩
end
end Tw

set_option Elab.async false
set_option linter.all false
set_option maxRecDepth 100000
set_option maxHeartbeats 4000000
namespace PySem
namespace ErBadTest
open PySem.W PySem.Calls PyProof.Rows PySem.HandSPX PySem.TwX
def inA (p1 p2 : Pos) : Arguments := { posonlyargs := [], args := [{ arg := "self", annotation := none, pos := p1 }, { arg := "why", annotation := none, pos := p2 }], vararg := none, kwonlyargs := [], kw_defaults := [], kwarg := none, defaults := [] }
def inB (q1 q2 q3 q4 : Pos) : List Stmt := [.Assign [.Attribute (.Name "self" q1) "why" q2] (.Name "why" q3) q4]
/-- what the written part says of the class at C, and of its __init__ at fI -/
structure Err (K : Frag) (mg : Str → Option Value) (C fI : Addr) : Prop where
  gC : mg "BadTest" = some (.ref C)
  cls : ∃ nm q N bs bm sn sub ab col dd k0 k1 k2 k3 k5, K.lookup C = some (excClassObj nm q C N bs bm true sn sub ab col dd k0 k1 k2 k3 k5 "Exception.__new__") ∧ OwnEx bm
  sa : findIn K (.ref C) "__setattr__" = some (some (.builtin "object.__setattr__"))
  ga : findIn K (.ref C) "__getattribute__" = some (some (.builtin "BaseException.__getattribute__"))
  gg : findIn K (.ref C) "__getattr__" = some none
  noF : findIn K (.ref C) "why" = some none
  ini : findIn K (.ref C) "__init__" = some (some (.ref fI))
  tyI : typeIn K (.ref fI) = some (.type "function")
  kC : keepIn K (.ref C) = true
  exC : subIn K (.ref C) (.type "BaseException") = some true
  tyC : typeIn K (.ref C) = some (.type "type")
  hdC : hasDictIn K C = true
  te : exmOne K (.ref C) (.ref C) = some true
  fn : ∃ (oc : Value) (od : Option Addr) (doc pm : Value) (an : Option Addr) (cdv ct : Value) (osl : Array (Option Value)) (p1 p2 q1 q2 q3 q4 : Pos) (sc : Scope),
    K.lookup fI = some ⟨oc, od, .func (fnOf "__init__" "BadTest.__init__" (inA p1 p2) (inB q1 q2 q3 q4) sc .none .none doc pm an cdv ct), osl⟩ ∧ codeIn K cdv "BadTest.__init__" = true ∧ sc.kind = .function ∧ sc.names = [(PySem.Str.ofString "self", .local), (PySem.Str.ofString "why", .local)] ∧ sc.isGenerator = false ∧ sc.isCoroutine = false
theorem one_ok (v : Value) : [v].length ≤ sizeLine := by rw [sizeLine_eq]; exact (by decide : 1 ≤ 16777216)
theorem read_local {M : Model} {s : Shared} {name : Str} {scope : Scope} {L a : Addr} {cd : Value} {m : Str → Option Value} {x : Str} {pos : Pos} {v : Value} {Q : Value → Shared → Prop} {A : Around} {E : Value → Shared → Prop} (hn : s.heap.Ns L m) (hv : m x = some v) (h : Q v s) (hk : scope.kind = .function)
    (hl : scope.names.lookup x = some .local) (hd : (x == ("__debug__" : Str)) = false := by decide) : wpAny M A (eval (.Name x pos) (envOfC name scope L a cd)) Q E s := wpAny_Name (wpAny_loadName_local hk hl hn hv h) hd
structure InitLeft (h h2 : Heap) (x C dx t1 : Addr) (v : Value) : Prop where
  keep : ∀ b o, b ≠ x → h.get? b = some o → h2.get? b = some o
  obj : h2.get? x = some { cls := .ref C, dict := some dx, data := .fields #[.ref t1, .none, .none, .none, .bool false, .none] }
  dbig : h.objs.size ≤ dx
  dne : dx ≠ x
  ns : h2.Ns1 dx (fun y => if y = "why" then some v else none)
structure ErrMade (h h2 : Heap) (e C d : Addr) (v : Value) : Prop where
  keep : ∀ b o, h.get? b = some o → h2.get? b = some o
  new : h.objs.size ≤ e
  obj : ∃ oe vs, h2.get? e = some oe ∧ oe.cls = .ref C ∧ oe.dict = some d ∧ oe.data = .fields vs ∧ vs[1]? = some .none
  dbig : h.objs.size ≤ d
  dne : d ≠ e
  ns : h2.Ns1 d (fun y => if y = "why" then some v else none)
section
variable {prog : Program} {w : World} {A : Around} {E : Value → Shared → Prop} {R : Result → Shared → Prop} {s : Shared} {K : Frag} {mg : Str → Option Value} {C fI : Addr}
theorem err_init (T : Err K mg C fI) {x t0 : Addr} {v : Value} (X : K.In s.heap) (hlim : s.heap.NoLimit) (hx : s.heap.get? x = some (excO C t0)) (hroom : A.depth < recursionLimit)
    (hq : ∀ h2 tk dx, InitLeft s.heap h2 x C dx t0 v → R (.ok (.ret .none)) { s with heap := h2, toks := tk }) :
    codeAny (model prog w) A (.call (.ref fI) ⟨[.ref x, v], []⟩) R s := by
  obtain ⟨oc, od, doc, pm, an, cdv, ct, osl, p1, p2, q1, q2, q3, q4, sc, ho, hcd, hk, hnames, hge, hco⟩ := T.fn
  obtain ⟨nm', q, N, bs, bm, sn, sub, ab, col, dd, k0, k1, k2, k3, k5, hC, hbm⟩ := T.cls
  have hcl : clsIn K C = some { name := nm', bases := bs, mro := .ref C :: bm, ns := N, qualname := q, hasDict := true, slotNames := sn, subclasses := sub, abstract := ab, collection := col, hasDel := false } := by unfold clsIn; rw [hC] <;> rfl
  have l1 : sc.names.lookup ("self" : Str) = some .local := by rw [hnames]; decide +kernel
  have l2 : sc.names.lookup ("why" : Str) = some .local := by rw [hnames]; decide +kernel
  refine Att.call_fn (binds := [("self", .ref x), ("why", v)]) X hlim ho hcd hroom (BindsTo.of_eq (by first | rfl | with_unfolding_all rfl)) (by rw [List.all_cons, List.all_cons, l1, l2]; rfl) (fun s₁ IC => ?_) hco hge hk
  obtain ⟨h₁, tk₁, rfl⟩ := IC.toInCall.same
  have k : ∀ b o, s.heap.get? b = some o → h₁.get? b = some o := IC.toInCall.keep
  have hn := IC.toInCall.ns
  have X₁ : K.In h₁ := X.keeps k
  have hx₁ := k _ _ hx
  have b1 : (bindL (envOfC "BadTest.__init__" sc s.heap.objs.size fI cdv).kindOf [("self", .ref x), ("why", v)] fun _ => none) ("self" : Str) = some (.ref x) :=
    L2.bindL_get (P := ["self", "why"]) (vs := [.ref x, v]) (i := 0) (by decide +kernel) rfl rfl l1
  have b2 : (bindL (envOfC "BadTest.__init__" sc s.heap.objs.size fI cdv).kindOf [("self", .ref x), ("why", v)] fun _ => none) ("why" : Str) = some v :=
    L2.bindL_get (P := ["self", "why"]) (vs := [.ref x, v]) (i := 1) (by decide +kernel) rfl rfl l2
  show wpAny _ _ (execs _ _) _ _ _
  refine wpAny_execs_cons (plainObj_wpAny_Assign_Attribute ?_)
  refine read_local (v := v) hn b2 (read_local (v := .ref x) hn b1 ?_ hk l1) hk l2
  refine set_plain X₁ (ox := excO C t0) (od := none) ⟨hx₁, rfl, rfl, trivial⟩ T.sa ?_
  refine setattr_first X₁ hx₁ hcl (.own C hbm) rfl T.noF (fun h₃ tk₃ dx k₃ dn dne hx₃ hn₃ => ?_)
  show wpAny _ _ (execs _ _) _ _ _
  have z : s.heap.objs.size < h₁.objs.size := hn.lt
  exact wpAny_execs_nil (hq h₃ tk₃ dx ⟨fun b o hb e => k₃ b o hb (k b o e), hx₃, Nat.le_of_lt (Nat.lt_of_lt_of_le z dn), dne, hn₃⟩)
theorem err_made (T : Err K mg C fI) {v : Value} (X : K.In s.heap) (hlim : s.heap.NoLimit) (hroom : A.depth + 1 < recursionLimit)
    (hq : ∀ h2 tk e d, ErrMade s.heap h2 e C d v → R (.ok (.ret (.ref e))) { s with heap := h2, toks := tk }) :
    codeAny (model prog w) A (.call (.ref C) ⟨[v], []⟩) R s := by
  obtain ⟨nm', q, N, bs, bm, sn, sub, ab, col, dd, k0, k1, k2, k3, k5, hC, hbm⟩ := T.cls
  obtain ⟨hp, g, dr, tk, os⟩ := s
  have k : ∀ b o, hp.get? b = some o → ((hp.push (kdv_tup [v])).push (excO C hp.objs.size)).get? b = some o := fun b o e => Heap.get?_push_of_some _ (Heap.get?_push_of_some _ e)
  have hget : ((hp.push (kdv_tup [v])).push (excO C hp.objs.size)).get? (hp.objs.size + 1) = some (excO C hp.objs.size) := by heap_get
  refine call_own F.excBase_Exception (fun X => hbm.has X) (X _ _ hC) (looks_findIn X T.ini) (fun self => bind_fn X self T.tyI) (one_ok v) ?_
  refine err_init (s := ⟨(hp.push (kdv_tup [v])).push (excO C hp.objs.size), g, dr, tk, os⟩) T (X.keeps k) (hlim.keeps k) hget ?_ fun h2 tk2 dx ⟨k', hx, dn, dne, hns⟩ => ?_
  · show A.depth + 1 < recursionLimit
    exact hroom
  · have old : ∀ b o, hp.get? b = some o → h2.get? b = some o := fun b o e => k' b o (Nat.ne_of_lt (Nat.lt_succ_of_lt (Heap.lt_size e))) (k b o e)
    have z : hp.objs.size + 1 + 1 ≤ dx := by
      first
        | (simpa only [Heap.size_push] using dn)
        | exact dn
        | (have q := dn; rw [Heap.size_push, Heap.size_push] at q; exact q)
    exact ⟨rfl, hq h2 tk2 (hp.objs.size + 1) dx ⟨old, Nat.le_succ _, ⟨_, _, hx, rfl, rfl, rfl, rfl⟩, Nat.le_trans (Nat.le_trans (Nat.le_succ _) (Nat.le_succ _)) z, dne, hns⟩⟩
end
end ErBadTest
end PySem
namespace Tw
open PySem L2
theorem relO_BadTest {v : V} {v' : Value} (r : RelV v v') (f : Str) : RelO (List.lookup f [(("why" : Str), v)]) (if f = "why" then some v' else none) := by
  by_cases hw : f = "why"
  · subst hw
    rw [if_pos rfl]
    have q : List.lookup ("why" : Str) [(("why" : Str), v)] = some v := by simp [List.lookup]
    rw [q]
    exact r
  · rw [if_neg hw]
    have qw : (f == ("why" : Str)) = false := by simpa using hw
    have q2 : List.lookup f [(("why" : Str), v)] = none := by simp [List.lookup, qw]
    rw [q2]
    trivial
section
variable {X : Cx} {C fI : Addr}
def tMkBadTest (C : Addr) (ta : TA) : L2.St → Hp → XK → Prop := fun σ H Q => ta σ H fun vs H1 => ∃ v, vs = [v] ∧ ∀ d, H1 d = none → Q (.ref C) (some d) (upd H1 d (.xd [(("why" : Str), v)]))
theorem pmk_BadTest {a : Expr} {ta : TA} {p pos : Pos} {k : Nat} (T : PySem.ErBadTest.Err X.K X.mg C fI) (hr : Room k X.A) (ha : PA X [a] ta) (hg : Gl X "BadTest" := by rfl)
    (he : starEach (a :: []) X.env = (false, eval a X.env) :: starEach [] X.env := by rfl) (hpl : (backTo pos (starEach [] X.env)).any (·.1) = false := by rfl) :
    PMk X (.Call (.Name "BadTest" p) [a] [] pos) (tMkBadTest C ta) := by
  intro pins s σ H Q I h
  refine wpAny_Call_Name_kw (ld_glob I hg T.gC ?_)
  refine PySem.W.callWith_K (h₀ := X.base) I.ok.mod.kin T.kC (thn (ha.run pos pins s σ H _ I h) fun us s1 hh => ?_) he hpl
  obtain ⟨vs, H1, I1, r1, v, ev, q1⟩ := hh
  subst ev
  refine ⟨I1.kIn, ?_⟩
  cases r1 with
  | cons rv rn =>
    rename_i v' us'
    cases rn
    show wpAny _ _ (call (.ref C) [v']) _ _ _
    have hlim := I1.nolimit
    obtain ⟨hp, g, dr, tk, os⟩ := s1
    refine wpAny_call (PySem.ErBadTest.err_made T I1.kIn hlim (by have := hr.dp; omega) fun h' tk' e d M => ?_)
    show MkP X pins σ Q (.ref e) ⟨h', g, dr, tk', os⟩
    obtain ⟨oe, fv, hoe, hc, hd, hdat, h1⟩ := M.obj
    have hns := M.ns
    obtain ⟨G', g1, g2⟩ := restrict h' fun b => decide (b ≠ e)
    have gk : ∀ b, b ≠ e → G'.get? b = h'.get? b := fun b hb => g1 b (decide_eq_true hb)
    have ge : G'.get? e = none := g2 e (by simp)
    have old : ∀ b o, hp.get? b = some o → G'.get? b = some o := fun b o q => (gk b (Nat.ne_of_lt (Nat.lt_of_lt_of_le (Heap.lt_size q) M.new))).trans (M.keep b o q)
    have ob : ObjOk X.prog X.w (upd H1 d (.xd [(("why" : Str), v)])) G' d (.xd [(("why" : Str), v)]) :=
      ⟨_, hns.at (fun o q => (gk d M.dne).trans q), fun f => relO_BadTest rv f⟩
    have J : Inv X pins σ (upd H1 d (.xd [(("why" : Str), v)])) ⟨G', g, dr, tk', os⟩ := I1.laid (t' := tk') old M.dbig ob
    refine ⟨e, oe, fv, ⟨G', g, dr, tk', os⟩, _, .ref C, some d, rfl, J, fun b o q => ?_, ge, hoe, ⟨hc, hd⟩, hdat, h1, ?_, rfl, I1.bare, raises_own T.exC T.tyC, q1 d (I1.hok.fresh M.dbig)⟩
    · by_cases hb : b = e
      · have q' : G'.get? b = some o := q
        rw [hb, ge] at q'; cases q'
      · exact (gk b hb).symm.trans q
    · rw [upd_ne (Ne.symm M.dne)]
      exact I1.hok.fresh M.new
def tRaiseBadTest (C : Addr) (W : WX) (ta : TA) : TS := fun _ σ H => tMkBadTest C ta σ H fun cls d H' => W cls d σ H'
theorem ps_raiseBadTest {a : Expr} {ta : TA} {W : WX} {p pos pos2 : Pos} {k : Nat} (hc : X.calm = true) (T : PySem.ErBadTest.Err X.K X.mg C fI) (hr : Room k X.A) (tk : Takes X W) (ha : PA X [a] ta) (hg : Gl X "BadTest" := by rfl)
    (he : starEach (a :: []) X.env = (false, eval a X.env) :: starEach [] X.env := by rfl) (hpl : (backTo pos (starEach [] X.env)).any (·.1) = false := by rfl) :
    PS X (.Raise (some (.Call (.Name "BadTest" p) [a] [] pos)) none pos2) (tRaiseBadTest C W ta) := ps_raise hc tk (pmk_BadTest T hr ha hg he hpl)
def tByBadTest (C : Addr) (a : Addr) (cls : Value) (d : Option Addr) (te : TE) : TE := fun σ H Q => te σ H fun x H1 => x = .ref a ∧ cls = .ref C ∧ ∃ (dd : Addr) (v : V), d = some dd ∧ H1 dd = some (.xd [(("why" : Str), v)]) ∧ Q v H1
theorem pe_byBadTest {a : Addr} {oe : Obj} {cls : Value} {d : Option Addr} {pn : List (Addr × Obj)} {e : Expr} {te : TE} {pos : Pos} (T : PySem.ErBadTest.Err X.K X.mg C fI) (hz : Zc cls d oe) (hf : ∃ vs, oe.data = .fields vs) (he : PE (X.suite a ((a, oe) :: pn)) e te)
    (hb : attributeBase e "why" X.env (eval e X.env) = eval e X.env := by rfl) :
    PE (X.suite a ((a, oe) :: pn)) (.Attribute e "why" pos) (tByBadTest C a cls d te) := by
  refine ⟨fun pins s σ H Q I h => ?_⟩
  refine attr_of hb (thn (he.run pins s σ H _ I h) fun u s1 hh => ?_)
  obtain ⟨x, H1, I1, rx, ex, ec, dd, v, ed, ea, q⟩ := hh
  subst ex
  obtain rfl : u = Value.ref a := rx
  subst ec
  subst ed
  obtain ⟨ha, _⟩ := I1.pin (a, oe) (List.mem_append_left _ List.mem_cons_self)
  obtain ⟨vs, hd⟩ := hf
  have hx : ObjOk X.prog X.w H1 s1.heap dd (.xd [(("why" : Str), v)]) := I1.hok dd _ ea
  obtain ⟨mA, hns, hr⟩ := hx
  obtain ⟨od, ho, hl⟩ := lookIn_ns hns
  have l : List.lookup ("why" : Str) [(("why" : Str), v)] = some v := by simp [List.lookup]
  obtain ⟨u, hu, ru⟩ := RelO.some_of (v := v) (o := mA "why") (by rw [← l]; exact hr "why")
  have J : PySem.W.InstAt s1.heap a oe C (some od) := ⟨ha, hz.1, by unfold PySem.W.notCls; rw [hd] <;> rfl, by rw [hz.2]; exact ho⟩
  exact HandSPX.exc_get I1.kIn J T.ga T.gg T.exC (PySem.W.findObj_own T.hdC T.noF rfl (by rw [hl, hu])) (handed_of ru) ⟨v, H1, I1.tok _, ru, q⟩
end
end Tw

set_option Elab.async false
set_option linter.all false
set_option maxRecDepth 100000
set_option maxHeartbeats 4000000
namespace PySem
namespace ErBadOrder
open PySem.W PySem.Calls PyProof.Rows PySem.HandSPX PySem.TwX
def inA (p1 p2 : Pos) : Arguments := { posonlyargs := [], args := [{ arg := "self", annotation := none, pos := p1 }, { arg := "at", annotation := none, pos := p2 }], vararg := none, kwonlyargs := [], kw_defaults := [], kwarg := none, defaults := [] }
def inB (q1 q2 q3 q4 : Pos) : List Stmt := [.Assign [.Attribute (.Name "self" q1) "at" q2] (.Name "at" q3) q4]
/-- what the written part says of the class at C, and of its __init__ at fI -/
structure Err (K : Frag) (mg : Str → Option Value) (C fI : Addr) : Prop where
  gC : mg "BadOrder" = some (.ref C)
  cls : ∃ nm q N bs bm sn sub ab col dd k0 k1 k2 k3 k5, K.lookup C = some (excClassObj nm q C N bs bm true sn sub ab col dd k0 k1 k2 k3 k5 "Exception.__new__") ∧ OwnEx bm
  sa : findIn K (.ref C) "__setattr__" = some (some (.builtin "object.__setattr__"))
  ga : findIn K (.ref C) "__getattribute__" = some (some (.builtin "BaseException.__getattribute__"))
  gg : findIn K (.ref C) "__getattr__" = some none
  noF : findIn K (.ref C) "at" = some none
  ini : findIn K (.ref C) "__init__" = some (some (.ref fI))
  tyI : typeIn K (.ref fI) = some (.type "function")
  kC : keepIn K (.ref C) = true
  exC : subIn K (.ref C) (.type "BaseException") = some true
  tyC : typeIn K (.ref C) = some (.type "type")
  hdC : hasDictIn K C = true
  te : exmOne K (.ref C) (.ref C) = some true
  fn : ∃ (oc : Value) (od : Option Addr) (doc pm : Value) (an : Option Addr) (cdv ct : Value) (osl : Array (Option Value)) (p1 p2 q1 q2 q3 q4 : Pos) (sc : Scope),
    K.lookup fI = some ⟨oc, od, .func (fnOf "__init__" "BadOrder.__init__" (inA p1 p2) (inB q1 q2 q3 q4) sc .none .none doc pm an cdv ct), osl⟩ ∧ codeIn K cdv "BadOrder.__init__" = true ∧ sc.kind = .function ∧ sc.names = [(PySem.Str.ofString "self", .local), (PySem.Str.ofString "at", .local)] ∧ sc.isGenerator = false ∧ sc.isCoroutine = false
theorem one_ok (v : Value) : [v].length ≤ sizeLine := by rw [sizeLine_eq]; exact (by decide : 1 ≤ 16777216)
theorem read_local {M : Model} {s : Shared} {name : Str} {scope : Scope} {L a : Addr} {cd : Value} {m : Str → Option Value} {x : Str} {pos : Pos} {v : Value} {Q : Value → Shared → Prop} {A : Around} {E : Value → Shared → Prop} (hn : s.heap.Ns L m) (hv : m x = some v) (h : Q v s) (hk : scope.kind = .function)
    (hl : scope.names.lookup x = some .local) (hd : (x == ("__debug__" : Str)) = false := by decide) : wpAny M A (eval (.Name x pos) (envOfC name scope L a cd)) Q E s := wpAny_Name (wpAny_loadName_local hk hl hn hv h) hd
structure InitLeft (h h2 : Heap) (x C dx t1 : Addr) (v : Value) : Prop where
  keep : ∀ b o, b ≠ x → h.get? b = some o → h2.get? b = some o
  obj : h2.get? x = some { cls := .ref C, dict := some dx, data := .fields #[.ref t1, .none, .none, .none, .bool false, .none] }
  dbig : h.objs.size ≤ dx
  dne : dx ≠ x
  ns : h2.Ns1 dx (fun y => if y = "at" then some v else none)
structure ErrMade (h h2 : Heap) (e C d : Addr) (v : Value) : Prop where
  keep : ∀ b o, h.get? b = some o → h2.get? b = some o
  new : h.objs.size ≤ e
  obj : ∃ oe vs, h2.get? e = some oe ∧ oe.cls = .ref C ∧ oe.dict = some d ∧ oe.data = .fields vs ∧ vs[1]? = some .none
  dbig : h.objs.size ≤ d
  dne : d ≠ e
  ns : h2.Ns1 d (fun y => if y = "at" then some v else none)
section
variable {prog : Program} {w : World} {A : Around} {E : Value → Shared → Prop} {R : Result → Shared → Prop} {s : Shared} {K : Frag} {mg : Str → Option Value} {C fI : Addr}
theorem err_init (T : Err K mg C fI) {x t0 : Addr} {v : Value} (X : K.In s.heap) (hlim : s.heap.NoLimit) (hx : s.heap.get? x = some (excO C t0)) (hroom : A.depth < recursionLimit)
    (hq : ∀ h2 tk dx, InitLeft s.heap h2 x C dx t0 v → R (.ok (.ret .none)) { s with heap := h2, toks := tk }) :
    codeAny (model prog w) A (.call (.ref fI) ⟨[.ref x, v], []⟩) R s := by
  obtain ⟨oc, od, doc, pm, an, cdv, ct, osl, p1, p2, q1, q2, q3, q4, sc, ho, hcd, hk, hnames, hge, hco⟩ := T.fn
  obtain ⟨nm', q, N, bs, bm, sn, sub, ab, col, dd, k0, k1, k2, k3, k5, hC, hbm⟩ := T.cls
  have hcl : clsIn K C = some { name := nm', bases := bs, mro := .ref C :: bm, ns := N, qualname := q, hasDict := true, slotNames := sn, subclasses := sub, abstract := ab, collection := col, hasDel := false } := by unfold clsIn; rw [hC] <;> rfl
  have l1 : sc.names.lookup ("self" : Str) = some .local := by rw [hnames]; decide +kernel
  have l2 : sc.names.lookup ("at" : Str) = some .local := by rw [hnames]; decide +kernel
  refine Att.call_fn (binds := [("self", .ref x), ("at", v)]) X hlim ho hcd hroom (BindsTo.of_eq (by first | rfl | with_unfolding_all rfl)) (by rw [List.all_cons, List.all_cons, l1, l2]; rfl) (fun s₁ IC => ?_) hco hge hk
  obtain ⟨h₁, tk₁, rfl⟩ := IC.toInCall.same
  have k : ∀ b o, s.heap.get? b = some o → h₁.get? b = some o := IC.toInCall.keep
  have hn := IC.toInCall.ns
  have X₁ : K.In h₁ := X.keeps k
  have hx₁ := k _ _ hx
  have b1 : (bindL (envOfC "BadOrder.__init__" sc s.heap.objs.size fI cdv).kindOf [("self", .ref x), ("at", v)] fun _ => none) ("self" : Str) = some (.ref x) :=
    L2.bindL_get (P := ["self", "at"]) (vs := [.ref x, v]) (i := 0) (by decide +kernel) rfl rfl l1
  have b2 : (bindL (envOfC "BadOrder.__init__" sc s.heap.objs.size fI cdv).kindOf [("self", .ref x), ("at", v)] fun _ => none) ("at" : Str) = some v :=
    L2.bindL_get (P := ["self", "at"]) (vs := [.ref x, v]) (i := 1) (by decide +kernel) rfl rfl l2
  show wpAny _ _ (execs _ _) _ _ _
  refine wpAny_execs_cons (plainObj_wpAny_Assign_Attribute ?_)
  refine read_local (v := v) hn b2 (read_local (v := .ref x) hn b1 ?_ hk l1) hk l2
  refine set_plain X₁ (ox := excO C t0) (od := none) ⟨hx₁, rfl, rfl, trivial⟩ T.sa ?_
  refine setattr_first X₁ hx₁ hcl (.own C hbm) rfl T.noF (fun h₃ tk₃ dx k₃ dn dne hx₃ hn₃ => ?_)
  show wpAny _ _ (execs _ _) _ _ _
  have z : s.heap.objs.size < h₁.objs.size := hn.lt
  exact wpAny_execs_nil (hq h₃ tk₃ dx ⟨fun b o hb e => k₃ b o hb (k b o e), hx₃, Nat.le_of_lt (Nat.lt_of_lt_of_le z dn), dne, hn₃⟩)
theorem err_made (T : Err K mg C fI) {v : Value} (X : K.In s.heap) (hlim : s.heap.NoLimit) (hroom : A.depth + 1 < recursionLimit)
    (hq : ∀ h2 tk e d, ErrMade s.heap h2 e C d v → R (.ok (.ret (.ref e))) { s with heap := h2, toks := tk }) :
    codeAny (model prog w) A (.call (.ref C) ⟨[v], []⟩) R s := by
  obtain ⟨nm', q, N, bs, bm, sn, sub, ab, col, dd, k0, k1, k2, k3, k5, hC, hbm⟩ := T.cls
  obtain ⟨hp, g, dr, tk, os⟩ := s
  have k : ∀ b o, hp.get? b = some o → ((hp.push (kdv_tup [v])).push (excO C hp.objs.size)).get? b = some o := fun b o e => Heap.get?_push_of_some _ (Heap.get?_push_of_some _ e)
  have hget : ((hp.push (kdv_tup [v])).push (excO C hp.objs.size)).get? (hp.objs.size + 1) = some (excO C hp.objs.size) := by heap_get
  refine call_own F.excBase_Exception (fun X => hbm.has X) (X _ _ hC) (looks_findIn X T.ini) (fun self => bind_fn X self T.tyI) (one_ok v) ?_
  refine err_init (s := ⟨(hp.push (kdv_tup [v])).push (excO C hp.objs.size), g, dr, tk, os⟩) T (X.keeps k) (hlim.keeps k) hget ?_ fun h2 tk2 dx ⟨k', hx, dn, dne, hns⟩ => ?_
  · show A.depth + 1 < recursionLimit
    exact hroom
  · have old : ∀ b o, hp.get? b = some o → h2.get? b = some o := fun b o e => k' b o (Nat.ne_of_lt (Nat.lt_succ_of_lt (Heap.lt_size e))) (k b o e)
    have z : hp.objs.size + 1 + 1 ≤ dx := by
      first
        | (simpa only [Heap.size_push] using dn)
        | exact dn
        | (have q := dn; rw [Heap.size_push, Heap.size_push] at q; exact q)
    exact ⟨rfl, hq h2 tk2 (hp.objs.size + 1) dx ⟨old, Nat.le_succ _, ⟨_, _, hx, rfl, rfl, rfl, rfl⟩, Nat.le_trans (Nat.le_trans (Nat.le_succ _) (Nat.le_succ _)) z, dne, hns⟩⟩
end
end ErBadOrder
end PySem
namespace Tw
open PySem L2
theorem relO_BadOrder {v : V} {v' : Value} (r : RelV v v') (f : Str) : RelO (List.lookup f [(("at" : Str), v)]) (if f = "at" then some v' else none) := by
  by_cases hw : f = "at"
  · subst hw
    rw [if_pos rfl]
    have q : List.lookup ("at" : Str) [(("at" : Str), v)] = some v := by simp [List.lookup]
    rw [q]
    exact r
  · rw [if_neg hw]
    have qw : (f == ("at" : Str)) = false := by simpa using hw
    have q2 : List.lookup f [(("at" : Str), v)] = none := by simp [List.lookup, qw]
    rw [q2]
    trivial
section
variable {X : Cx} {C fI : Addr}
def tMkBadOrder (C : Addr) (ta : TA) : L2.St → Hp → XK → Prop := fun σ H Q => ta σ H fun vs H1 => ∃ v, vs = [v] ∧ ∀ d, H1 d = none → Q (.ref C) (some d) (upd H1 d (.xd [(("at" : Str), v)]))
theorem pmk_BadOrder {a : Expr} {ta : TA} {p pos : Pos} {k : Nat} (T : PySem.ErBadOrder.Err X.K X.mg C fI) (hr : Room k X.A) (ha : PA X [a] ta) (hg : Gl X "BadOrder" := by rfl)
    (he : starEach (a :: []) X.env = (false, eval a X.env) :: starEach [] X.env := by rfl) (hpl : (backTo pos (starEach [] X.env)).any (·.1) = false := by rfl) :
    PMk X (.Call (.Name "BadOrder" p) [a] [] pos) (tMkBadOrder C ta) := by
  intro pins s σ H Q I h
  refine wpAny_Call_Name_kw (ld_glob I hg T.gC ?_)
  refine PySem.W.callWith_K (h₀ := X.base) I.ok.mod.kin T.kC (thn (ha.run pos pins s σ H _ I h) fun us s1 hh => ?_) he hpl
  obtain ⟨vs, H1, I1, r1, v, ev, q1⟩ := hh
  subst ev
  refine ⟨I1.kIn, ?_⟩
  cases r1 with
  | cons rv rn =>
    rename_i v' us'
    cases rn
    show wpAny _ _ (call (.ref C) [v']) _ _ _
    have hlim := I1.nolimit
    obtain ⟨hp, g, dr, tk, os⟩ := s1
    refine wpAny_call (PySem.ErBadOrder.err_made T I1.kIn hlim (by have := hr.dp; omega) fun h' tk' e d M => ?_)
    show MkP X pins σ Q (.ref e) ⟨h', g, dr, tk', os⟩
    obtain ⟨oe, fv, hoe, hc, hd, hdat, h1⟩ := M.obj
    have hns := M.ns
    obtain ⟨G', g1, g2⟩ := restrict h' fun b => decide (b ≠ e)
    have gk : ∀ b, b ≠ e → G'.get? b = h'.get? b := fun b hb => g1 b (decide_eq_true hb)
    have ge : G'.get? e = none := g2 e (by simp)
    have old : ∀ b o, hp.get? b = some o → G'.get? b = some o := fun b o q => (gk b (Nat.ne_of_lt (Nat.lt_of_lt_of_le (Heap.lt_size q) M.new))).trans (M.keep b o q)
    have ob : ObjOk X.prog X.w (upd H1 d (.xd [(("at" : Str), v)])) G' d (.xd [(("at" : Str), v)]) :=
      ⟨_, hns.at (fun o q => (gk d M.dne).trans q), fun f => relO_BadOrder rv f⟩
    have J : Inv X pins σ (upd H1 d (.xd [(("at" : Str), v)])) ⟨G', g, dr, tk', os⟩ := I1.laid (t' := tk') old M.dbig ob
    refine ⟨e, oe, fv, ⟨G', g, dr, tk', os⟩, _, .ref C, some d, rfl, J, fun b o q => ?_, ge, hoe, ⟨hc, hd⟩, hdat, h1, ?_, rfl, I1.bare, raises_own T.exC T.tyC, q1 d (I1.hok.fresh M.dbig)⟩
    · by_cases hb : b = e
      · have q' : G'.get? b = some o := q
        rw [hb, ge] at q'; cases q'
      · exact (gk b hb).symm.trans q
    · rw [upd_ne (Ne.symm M.dne)]
      exact I1.hok.fresh M.new
def tRaiseBadOrder (C : Addr) (W : WX) (ta : TA) : TS := fun _ σ H => tMkBadOrder C ta σ H fun cls d H' => W cls d σ H'
theorem ps_raiseBadOrder {a : Expr} {ta : TA} {W : WX} {p pos pos2 : Pos} {k : Nat} (hc : X.calm = true) (T : PySem.ErBadOrder.Err X.K X.mg C fI) (hr : Room k X.A) (tk : Takes X W) (ha : PA X [a] ta) (hg : Gl X "BadOrder" := by rfl)
    (he : starEach (a :: []) X.env = (false, eval a X.env) :: starEach [] X.env := by rfl) (hpl : (backTo pos (starEach [] X.env)).any (·.1) = false := by rfl) :
    PS X (.Raise (some (.Call (.Name "BadOrder" p) [a] [] pos)) none pos2) (tRaiseBadOrder C W ta) := ps_raise hc tk (pmk_BadOrder T hr ha hg he hpl)
def tByBadOrder (C : Addr) (a : Addr) (cls : Value) (d : Option Addr) (te : TE) : TE := fun σ H Q => te σ H fun x H1 => x = .ref a ∧ cls = .ref C ∧ ∃ (dd : Addr) (v : V), d = some dd ∧ H1 dd = some (.xd [(("at" : Str), v)]) ∧ Q v H1
theorem pe_byBadOrder {a : Addr} {oe : Obj} {cls : Value} {d : Option Addr} {pn : List (Addr × Obj)} {e : Expr} {te : TE} {pos : Pos} (T : PySem.ErBadOrder.Err X.K X.mg C fI) (hz : Zc cls d oe) (hf : ∃ vs, oe.data = .fields vs) (he : PE (X.suite a ((a, oe) :: pn)) e te)
    (hb : attributeBase e "at" X.env (eval e X.env) = eval e X.env := by rfl) :
    PE (X.suite a ((a, oe) :: pn)) (.Attribute e "at" pos) (tByBadOrder C a cls d te) := by
  refine ⟨fun pins s σ H Q I h => ?_⟩
  refine attr_of hb (thn (he.run pins s σ H _ I h) fun u s1 hh => ?_)
  obtain ⟨x, H1, I1, rx, ex, ec, dd, v, ed, ea, q⟩ := hh
  subst ex
  obtain rfl : u = Value.ref a := rx
  subst ec
  subst ed
  obtain ⟨ha, _⟩ := I1.pin (a, oe) (List.mem_append_left _ List.mem_cons_self)
  obtain ⟨vs, hd⟩ := hf
  have hx : ObjOk X.prog X.w H1 s1.heap dd (.xd [(("at" : Str), v)]) := I1.hok dd _ ea
  obtain ⟨mA, hns, hr⟩ := hx
  obtain ⟨od, ho, hl⟩ := lookIn_ns hns
  have l : List.lookup ("at" : Str) [(("at" : Str), v)] = some v := by simp [List.lookup]
  obtain ⟨u, hu, ru⟩ := RelO.some_of (v := v) (o := mA "at") (by rw [← l]; exact hr "at")
  have J : PySem.W.InstAt s1.heap a oe C (some od) := ⟨ha, hz.1, by unfold PySem.W.notCls; rw [hd] <;> rfl, by rw [hz.2]; exact ho⟩
  exact HandSPX.exc_get I1.kIn J T.ga T.gg T.exC (PySem.W.findObj_own T.hdC T.noF rfl (by rw [hl, hu])) (handed_of ru) ⟨v, H1, I1.tok _, ru, q⟩
end
end Tw

set_option Elab.async false
set_option linter.all false
set_option maxRecDepth 100000
set_option maxHeartbeats 4000000
namespace PySem
namespace ErBadPlan
open PySem.W PySem.Calls PyProof.Rows PySem.HandSPX PySem.TwX
def inA (p1 p2 p3 : Pos) : Arguments := { posonlyargs := [], args := [{ arg := "self", annotation := none, pos := p1 }, { arg := "why", annotation := none, pos := p2 }, { arg := "at", annotation := none, pos := p3 }], vararg := none, kwonlyargs := [], kw_defaults := [], kwarg := none, defaults := [] }
def inB (q1 q2 q3 q4 q5 q6 q7 q8 : Pos) : List Stmt := [.Assign [.Attribute (.Name "self" q1) "why" q2] (.Name "why" q3) q4, .Assign [.Attribute (.Name "self" q5) "at" q6] (.Name "at" q7) q8]
/-- what the written part says of the class at C, and of its __init__ at fI -/
structure Err (K : Frag) (mg : Str → Option Value) (C fI : Addr) : Prop where
  gC : mg "BadPlan" = some (.ref C)
  cls : ∃ nm q N bs bm sn sub ab col dd k0 k1 k2 k3 k5, K.lookup C = some (excClassObj nm q C N bs bm true sn sub ab col dd k0 k1 k2 k3 k5 "Exception.__new__") ∧ OwnEx bm
  sa : findIn K (.ref C) "__setattr__" = some (some (.builtin "object.__setattr__"))
  ga : findIn K (.ref C) "__getattribute__" = some (some (.builtin "BaseException.__getattribute__"))
  gg : findIn K (.ref C) "__getattr__" = some none
  noF : findIn K (.ref C) "why" = some none
  noG : findIn K (.ref C) "at" = some none
  ini : findIn K (.ref C) "__init__" = some (some (.ref fI))
  tyI : typeIn K (.ref fI) = some (.type "function")
  kC : keepIn K (.ref C) = true
  exC : subIn K (.ref C) (.type "BaseException") = some true
  tyC : typeIn K (.ref C) = some (.type "type")
  hdC : hasDictIn K C = true
  te : exmOne K (.ref C) (.ref C) = some true
  fn : ∃ (oc : Value) (od : Option Addr) (doc pm : Value) (an : Option Addr) (cdv ct : Value) (osl : Array (Option Value)) (p1 p2 p3 q1 q2 q3 q4 q5 q6 q7 q8 : Pos) (sc : Scope),
    K.lookup fI = some ⟨oc, od, .func (fnOf "__init__" "BadPlan.__init__" (inA p1 p2 p3) (inB q1 q2 q3 q4 q5 q6 q7 q8) sc .none .none doc pm an cdv ct), osl⟩ ∧ codeIn K cdv "BadPlan.__init__" = true ∧ sc.kind = .function ∧ sc.names = [(PySem.Str.ofString "self", .local), (PySem.Str.ofString "why", .local), (PySem.Str.ofString "at", .local)] ∧ sc.isGenerator = false ∧ sc.isCoroutine = false
theorem two_ok (v u : Value) : [v, u].length ≤ sizeLine := by rw [sizeLine_eq]; exact (by decide : 2 ≤ 16777216)
theorem read_local {M : Model} {s : Shared} {name : Str} {scope : Scope} {L a : Addr} {cd : Value} {m : Str → Option Value} {x : Str} {pos : Pos} {v : Value} {Q : Value → Shared → Prop} {A : Around} {E : Value → Shared → Prop} (hn : s.heap.Ns L m) (hv : m x = some v) (h : Q v s) (hk : scope.kind = .function)
    (hl : scope.names.lookup x = some .local) (hd : (x == ("__debug__" : Str)) = false := by decide) : wpAny M A (eval (.Name x pos) (envOfC name scope L a cd)) Q E s := wpAny_Name (wpAny_loadName_local hk hl hn hv h) hd
structure InitLeft (h h2 : Heap) (x C dx t1 : Addr) (v u : Value) : Prop where
  keep : ∀ b o, b ≠ x → h.get? b = some o → h2.get? b = some o
  obj : h2.get? x = some { cls := .ref C, dict := some dx, data := .fields #[.ref t1, .none, .none, .none, .bool false, .none] }
  dbig : h.objs.size ≤ dx
  dne : dx ≠ x
  ns : h2.Ns1 dx (fun y => if y = "at" then some u else if y = "why" then some v else none)
structure ErrMade (h h2 : Heap) (e C d : Addr) (v u : Value) : Prop where
  keep : ∀ b o, h.get? b = some o → h2.get? b = some o
  new : h.objs.size ≤ e
  obj : ∃ oe vs, h2.get? e = some oe ∧ oe.cls = .ref C ∧ oe.dict = some d ∧ oe.data = .fields vs ∧ vs[1]? = some .none
  dbig : h.objs.size ≤ d
  dne : d ≠ e
  ns : h2.Ns1 d (fun y => if y = "at" then some u else if y = "why" then some v else none)
section
variable {prog : Program} {w : World} {A : Around} {E : Value → Shared → Prop} {R : Result → Shared → Prop} {s : Shared} {K : Frag} {mg : Str → Option Value} {C fI : Addr}
theorem err_init (T : Err K mg C fI) {x t0 : Addr} {v u : Value} (X : K.In s.heap) (hlim : s.heap.NoLimit) (hx : s.heap.get? x = some (excO C t0)) (hxK : ∀ b o, K.lookup b = some o → b ≠ x) (hroom : A.depth < recursionLimit)
    (hq : ∀ h2 tk dx, InitLeft s.heap h2 x C dx t0 v u → R (.ok (.ret .none)) { s with heap := h2, toks := tk }) :
    codeAny (model prog w) A (.call (.ref fI) ⟨[.ref x, v, u], []⟩) R s := by
  obtain ⟨oc, od, doc, pm, an, cdv, ct, osl, p1, p2, p3, q1, q2, q3, q4, q5, q6, q7, q8, sc, ho, hcd, hk, hnames, hge, hco⟩ := T.fn
  obtain ⟨nm', q, N, bs, bm, sn, sub, ab, col, dd, k0, k1, k2, k3, k5, hC, hbm⟩ := T.cls
  have hcl : clsIn K C = some { name := nm', bases := bs, mro := .ref C :: bm, ns := N, qualname := q, hasDict := true, slotNames := sn, subclasses := sub, abstract := ab, collection := col, hasDel := false } := by unfold clsIn; rw [hC] <;> rfl
  have l1 : sc.names.lookup ("self" : Str) = some .local := by rw [hnames]; decide +kernel
  have l2 : sc.names.lookup ("why" : Str) = some .local := by rw [hnames]; decide +kernel
  have l3 : sc.names.lookup ("at" : Str) = some .local := by rw [hnames]; decide +kernel
  refine Att.call_fn (binds := [("self", .ref x), ("why", v), ("at", u)]) X hlim ho hcd hroom (BindsTo.of_eq (by first | rfl | with_unfolding_all rfl)) (by rw [List.all_cons, List.all_cons, List.all_cons, l1, l2, l3]; rfl) (fun s₁ IC => ?_) hco hge hk
  obtain ⟨h₁, tk₁, rfl⟩ := IC.toInCall.same
  have k : ∀ b o, s.heap.get? b = some o → h₁.get? b = some o := IC.toInCall.keep
  have hn := IC.toInCall.ns
  have X₁ : K.In h₁ := X.keeps k
  have hx₁ := k _ _ hx
  have b1 : (bindL (envOfC "BadPlan.__init__" sc s.heap.objs.size fI cdv).kindOf [("self", .ref x), ("why", v), ("at", u)] fun _ => none) ("self" : Str) = some (.ref x) :=
    L2.bindL_get (P := ["self", "why", "at"]) (vs := [.ref x, v, u]) (i := 0) (by decide +kernel) rfl rfl l1
  have b2 : (bindL (envOfC "BadPlan.__init__" sc s.heap.objs.size fI cdv).kindOf [("self", .ref x), ("why", v), ("at", u)] fun _ => none) ("why" : Str) = some v :=
    L2.bindL_get (P := ["self", "why", "at"]) (vs := [.ref x, v, u]) (i := 1) (by decide +kernel) rfl rfl l2
  have b3 : (bindL (envOfC "BadPlan.__init__" sc s.heap.objs.size fI cdv).kindOf [("self", .ref x), ("why", v), ("at", u)] fun _ => none) ("at" : Str) = some u :=
    L2.bindL_get (P := ["self", "why", "at"]) (vs := [.ref x, v, u]) (i := 2) (by decide +kernel) rfl rfl l3
  show wpAny _ _ (execs _ _) _ _ _
  refine wpAny_execs_cons (plainObj_wpAny_Assign_Attribute ?_)
  refine read_local (v := v) hn b2 (read_local (v := .ref x) hn b1 ?_ hk l1) hk l2
  refine set_plain X₁ (ox := excO C t0) (od := none) ⟨hx₁, rfl, rfl, trivial⟩ T.sa ?_
  refine setattr_first X₁ hx₁ hcl (.own C hbm) rfl T.noF (fun h₃ tk₃ dx k₃ dn dne hx₃ hn₃ => ?_)
  have z : s.heap.objs.size < h₁.objs.size := hn.lt
  have nx : x < s.heap.objs.size := Heap.lt_size hx
  have hn₄ := hn.at fun o q => k₃ _ _ (Nat.ne_of_gt nx) q
  have X₃ : K.In h₃ := fun b o e => k₃ b o (hxK b o e) (k b o (X b o e))
  show wpAny _ _ (execs _ _) _ _ _
  refine wpAny_execs_cons (plainObj_wpAny_Assign_Attribute ?_)
  refine read_local (v := u) hn₄ b3 (read_local (v := .ref x) hn₄ b1 ?_ hk l1) hk l3
  have hw₄ : Within (fun y => if y = ("why" : Str) then some v else none) [("why" : Str)] := fun y hy => by
    by_cases e : y = ("why" : Str)
    · rw [e]; exact List.mem_cons_self
    · exact absurd (if_neg e) hy
  obtain ⟨oD, eD, pD, gD, dD, _⟩ := hn₃.count hw₄
  refine set_plain X₃ (ox := { cls := .ref C, dict := some dx, data := .fields #[.ref t0, .none, .none, .none, .bool false, .none] }) (od := some oD) ⟨hx₃, rfl, rfl, gD⟩ T.sa ?_
  refine setattr_next X₃ hx₃ hn₃ hw₄ (by decide) hcl (.own C hbm) rfl T.noG (fun h₅ tk₅ k₅ hn₅ => ?_)
  show wpAny _ _ (execs _ _) _ _ _
  exact wpAny_execs_nil (hq h₅ tk₅ dx ⟨fun b o hb e => k₅ b o (fun eb => by
    have e2 := Heap.lt_size e
    have e3 := Nat.lt_of_lt_of_le z dn
    rw [eb] at e2
    exact absurd e2 (Nat.not_lt.mpr (Nat.le_of_lt e3))) (k₃ b o hb (k b o e)), k₅ _ _ (Ne.symm dne) hx₃, Nat.le_of_lt (Nat.lt_of_lt_of_le z dn), dne, hn₅⟩)
theorem err_made (T : Err K mg C fI) {v u : Value} (X : K.In s.heap) (hlim : s.heap.NoLimit) (hroom : A.depth + 1 < recursionLimit)
    (hq : ∀ h2 tk e d, ErrMade s.heap h2 e C d v u → R (.ok (.ret (.ref e))) { s with heap := h2, toks := tk }) :
    codeAny (model prog w) A (.call (.ref C) ⟨[v, u], []⟩) R s := by
  obtain ⟨nm', q, N, bs, bm, sn, sub, ab, col, dd, k0, k1, k2, k3, k5, hC, hbm⟩ := T.cls
  obtain ⟨hp, g, dr, tk, os⟩ := s
  have k : ∀ b o, hp.get? b = some o → ((hp.push (kdv_tup [v, u])).push (excO C hp.objs.size)).get? b = some o := fun b o e => Heap.get?_push_of_some _ (Heap.get?_push_of_some _ e)
  have hget : ((hp.push (kdv_tup [v, u])).push (excO C hp.objs.size)).get? (hp.objs.size + 1) = some (excO C hp.objs.size) := by heap_get
  refine call_own F.excBase_Exception (fun X => hbm.has X) (X _ _ hC) (looks_findIn X T.ini) (fun self => bind_fn X self T.tyI) (two_ok v u) ?_
  refine err_init (s := ⟨(hp.push (kdv_tup [v, u])).push (excO C hp.objs.size), g, dr, tk, os⟩) T (X.keeps k) (hlim.keeps k) hget (fun b o e => Nat.ne_of_lt (Nat.lt_succ_of_lt (Heap.lt_size (X b o e)))) ?_ fun h2 tk2 dx ⟨k', hx, dn, dne, hns⟩ => ?_
  · show A.depth + 1 < recursionLimit
    exact hroom
  · have old : ∀ b o, hp.get? b = some o → h2.get? b = some o := fun b o e => k' b o (Nat.ne_of_lt (Nat.lt_succ_of_lt (Heap.lt_size e))) (k b o e)
    have z : hp.objs.size + 1 + 1 ≤ dx := by
      first
        | (simpa only [Heap.size_push] using dn)
        | exact dn
        | (have q := dn; rw [Heap.size_push, Heap.size_push] at q; exact q)
    exact ⟨rfl, hq h2 tk2 (hp.objs.size + 1) dx ⟨old, Nat.le_succ _, ⟨_, _, hx, rfl, rfl, rfl, rfl⟩, Nat.le_trans (Nat.le_trans (Nat.le_succ _) (Nat.le_succ _)) z, dne, hns⟩⟩
end
end ErBadPlan
end PySem
namespace Tw
open PySem L2
theorem relO_BadPlan {v u : V} {v' u' : Value} (r : RelV v v') (r2 : RelV u u') (f : Str) : RelO (List.lookup f [(("why" : Str), v), (("at" : Str), u)]) (if f = "at" then some u' else if f = "why" then some v' else none) := by
  have nFG : ("why" : Str) ≠ "at" := by decide +kernel
  by_cases hw : f = "why"
  · subst hw
    rw [if_neg nFG, if_pos rfl]
    have q : List.lookup ("why" : Str) [(("why" : Str), v), (("at" : Str), u)] = some v := by simp [List.lookup]
    rw [q]
    exact r
  · have qw : (f == ("why" : Str)) = false := by simpa using hw
    by_cases hg : f = "at"
    · subst hg
      rw [if_pos rfl]
      have q : List.lookup ("at" : Str) [(("why" : Str), v), (("at" : Str), u)] = some u := by simp [List.lookup, qw]
      rw [q]
      exact r2
    · rw [if_neg hg, if_neg hw]
      have qg : (f == ("at" : Str)) = false := by simpa using hg
      have q2 : List.lookup f [(("why" : Str), v), (("at" : Str), u)] = none := by simp [List.lookup, qw, qg]
      rw [q2]
      trivial
section
variable {X : Cx} {C fI : Addr}
def tMkBadPlan (C : Addr) (ta : TA) : L2.St → Hp → XK → Prop := fun σ H Q => ta σ H fun vs H1 => ∃ v u, vs = [v, u] ∧ ∀ d, H1 d = none → Q (.ref C) (some d) (upd H1 d (.xd [(("why" : Str), v), (("at" : Str), u)]))
theorem pmk_BadPlan {a b : Expr} {ta : TA} {p pos : Pos} {k : Nat} (T : PySem.ErBadPlan.Err X.K X.mg C fI) (hr : Room k X.A) (ha : PA X [a, b] ta) (hg : Gl X "BadPlan" := by rfl)
    (he : starEach [a, b] X.env = (false, eval a X.env) :: starEach [b] X.env := by rfl) (hpl : (backTo pos (starEach [b] X.env)).any (·.1) = false := by rfl) :
    PMk X (.Call (.Name "BadPlan" p) [a, b] [] pos) (tMkBadPlan C ta) := by
  intro pins s σ H Q I h
  refine wpAny_Call_Name_kw (ld_glob I hg T.gC ?_)
  refine PySem.W.callWith_K (h₀ := X.base) I.ok.mod.kin T.kC (thn (ha.run pos pins s σ H _ I h) fun us s1 hh => ?_) he hpl
  obtain ⟨vs, H1, I1, r1, v, u, ev, q1⟩ := hh
  subst ev
  refine ⟨I1.kIn, ?_⟩
  cases r1 with
  | cons rv rn =>
    rename_i v' us'
    cases rn with
    | cons ru rn =>
    rename_i u' us'
    cases rn
    show wpAny _ _ (call (.ref C) [v', u']) _ _ _
    have hlim := I1.nolimit
    obtain ⟨hp, g, dr, tk, os⟩ := s1
    refine wpAny_call (PySem.ErBadPlan.err_made T I1.kIn hlim (by have := hr.dp; omega) fun h' tk' e d M => ?_)
    show MkP X pins σ Q (.ref e) ⟨h', g, dr, tk', os⟩
    obtain ⟨oe, fv, hoe, hc, hd, hdat, h1⟩ := M.obj
    have hns := M.ns
    obtain ⟨G', g1, g2⟩ := restrict h' fun b => decide (b ≠ e)
    have gk : ∀ b, b ≠ e → G'.get? b = h'.get? b := fun b hb => g1 b (decide_eq_true hb)
    have ge : G'.get? e = none := g2 e (by simp)
    have old : ∀ b o, hp.get? b = some o → G'.get? b = some o := fun b o q => (gk b (Nat.ne_of_lt (Nat.lt_of_lt_of_le (Heap.lt_size q) M.new))).trans (M.keep b o q)
    have ob : ObjOk X.prog X.w (upd H1 d (.xd [(("why" : Str), v), (("at" : Str), u)])) G' d (.xd [(("why" : Str), v), (("at" : Str), u)]) :=
      ⟨_, hns.at (fun o q => (gk d M.dne).trans q), fun f => relO_BadPlan rv ru f⟩
    have J : Inv X pins σ (upd H1 d (.xd [(("why" : Str), v), (("at" : Str), u)])) ⟨G', g, dr, tk', os⟩ := I1.laid (t' := tk') old M.dbig ob
    refine ⟨e, oe, fv, ⟨G', g, dr, tk', os⟩, _, .ref C, some d, rfl, J, fun b o q => ?_, ge, hoe, ⟨hc, hd⟩, hdat, h1, ?_, rfl, I1.bare, raises_own T.exC T.tyC, q1 d (I1.hok.fresh M.dbig)⟩
    · by_cases hb : b = e
      · have q' : G'.get? b = some o := q
        rw [hb, ge] at q'; cases q'
      · exact (gk b hb).symm.trans q
    · rw [upd_ne (Ne.symm M.dne)]
      exact I1.hok.fresh M.new
def tRaiseBadPlan (C : Addr) (W : WX) (ta : TA) : TS := fun _ σ H => tMkBadPlan C ta σ H fun cls d H' => W cls d σ H'
theorem ps_raiseBadPlan {a b : Expr} {ta : TA} {W : WX} {p pos pos2 : Pos} {k : Nat} (hc : X.calm = true) (T : PySem.ErBadPlan.Err X.K X.mg C fI) (hr : Room k X.A) (tk : Takes X W) (ha : PA X [a, b] ta) (hg : Gl X "BadPlan" := by rfl)
    (he : starEach [a, b] X.env = (false, eval a X.env) :: starEach [b] X.env := by rfl) (hpl : (backTo pos (starEach [b] X.env)).any (·.1) = false := by rfl) :
    PS X (.Raise (some (.Call (.Name "BadPlan" p) [a, b] [] pos)) none pos2) (tRaiseBadPlan C W ta) := ps_raise hc tk (pmk_BadPlan T hr ha hg he hpl)
def tByBadPlan_why (C : Addr) (a : Addr) (cls : Value) (d : Option Addr) (te : TE) : TE := fun σ H Q => te σ H fun x H1 => x = .ref a ∧ cls = .ref C ∧ ∃ (dd : Addr) (v u : V), d = some dd ∧ H1 dd = some (.xd [(("why" : Str), v), (("at" : Str), u)]) ∧ Q v H1
theorem pe_byBadPlan_why {a : Addr} {oe : Obj} {cls : Value} {d : Option Addr} {pn : List (Addr × Obj)} {e : Expr} {te : TE} {pos : Pos} (T : PySem.ErBadPlan.Err X.K X.mg C fI) (hz : Zc cls d oe) (hf : ∃ vs, oe.data = .fields vs) (he : PE (X.suite a ((a, oe) :: pn)) e te)
    (hb : attributeBase e "why" X.env (eval e X.env) = eval e X.env := by rfl) :
    PE (X.suite a ((a, oe) :: pn)) (.Attribute e "why" pos) (tByBadPlan_why C a cls d te) := by
  refine ⟨fun pins s σ H Q I h => ?_⟩
  refine attr_of hb (thn (he.run pins s σ H _ I h) fun u s1 hh => ?_)
  obtain ⟨x, H1, I1, rx, ex, ec, dd, v, u0, ed, ea, q⟩ := hh
  subst ex
  obtain rfl : u = Value.ref a := rx
  subst ec
  subst ed
  obtain ⟨ha, _⟩ := I1.pin (a, oe) (List.mem_append_left _ List.mem_cons_self)
  obtain ⟨vs, hd⟩ := hf
  have hx : ObjOk X.prog X.w H1 s1.heap dd (.xd [(("why" : Str), v), (("at" : Str), u0)]) := I1.hok dd _ ea
  obtain ⟨mA, hns, hr⟩ := hx
  obtain ⟨od, ho, hl⟩ := lookIn_ns hns
  have l : List.lookup ("why" : Str) [(("why" : Str), v), (("at" : Str), u0)] = some v := by simp [List.lookup]
  obtain ⟨u, hu, ru⟩ := RelO.some_of (v := v) (o := mA "why") (by rw [← l]; exact hr "why")
  have J : PySem.W.InstAt s1.heap a oe C (some od) := ⟨ha, hz.1, by unfold PySem.W.notCls; rw [hd] <;> rfl, by rw [hz.2]; exact ho⟩
  exact HandSPX.exc_get I1.kIn J T.ga T.gg T.exC (PySem.W.findObj_own T.hdC T.noF rfl (by rw [hl, hu])) (handed_of ru) ⟨v, H1, I1.tok _, ru, q⟩
def tByBadPlan_at (C : Addr) (a : Addr) (cls : Value) (d : Option Addr) (te : TE) : TE := fun σ H Q => te σ H fun x H1 => x = .ref a ∧ cls = .ref C ∧ ∃ (dd : Addr) (v u : V), d = some dd ∧ H1 dd = some (.xd [(("why" : Str), v), (("at" : Str), u)]) ∧ Q u H1
theorem pe_byBadPlan_at {a : Addr} {oe : Obj} {cls : Value} {d : Option Addr} {pn : List (Addr × Obj)} {e : Expr} {te : TE} {pos : Pos} (T : PySem.ErBadPlan.Err X.K X.mg C fI) (hz : Zc cls d oe) (hf : ∃ vs, oe.data = .fields vs) (he : PE (X.suite a ((a, oe) :: pn)) e te)
    (hb : attributeBase e "at" X.env (eval e X.env) = eval e X.env := by rfl) :
    PE (X.suite a ((a, oe) :: pn)) (.Attribute e "at" pos) (tByBadPlan_at C a cls d te) := by
  refine ⟨fun pins s σ H Q I h => ?_⟩
  refine attr_of hb (thn (he.run pins s σ H _ I h) fun u s1 hh => ?_)
  obtain ⟨x, H1, I1, rx, ex, ec, dd, v, u0, ed, ea, q⟩ := hh
  subst ex
  obtain rfl : u = Value.ref a := rx
  subst ec
  subst ed
  obtain ⟨ha, _⟩ := I1.pin (a, oe) (List.mem_append_left _ List.mem_cons_self)
  obtain ⟨vs, hd⟩ := hf
  have hx : ObjOk X.prog X.w H1 s1.heap dd (.xd [(("why" : Str), v), (("at" : Str), u0)]) := I1.hok dd _ ea
  obtain ⟨mA, hns, hr⟩ := hx
  obtain ⟨od, ho, hl⟩ := lookIn_ns hns
  have l : List.lookup ("at" : Str) [(("why" : Str), v), (("at" : Str), u0)] = some u0 := by
    have qw : (("at" : Str) == ("why" : Str)) = false := by decide +kernel
    simp [List.lookup, qw]
  obtain ⟨u, hu, ru⟩ := RelO.some_of (v := u0) (o := mA "at") (by rw [← l]; exact hr "at")
  have J : PySem.W.InstAt s1.heap a oe C (some od) := ⟨ha, hz.1, by unfold PySem.W.notCls; rw [hd] <;> rfl, by rw [hz.2]; exact ho⟩
  exact HandSPX.exc_get I1.kIn J T.ga T.gg T.exC (PySem.W.findObj_own T.hdC T.noG rfl (by rw [hl, hu])) (handed_of ru) ⟨u0, H1, I1.tok _, ru, q⟩
end
end Tw

set_option Elab.async false
set_option linter.all false
set_option maxRecDepth 100000
set_option maxHeartbeats 4000000
/-! enumerate over a list or a tuple; a walk over either; a maker with two keyword-only parameters whose defaults are empty tuples -/
namespace PySem
namespace TwE
open Sem (wp)
theorem fresh_enum {v : Value} {o : Obj} {Hc : Heap → Prop} (B : Begins v o Hc) :
    Meets (Builtin.«enumerate.__new__» ⟨[.type "enumerate", v], []⟩) (fun _ R s => Hc s.heap ∧ R (.ok (.ret (.ref (s.heap.push o).objs.size)))
      { s with heap := (s.heap.push o).push { cls := .type "enumerate", data := .fields #[.none, .bool false, .ref s.heap.objs.size, rawInt 0, .none, .none] } }) :=
  .of_wp fun pr wd Ar Rr st hyp => by
    obtain ⟨hp, gg, dr, tc, os⟩ := st
    obtain ⟨hb, hr⟩ := hyp
    have sub0 := sub_enumerate
    have start : ∀ {A2 : Around} {E2 Q2 : Value → Shared → Prop}, Q2 (.ref hp.objs.size) ⟨hp.push o, gg, dr, tc, os⟩ → wpAny (model pr wd) A2 (pyIter v) Q2 E2 ⟨hp, gg, dr, tc, os⟩ := fun q => B.iter pr wd _ _ ⟨hp, gg, dr, tc, os⟩ _ hb q
    wp_walk using start
    refine wpAny_stack_any fun stk => wpAny_pure ?_
    split
    · rename_i cc _ _ _ _ _
      rcases (cc == Value.type "enumerate") with _ | _
      all_goals wp_walk using start
      all_goals exact ⟨_, rfl, hr⟩
    · wp_walk using start
      exact ⟨_, rfl, hr⟩
section
variable {prog : Program} {w : World} {A : Around} {E : Value → Shared → Prop} {s : Shared}
theorem enum_call {v : Value} {o : Obj} {Hc : Heap → Prop} {Q : Value → Shared → Prop} (B : Begins v o Hc) (h1 : Hc s.heap)
    (hq : ∀ h2, IsEnum h2 (s.heap.objs.size + 1) s.heap.objs.size 0 .none → h2.get? s.heap.objs.size = some o → h2.objs.size = s.heap.objs.size + 2 → (∀ b u, s.heap.get? b = some u → h2.get? b = some u) → Q (.ref (s.heap.objs.size + 1)) { s with heap := h2 }) :
    wpAny (model prog w) A (call (.type "enumerate") [v]) Q E s := by
  refine callType_new F.called_enumerate (by decide) (F.typeCall_enumerate_1 _) (F.newCall_enumerate_1 _) (fun x => F.args_object_init_2 x _) F.entry_enumerate_new (fresh_enum B) ⟨h1, ?_⟩
  have sz : (s.heap.push o).objs.size = s.heap.objs.size + 1 := Heap.size_push ..
  have en := Heap.get?_push_size (s.heap.push o) (o := { cls := .type "enumerate", data := .fields #[.none, .bool false, .ref s.heap.objs.size, rawInt 0, .none, .none] }) rfl
  rw [sz] at en
  show _ ∧ _
  rw [sz]
  exact ⟨⟨_, en, rfl⟩, hq _ en (Heap.get?_push_of_some _ (Heap.get?_push_size _ B.free)) (by rw [Heap.size_push, sz]) fun b u e => Heap.get?_push_of_some _ (Heap.get?_push_of_some _ e)⟩
end
end TwE
end PySem
namespace L2
open PySem PySem.Spec PyProof.Rows
/-- the tuple at a, each item in a new pair -/
def Itet (K : PySem.W.Frag) (a : Addr) : It :=
  ⟨fun i H => ∃ (xs : List V) (x : V), SqT K H a xs ∧ xs[i]? = some x, fun i H v H2 => ∃ T x, v = .ref T ∧ H T = none ∧ H2 = upd H T (.tup [.int (i : Nat), x]) ∧ ∀ xs, SqT K H a xs → xs[i]? = some x, fun i H => ∃ xs : List V, SqT K H a xs ∧ xs.length = i⟩
theorem tw_apart {h : Heap} {a it : Addr} {i : Nat} {its : Array Value} (p : h.IsTuple a its) (q : h.IsTupleIter it a i) : a ≠ it := by
  intro e
  obtain ⟨o, ho, hc, n, hd⟩ := p
  obtain ⟨o2, ho2, hc2, hd2⟩ := q
  rw [e, ho2] at ho
  cases ho
  rw [hd] at hd2
  cases hd2
theorem tw_apart2 {h : Heap} {a e it : Addr} {c : Int} {old : Value} {its : Array Value} (p : h.IsTuple a its) (q : IsEnum h e it c old) : e ≠ a := by
  intro z
  obtain ⟨o, ho, hc, n, hd⟩ := p
  have ho2 := q
  unfold IsEnum at ho2
  rw [z, ho] at ho2
  cases ho2
  cases hd
theorem turn_enumT {P : Program} {w : World} {K : PySem.W.Frag} {elts : List Expr} {kk : Nat} {tpos : Pos} (a e it : Addr) :
    Turn P w K (.Tuple elts kk tpos) (Itet K a) [e, it] e (fun i h => (∃ old, IsEnum h e it ((i : Nat) : Int) old) ∧ h.IsTupleIter it a i ∧ e ≠ it) where
  mem := by simp
  obj := fun i h st b hb => by
    obtain ⟨⟨old, he⟩, ⟨o, ho, hc, hd⟩, _⟩ := st
    rcases (show b = e ∨ b = it by simpa using hb) with rfl | rfl
    · exact ⟨_, he, fun v q => nomatch q⟩
    · exact ⟨o, ho, fun v q => by rw [hd] at q; cases q⟩
  keep := fun i h h2 st k => ⟨st.1.elim fun old he => ⟨old, k e (by simp) _ he⟩, st.2.1.at fun o q => k it (by simp) o q, st.2.2⟩
  item := by
    intro X hP hw hK hc i pins s σ H E I hf st hg
    subst hP hw hK
    obtain ⟨⟨old, he⟩, hit, hne⟩ := st
    obtain ⟨xs, x, hq, hx⟩ := hg
    obtain ⟨its, rv, p, hz⟩ := I.tuple hq
    have pt : s.heap.IsTuple a its.toArray := p
    obtain ⟨u, hu, ru⟩ := rv.get hx
    have hel : e < s.heap.objs.size := Heap.lt_size he
    have hil : it < s.heap.objs.size := by
      obtain ⟨_, q, _⟩ := hit
      exact Heap.lt_size q
    have hai := tw_apart pt hit
    have hea := tw_apart2 pt he
    have D := Draws.tuple (prog := X.prog) (w := X.w) (A := X.A.in1) (I.ok.hd hc) it a hai its.toArray
    have hlt : i < its.toArray.size := by
      have := (List.getElem?_eq_some_iff.mp hu).1
      simpa using this
    refine wpAny_pyNext_enum_itemD D he ⟨hit, pt⟩ hlt hne (by simp [hne, hea]) fun y h2 tk py ho st2 hT hsz hk => ?_
    obtain rfl : u = y := by
      rw [List.getElem?_toArray, hu] at py
      injection py
    refine ⟨_, rfl, wpAny_letOwnedTupleGo_enum (s := { s with heap := h2, toks := tk + 1 }) ho fun h3 he3 sb => ?_⟩
    have hT3 : h3.get? s.heap.objs.size = some { cls := .type "tuple", data := .seq #[.int i tk, u] } := (sb.2 _ (Nat.ne_of_gt hel)).trans hT
    have new : ObjOk X.prog X.w (upd H s.heap.objs.size (.tup [.int (i : Nat), x])) h3 s.heap.objs.size (.tup [.int (i : Nat), x]) :=
      ⟨by show 2 ≤ sizeLine; decide, [.int i tk, u], .cons ⟨_, rfl⟩ (.cons ru .nil), ⟨_, hT3, rfl, _, rfl⟩⟩
    have I3 : Inv X pins σ (upd H s.heap.objs.size (.tup [.int (i : Nat), x])) { s with heap := h3, toks := tk + 1 } :=
      I.turnedNew (ch := [e, it]) (fun b ob hb q => by
        have n1 : b ≠ e := fun z => hb (by simp [z])
        have n2 : b ≠ it := fun z => hb (by simp [z])
        exact (sb.2 b n1).trans (hk b ob n1 n2 q)) hf (Nat.le_refl _) new
    have e1 : ((i + 1 : Nat) : Int) = (i : Int) + 1 := by omega
    refine ⟨.ref s.heap.objs.size, _, I3, rfl, ⟨_, x, rfl, I.hok.fresh (Nat.le_refl _), rfl, fun ys hy => by rw [I.tuple_inj hy hq]; exact hx⟩, ⟨⟨u, by rw [e1]; exact he3⟩, st2.1.at fun o q => (sb.2 it (Ne.symm hne)).trans q, hne⟩, fun b hb => ?_⟩
    have hb2 : b < s.heap.objs.size := by
      rcases (show b = e ∨ b = it by simpa using hb) with rfl | rfl
      · exact hel
      · exact hil
    rw [upd_ne (Nat.ne_of_lt hb2)]
    exact (hf b hb).1
  done := by
    intro X hP hw hK hc i pins s σ H E I hf st hg
    subst hP hw hK
    obtain ⟨⟨old, he⟩, hit, hne⟩ := st
    obtain ⟨xs, hq, hx⟩ := hg
    obtain ⟨its, rv, p, hz⟩ := I.tuple hq
    have pt : s.heap.IsTuple a its.toArray := p
    obtain ⟨f0, f1, f2, f3, f4, f5⟩ := hf it (by simp)
    have D := Draws.tuple (prog := X.prog) (w := X.w) (A := X.A.in1) (I.ok.hd hc) it a (tw_apart pt hit) its.toArray
    have hl : its.toArray.size = i := by
      rw [List.size_toArray, ← rv.length, hx]
    exact wpAny_pyNext_enum_endD D he (by rw [hl]; exact ⟨hit, pt⟩) fun h2 eb => ⟨rfl, I.turned (t' := s.toks) (fun b o hb q => eb b o hb q) f0 f1 f3 f4 f5⟩
  self := fun A i s Q E st h => st.1.elim fun _ he => wpAny_pyIter_enum he h
/-- what enumerate gives of the items xs -/
structure EFits (J : It) (xs : List V) (H : Hp) : Prop where
  go : ∀ i, i < xs.length → J.go i H
  stop : J.stop xs.length H
  yld : ∀ i x H', J.yld i H x H' → ∃ T v, x = .ref T ∧ H T = none ∧ H' = upd H T (.tup [.int (i : Nat), v]) ∧ xs[i]? = some v
/-- a list or a tuple -/
def SqA (K : PySem.W.Frag) (H : Hp) (a : Addr) (xs : List V) : Prop := SqL K H a xs ∨ SqT K H a xs
theorem same_l {K : PySem.W.Frag} {H H' : Hp} {a : Addr} {xs : List V} (h : SqL K H a xs) (e : H' a = H a) : SqL K H' a xs := by
  rcases h with h | h
  · exact .inl (by unfold Rd at h ⊢; rw [e]; exact h)
  · exact .inr h
theorem same_t {K : PySem.W.Frag} {H H' : Hp} {a : Addr} {xs : List V} (h : SqT K H a xs) (e : H' a = H a) : SqT K H' a xs := by
  rcases h with h | h
  · exact .inl (by unfold Rd at h ⊢; rw [e]; exact h)
  · exact .inr h
theorem efits_l {K : PySem.W.Frag} {H : Hp} {a : Addr} {xs : List V} (h : SqL K H a xs) : EFits (Ite K a) xs H :=
  ⟨fun i hi => ⟨xs, xs[i], h, List.getElem?_eq_getElem hi⟩, ⟨xs, h, Nat.le_refl _⟩, fun i x H' ⟨T, v, e1, e2, e3, e4⟩ => ⟨T, v, e1, e2, e3, e4 xs h⟩⟩
theorem efits_t {K : PySem.W.Frag} {H : Hp} {a : Addr} {xs : List V} (h : SqT K H a xs) : EFits (Itet K a) xs H :=
  ⟨fun i hi => ⟨xs, xs[i], h, List.getElem?_eq_getElem hi⟩, ⟨xs, h, rfl⟩, fun i x H' ⟨T, v, e1, e2, e3, e4⟩ => ⟨T, v, e1, e2, e3, e4 xs h⟩⟩
def iEnumG (K : PySem.W.Frag) (ta : TA) : TI := fun σ H R => ta σ H fun vs H1 => ∃ a xs, vs = [.ref a] ∧ SqA K H1 a xs ∧ ∀ J, (∀ H', H' a = H1 a → EFits J xs H') → R J H1
theorem pi_enumG {X : Cx} {K : PySem.W.Frag} {e : Expr} {ta : TA} {p pos tpos : Pos} {elts : List Expr} {kk : Nat} (hK : X.K = K) (hg : Gl X "enumerate") (hm : X.mg "enumerate" = none) (ha : PA X [e] ta) (hs : starEach [e] X.env = [(false, eval e X.env)] := by rfl) :
    PI X (.Tuple elts kk tpos) (.Call (.Name "enumerate" p) [e] [] pos) (iEnumG K ta) := by
  subst hK
  refine ⟨fun pins s σ H R I h => ?_⟩
  refine Call_ (ld_blt I hg hm boot_enumerate (PyProof.Rows.callWith_type1 (thn (ha.run pos pins s σ H _ I h) fun us s1 ⟨vs, H1, I1, r1, q1⟩ => ?_) hs rfl))
  obtain ⟨a, xs, rfl, hs2, q⟩ := q1
  cases r1 with
  | cons r rr =>
    cases rr
    cases r
    have fp : ∀ b ∈ [s1.heap.objs.size + 1, s1.heap.objs.size], FpOk X pins H1 b := fun b hb => by
      have hle : s1.heap.objs.size ≤ b := by
        rcases (show b = s1.heap.objs.size + 1 ∨ b = s1.heap.objs.size by simpa using hb) with rfl | rfl
        · exact Nat.le_add_right _ _
        · exact Nat.le_refl _
      exact I1.fpOk hle (I1.hok.fresh hle)
    rcases hs2 with hq | hq
    · replace q := q (Ite X.K a) fun H' e => efits_l (same_l hq e)
      obtain ⟨its, rv, p2, hz⟩ := I1.list hq
      refine call_enumerate_list p2.isList fun h2 he hit hsz hk => wpAny_pyIter_enum he ?_
      exact ⟨s1.heap.objs.size + 1, [s1.heap.objs.size + 1, s1.heap.objs.size], _, _, H1, rfl, I1.kept (t' := s1.toks) hk, turn_enum a (s1.heap.objs.size + 1) s1.heap.objs.size, ⟨⟨.none, he⟩, hit, Nat.succ_ne_self _⟩, fp, q⟩
    · replace q := q (Itet X.K a) fun H' e => efits_t (same_t hq e)
      obtain ⟨its, rv, p2, hz⟩ := I1.tuple hq
      have pt : s1.heap.IsTuple a its.toArray := p2
      refine TwE.enum_call (begins_tuple a its.toArray) pt fun h2 he hit hsz hk => wpAny_pyIter_enum he ?_
      exact ⟨s1.heap.objs.size + 1, [s1.heap.objs.size + 1, s1.heap.objs.size], _, _, H1, rfl, I1.kept (t' := s1.toks) hk, turn_enumT a (s1.heap.objs.size + 1) s1.heap.objs.size, ⟨⟨.none, he⟩, ⟨_, hit, rfl, rfl⟩, Nat.succ_ne_self _⟩, fp, q⟩
def iSeq (K : PySem.W.Frag) (tl : TE) : TI := fun σ H R => tl σ H fun x H1 => ∃ a xs, x = .ref a ∧ SqA K H1 a xs ∧ ∀ J, (∀ H', H' a = H1 a → Tw.Fits J xs H') → R J H1
theorem pi_seqG {X : Cx} {K : PySem.W.Frag} {tg : Expr} {l : Expr} {tl : TE} (hK : X.K = K) (hl : PE X l tl) : PI X tg l (iSeq K tl) := by
  subst hK
  refine ⟨fun pins s σ H R I h => ?_⟩
  refine thn (hl.run pins s σ H _ I h) fun v s1 ⟨x, H1, I1, r1, q1⟩ => ?_
  obtain ⟨a, xs, rfl, hs2, q⟩ := q1
  cases r1
  have fp : ∀ b ∈ [s1.heap.objs.size], FpOk X pins H1 b := fun b hb => by
    obtain rfl : b = s1.heap.objs.size := by simpa using hb
    exact I1.fpOk (Nat.le_refl _) (I1.hok.fresh (Nat.le_refl _))
  rcases hs2 with hq | hq
  · replace q := q (Itl X.K a) fun H' e => Tw.fits_l (same_l hq e)
    obtain ⟨its, rv, p, hz⟩ := I1.list hq
    refine wpAny_pyIter_list p.isList ?_
    exact ⟨s1.heap.objs.size, [s1.heap.objs.size], _, _, H1, rfl, I1.kept (t' := s1.toks) fun b o e => Heap.get?_push_of_some _ e, turn_list a _, ⟨_, Heap.get?_push_size _ rfl, rfl, rfl⟩, fp, q⟩
  · replace q := q (Itt X.K a) fun H' e => Tw.fits_t (same_t hq e)
    obtain ⟨its, rv, p, hz⟩ := I1.tuple hq
    refine wpAny_pyIter_tuple (show s1.heap.IsTuple a its.toArray from p) ?_
    exact ⟨s1.heap.objs.size, [s1.heap.objs.size], _, _, H1, rfl, I1.kept (t' := s1.toks) fun b o e => Heap.get?_push_of_some _ e, turn_tuple a _, ⟨_, Heap.get?_push_size _ rfl, rfl, rfl⟩, fp, q⟩
end L2
namespace Tw
open PySem L2
section
variable {K : PySem.W.Frag} {σ : L2.St} {H : Hp} {D : Ends} {ta : TA} {te : TE} {a : Addr} {xs : List V}
theorem g_enumG {R : It → Hp → Prop} (q : ta σ H fun vs H1 => ∃ a xs, vs = [.ref a] ∧ SqA K H1 a xs ∧ ∀ J, (∀ H', H' a = H1 a → EFits J xs H') → R J H1) : iEnumG K ta σ H R := q
theorem g_seqG {R : It → Hp → Prop} (q : te σ H fun x H1 => ∃ a xs, x = .ref a ∧ SqA K H1 a xs ∧ ∀ J, (∀ H', H' a = H1 a → Fits J xs H') → R J H1) : iSeq K te σ H R := q
theorem for_enumA {J : It} {g : TG} {tb : TS} (Pv : Nat → L2.St → Hp → Prop) (h0 : Pv 0 σ H) (hl : ∀ i σ H, i ≤ xs.length → Pv i σ H → EFits J xs H)
    (hs : ∀ i v T σ H (D' : Ends), xs[i]? = some v → Pv i σ H → H T = none → (∀ σ H, Pv (i + 1) σ H → D'.nx σ H) → (∀ σ H, Pv (i + 1) σ H → D'.ct σ H) → (∀ σ H, D.nx σ H → D'.bk σ H) → D'.rt = D.rt → g (.ref T) σ (upd H T (.tup [.int (i : Nat), v])) fun σ2 H2 => tb D' σ2 H2)
    (hd : ∀ σ H, Pv xs.length σ H → D.nx σ H) :
    ∃ W : Nat → Nat → L2.St → Hp → Prop, (∃ m, W 0 m σ H) ∧ ∀ i m σ H, W i m σ H →
      (J.stop i H ∧ D.nx σ H) ∨ (J.go i H ∧ ∃ N : L2.St → Hp → Prop, (∀ σ' H', N σ' H' → ∃ m', m' < m ∧ W (i + 1) m' σ' H') ∧ ∀ x H', J.yld i H x H' → g x σ H' fun σ2 H2 => tb { D with nx := N, ct := N, bk := D.nx } σ2 H2) := by
  refine ⟨fun i m σ H => m = xs.length - i ∧ i ≤ xs.length ∧ Pv i σ H, ⟨xs.length, by simp, Nat.zero_le _, h0⟩, ?_⟩
  rintro i m σ H ⟨rfl, hi, p⟩
  have fi := hl i σ H hi p
  by_cases hlt : i < xs.length
  · refine .inr ⟨fi.go i hlt, Pv (i + 1), fun σ' H' q => ⟨xs.length - (i + 1), by omega, rfl, hlt, q⟩, fun x H' y => ?_⟩
    obtain ⟨T, v, rfl, hT, rfl, hv⟩ := fi.yld i x H' y
    exact hs i v T σ H { D with nx := Pv (i + 1), ct := Pv (i + 1), bk := D.nx } hv p hT (fun _ _ h => h) (fun _ _ h => h) (fun _ _ h => h) rfl
  · obtain rfl : i = xs.length := by omega
    exact .inl ⟨fi.stop, hd σ H p⟩
end
/-- a maker with two keyword-only parameters whose defaults are empty tuples -/
structure HereCD (K : PySem.W.Frag) (C : Addr) (qual : Str) (st : Stmt) (ps : List Str) (f : Addr) (fd : FuncData) : Prop where
  fn : Fun K "__init__" qual st f fd
  mkr : Mk K C f
  bd : ∃ d1 d2 : Addr, (∀ H, SqT K H d1 []) ∧ (∀ H, SqT K H d2 []) ∧ ∃ ds, Vals [.ref d1, .ref d2] ds ∧ Binds K fd ps ds
structure DefCD (P : Program) (w : World) (K : PySem.W.Frag) (mg : Str → Option Value) (base : Heap) (k : Nat) (C : Addr) (ps : List Str) (sp : Sp) : Prop where
  ex : ∃ (f : Addr) (fd : FuncData), FnOk P w K mg base CX0 k f fd ps sp ∧ Mk K C f ∧ ∃ d1 d2 : Addr, (∀ H, SqT K H d1 []) ∧ (∀ H, SqT K H d2 []) ∧ ∃ ds, Vals [.ref d1, .ref d2] ds ∧ Binds K fd ps ds
theorem HereCD.def {P : Program} {w : World} {K : PySem.W.Frag} {mg : Str → Option Value} {base : Heap} {k : Nat} {C : Addr} {qual : Str} {st : Stmt} {ps : List Str} {sp : Sp} {f : Addr} {fd : FuncData} (h : HereCD K C qual st ps f fd) (F : FnOk P w K mg base CX0 k f fd ps sp) : DefCD P w K mg base k C ps sp :=
  ⟨f, fd, F, h.mkr, h.bd⟩
def tNewD (K : PySem.W.Frag) (C : Addr) (sp : Sp) (t : TA) : TE := fun σ H Q => ∀ d1 d2 : Addr, (∀ H, SqT K H d1 []) → (∀ H, SqT K H d2 []) → t σ H fun vs H1 => ∀ x dx, H1 x = none → H1 dx = none → dx ≠ x →
  sp (.ref x :: (vs ++ [.ref d1, .ref d2])) (upd (upd H1 dx (.own x)) x (.ins C dx [])) (fun v H2 => v = .non ∧ Q (.ref x) H2) E0
theorem g_newD {K : PySem.W.Frag} {C : Addr} {sp : Sp} {t : TA} {σ : L2.St} {H : Hp} {Q : VK} (q : ∀ d1 d2 : Addr, (∀ H, SqT K H d1 []) → (∀ H, SqT K H d2 []) → t σ H fun vs H1 => ∀ x dx, H1 x = none → H1 dx = none → dx ≠ x →
  sp (.ref x :: (vs ++ [.ref d1, .ref d2])) (upd (upd H1 dx (.own x)) x (.ins C dx [])) (fun v H2 => v = .non ∧ Q (.ref x) H2) E0) : tNewD K C sp t σ H Q := q
theorem pe_newD {X : Cx} {K : PySem.W.Frag} {k j : Nat} {C : Addr} {x : Str} {p pos : Pos} {e : Expr} {es : List Expr} {ps : List Str} {sp : Sp} {t : TA} (hK : X.K = K)
    (D : DefCD X.prog X.w K X.mg X.base k C ps sp) (hr : Room j X.A) (hg : Gl X x) (hm : X.mg x = some (.ref C)) (ha : PA X (e :: es) t) (hk : k + 1 ≤ j := by decide) (hdb : (x == ("__debug__" : Str)) = false := by decide)
    (he : starEach (e :: es) X.env = (false, eval e X.env) :: starEach es X.env := by rfl) (hpl : (backTo pos (starEach es X.env)).any (·.1) = false := by rfl) : PE X (.Call (.Name x p) (e :: es) [] pos) (tNewD K C sp t) := by
  subst hK
  obtain ⟨f, fd, F, mk, d1, d2, e1, e2, ds, hv, hb⟩ := D.ex
  exact ⟨fun pins s σ H Q I h => (pe_make mk F (hr.mono hk) hg hm hb hv pass0 ha hdb he hpl).run pins s σ H Q I (h d1 d2 e1 e2)⟩
theorem kw_bd2 {K : PySem.W.Frag} {fd : FuncData} {D : Addr} {k1 k2 : Str} {ps : List Str} {n : Nat} {a1 a2 : Addr} {o1 o2 : Obj} {i1 i2 : Array Value} {n1 n2 : Nat} (hps : ps.length = n + 2) (h1 : PySem.W.nsIn K D k1 = some (some (.ref a1))) (h2 : PySem.W.nsIn K D k2 = some (some (.ref a2)))
    (l1 : K.lookup a1 = some o1) (c1 : o1.cls = .type "tuple") (g1 : o1.data = .seq i1 n1) (z1 : i1.size = 0) (l2 : K.lookup a2 = some o2) (c2 : o2.cls = .type "tuple") (g2 : o2.data = .seq i2 n2) (z2 : i2.size = 0)
    (h : ∀ us : List Value, us.length = n → ∀ u v : Value, KwChain D [(k1, u), (k2, v)] (bindArgs fd ⟨us, []⟩) (ps.zip (us ++ [u, v]))) :
    ∃ d1 d2 : Addr, (∀ H, SqT K H d1 []) ∧ (∀ H, SqT K H d2 []) ∧ ∃ ds, Vals [.ref d1, .ref d2] ds ∧ Binds K fd ps ds := by
  have nil : ∀ {i : Array Value}, i.size = 0 → Vals [] i.toList := fun {i} z => by
    have : i.toList = [] := List.length_eq_zero_iff.mp (by simpa using z)
    rw [this]
    exact .nil
  refine ⟨a1, a2, fun H => .inr ⟨o1, i1, n1, l1, c1, g1, by rw [z1]; exact Nat.zero_le _, nil z1⟩, fun H => .inr ⟨o2, i2, n2, l2, c2, g2, by rw [z2]; exact Nat.zero_le _, nil z2⟩, [.ref a1, .ref a2], .cons rfl (.cons rfl .nil), fun s us X hlen => BindsTo.of_looks fun M => KwChain.looks X (fun q hq => ?_) (h us ?_ (.ref a1) (.ref a2))⟩
  · rcases List.mem_cons.mp hq with rfl | hq
    · exact h1
    · obtain rfl := List.mem_singleton.mp hq
      exact h2
  · simp at hlen
    omega

def rTupG (K : PySem.W.Frag) : List V → Hp → VK → Prop := fun xs H Q => ∃ p ys, xs = [.ref p] ∧ ((SqL K H p ys ∧ ∀ l, H l = none → Q (.ref l) (upd H l (.tup ys))) ∨ (SqT K H p ys ∧ Q (.ref p) H))
theorem call_tupleG {X : Cx} {K : PySem.W.Frag} (h : X.K = K) : CallR X (.type "tuple") (rTupG K) := by subst h; exact call_tuple_of
section
variable {K : PySem.W.Frag} {σ : L2.St} {H : Hp} {Q : VK} {a : Addr} {xs : List V}
theorem g_tupL (h : SqL K H a xs) (q : ∀ l, H l = none → Q (.ref l) (upd H l (.tup xs))) : rTupG K [.ref a] H Q := ⟨a, xs, rfl, .inl ⟨h, q⟩⟩
theorem g_tupT (h : SqT K H a xs) (q : Q (.ref a) H) : rTupG K [.ref a] H Q := ⟨a, xs, rfl, .inr ⟨h, q⟩⟩
theorem g_dc {wi : TI} {g : TG} {tt : TT} {tk tv : TE} {vs : List Nat} (q : wi σ H fun J H1 => ∀ D, H1 D = none → ∃ W : Nat → Nat → Hp → Prop, (∃ m, W 0 m (upd H1 D (.dK []))) ∧ ∀ i m H, W i m H →
  (J.stop i H ∧ Q (.ref D) H) ∨ (J.go i H ∧ ∃ Nx : Hp → Prop, (∀ H', Nx H' → ∃ m', m' < m ∧ W (i + 1) m' H') ∧ ∀ x H', J.yld i H x H' → g x (wipe σ vs) H' fun σ2 H2 => wipe σ2 vs = wipe σ vs ∧ tt σ2 H2 fun b H3 =>
    if b = true then tk σ2 H3 fun y H4 => tv σ2 H4 fun z H5 => ∃ kvs k, y = kV k ∧ H5 D = some (.dK kvs) ∧ kvs.length < sizeLine ∧ Nx (upd H5 D (.dK (putK kvs k z))) else Nx H3)) : tDc wi g tt tk tv vs σ H Q := q
/-- a tuple, a list in the heap, a tuple of the written part: what isinstance sees -/
theorem tyx_t (h : SqT K H a xs) : TyX K H (.ref a) (.type "tuple") := by
  rcases h with h | ⟨o, its, n, h1, h2, _⟩
  · rcases h with h | ⟨o, h⟩
    · exact .base (.tup h)
    · exact .fTuple h
  · exact .kTuple h1 h2
end
end Tw

set_option Elab.async false
set_option linter.all false
set_option maxRecDepth 100000
set_option maxHeartbeats 4000000
/-! isinstance of a caught own error that has fields -/
namespace PySem.TwX
open PySem PySem.Spec PySem.Calls PyProof.Rows PySem.W
structure ExCls (K : Frag) (D : Addr) : Prop where
  ga : findIn K (.ref D) "__getattribute__" = some (some (.builtin "BaseException.__getattribute__"))
  gg : findIn K (.ref D) "__getattr__" = some none
  sb : subIn K (.ref D) (.type "BaseException") = some true
  hd : hasDictIn K D = true
  kc : findIn K (.ref D) "__class__" = some (some (.builtin "object.__class__"))
  gt : specialIn K (.builtin "object.__class__") "__get__" = some (some (.builtin "getset_descriptor.__get__"))
  tk : takesIn K (.builtin "object.__class__") = some true
  mo : mroIn K D (.type "object") = some true
section
variable {prog : Program} {w : World} {A : Around} {E : Value → Shared → Prop} {s : Shared} {K : Frag} {x D : Addr} {ox : Obj} {dx : Option Obj}
theorem obj_data {C : Addr} {nm : Str} {u g : Value} (hc : (clsIn K C).isSome = true) (hu : findIn K (.ref C) nm = some (some u)) (hg : specialIn K u "__get__" = some (some g)) (ht : takesIn K u = some true) : findObj K C dx nm = some (.bind g u) := by
  obtain ⟨cd, hcd⟩ := Option.isSome_iff_exists.mp hc
  unfold findObj
  rw [hcd, Option.bind_some, hu, Option.bind_some]
  cases dx <;> simp [hg, ht]
theorem class_asked {Q : Option Value → Shared → Prop} (C : ExCls K D) (XK : K.In s.heap) (J : InstAt s.heap x ox D dx) (hq : Q (some (.ref D)) { s with toks := s.toks + 1 }) : wpAny (model prog w) A (getAttr? (.ref x) "__class__") Q E s := by
  have hfo : findObj K D dx "__class__" = some (.bind (.builtin "getset_descriptor.__get__") (.builtin "object.__class__")) := obj_data (by obtain ⟨cd, h1, _⟩ := any_some C.hd; rw [h1]; rfl) C.kc C.gt C.tk
  obtain ⟨hp, gs, dr, tc, os⟩ := s
  have k0 := J.type (M := model prog w)
  have k1 := looks_findIn (M := model prog w) XK C.ga
  have k2 := looks_findIn (M := model prog w) XK C.gg
  have k3 := looks_find (M := model prog w) XK J hfo
  have isB : Looks (model prog w) hp (isInstance (.ref x) (.type "BaseException")) true := k0.andThen (looks_subIn XK C.sb)
  have b0 : (false && onTheHeap (Value.builtin "BaseException.__getattribute__")) = false := rfl
  have b2 : (Value.builtin "BaseException.__getattribute__" == Value.builtin "object.__getattribute__") = false := by decide +kernel
  have b1 : (onTheHeap (Value.ref D) && Value.builtin "BaseException.__getattribute__" == Value.builtin "object.__getattribute__") = false := by rw [b2]; rfl
  unfold getAttr? getAttrBy? getAttrBy
  refine wpAny_bind (wpAny_mkText (wpAny_bind (wpAny_attempt (wpAny_holding (wpAny_bind (k0.at (wpAny_bind (k1.at ?_))))))))
  show wpAny _ _ (if (onTheHeap (Value.ref D) && Value.builtin "BaseException.__getattribute__" == Value.builtin "object.__getattribute__") = true then (_ : Sem _) else _) _ _ _
  rw [b1, if_neg Bool.false_ne_true]
  unfold getAttrByItsOwn hookBefore
  refine wpAny_bind ?_
  have onH : onTheHeap (Value.ref D) = true := rfl
  rw [if_pos onH]
  refine k2.at (wpAny_bind (wpAny_attempt (wpAny_holding ?_)))
  unfold callGetattribute
  rw [b0, if_neg Bool.false_ne_true]
  unfold boundAndCalled
  rw [PySem.F.excAttr_ValueError.ga.bind (Value.ref x)]
  refine wpAny_bind (wpAny_pure ?_)
  show wpAny _ _ (call (.builtin "BaseException.__getattribute__") [Value.ref x, Value.str "__class__" tc]) _ _ _
  refine wpAny_call (codeAny_call_builtin PySem.F.excAttr_ValueError.ga.plain PySem.F.entry_bexc_ga (@check_slot (model prog w) _ _ ⟨hp, gs, dr, tc + 1, os⟩ "BaseException.__getattribute__" "BaseException" "__getattribute__" (.ref x) [.str "__class__" tc] [] _ (by decide +kernel) (by decide +kernel) isB (PySem.F.args_bexc_ga (.ref x) (.str "__class__" tc)) ?_))
  unfold Builtin.«object.__getattribute__»
  refine wpAny_bind (wpAny_of_eq (a := ((Value.ref x : Value), [Value.str "__class__" tc])) (by first | rfl | (simp only [slotArgs]; rfl)) (wpAny_bind (wpAny_pure (wpAny_bind (k0.at (wpAny_bind (k3.at ?_)))))))
  show wpAny _ _ (holding [Value.builtin "object.__class__"] (call (.builtin "getset_descriptor.__get__") [Value.builtin "object.__class__", Value.ref x, Value.ref D]) >>= ret) _ _ _
  refine wpAny_bind (wpAny_holding (wpAny_call (class_get (s := ⟨hp, gs, dr, tc + 1, os⟩) (ox := ox) (od := dx) XK J C.mo (wpAny_pure ?_))))
  show wpAny _ _ (handedOut (Value.ref D)) _ _ _
  rw [handedOut_of (v := Value.ref D) rfl]
  first
    | exact wpAny_pure (wpAny_pure hq)
    | exact wpAny_pure hq
    | exact wpAny_pure (wpAny_bind (wpAny_pure (wpAny_pure hq)))
theorem kit_exc (C : ExCls K D) : KitX K (.ref x) (.ref D) (fun h => InstAt h x ox D dx) where
  ty := fun _ _ _ J => J.type
  it := fun _ _ XK _ => by
    obtain ⟨cd, h1, _⟩ := any_some C.hd
    unfold clsIn at h1
    split at h1
    · rename_i c1 d1 cd1 sl1 ho
      intro A2 Q2 E2 s2 kp q
      unfold isType loadHead
      exact wpAny_bind (wpAny_loadPart (kp _ _ (XK _ _ ho)) (wpAny_pure q))
    · cases h1
  ne := fun h tp dd its n sl XK htp => by
    obtain ⟨cd, h1, _⟩ := any_some C.hd
    refine Bool.eq_false_iff.mpr fun q => ?_
    obtain rfl : D = tp := Value.ref.inj (beq_iff_eq.mp q)
    unfold clsIn at h1
    split at h1
    · rename_i c1 d1 cd1 sl1 ho
      cases (XK _ _ ho).symm.trans htp
    · cases h1
  ca := fun XK J k => class_asked C XK J k
end
end PySem.TwX
namespace Tw
open PySem L2 PySem.Spec PyProof.Rows
/-- isinstance(e, c), e the caught error -/
def rIsX (K : PySem.W.Frag) (a : Addr) (cls : Value) (d : Option Addr) : List V → Hp → VK → Prop := fun xs H Q => ∃ (D : Addr) (c : V) (cv : Value) (b : Bool), cls = .ref D ∧ (∃ dd fs, d = some dd ∧ H dd = some (.xd fs)) ∧ PySem.TwX.ExCls K D ∧ xs = [.ref a, c] ∧ (∀ u, RelV c u → u = cv) ∧ PySem.W.kitOne K (.ref D) cv = some b ∧ Q (.bl b) H
theorem call_isX {X : Cx} {K : PySem.W.Frag} {a : Addr} {cls : Value} {d : Option Addr} {oe : Obj} {pn : List (Addr × Obj)} (hK : X.K = K) (hz : Zc cls d oe) (hf : ∃ vs, oe.data = .fields vs) : CallR (X.suite a ((a, oe) :: pn)) (.builtin "isinstance") (rIsX K a cls d) := by
  subst hK
  intro pins s σ H xs us Q I r h
  obtain ⟨D, c, cv, b, rfl, ⟨dd, fs, rfl, ed⟩, C, rfl, hcv, e, q⟩ := h
  cases r with
  | cons rx rr =>
    cases rr with
    | cons rt rr =>
      cases rr
      cases rx
      obtain rfl := hcv _ rt
      obtain ⟨hget, _⟩ := I.pin (a, oe) (List.mem_append.mpr (.inl List.mem_cons_self))
      obtain ⟨vs, hv⟩ := hf
      have hx : ObjOk X.prog X.w H s.heap dd (.xd fs) := I.hok dd _ ed
      obtain ⟨mA, hns, _⟩ := hx
      obtain ⟨od, ho, _⟩ := lookIn_ns hns
      have J : ∃ dx, PySem.W.InstAt s.heap a oe D dx := ⟨some od, hget, hz.1, by unfold PySem.W.notCls; rw [hv] <;> rfl, by rw [hz.2]; exact ho⟩
      obtain ⟨dx, J⟩ := J
      exact PySem.W.kia_one (PySem.TwX.kit_exc C) I.kIn J e (fun z => nomatch z) fun tk => ⟨.bl b, H, I.kept (t' := tk) fun _ _ z => z, rfl, q⟩
/-- a maker with two keyword-only parameters that may let an error out -/
structure DefCDX (P : Program) (w : World) (K : PySem.W.Frag) (mg : Str → Option Value) (base : Heap) (k : Nat) (C : Addr) (ps : List Str) (sp : Sp) : Prop where
  ex : ∃ (f : Addr) (fd : FuncData), FnOk P w K mg base (L2.CX P w) k f fd ps sp ∧ Mk K C f ∧ ∃ d1 d2 : Addr, (∀ H, SqT K H d1 []) ∧ (∀ H, SqT K H d2 []) ∧ ∃ ds, Vals [.ref d1, .ref d2] ds ∧ Binds K fd ps ds
theorem HereCD.defX {P : Program} {w : World} {K : PySem.W.Frag} {mg : Str → Option Value} {base : Heap} {k : Nat} {C : Addr} {qual : Str} {st : Stmt} {ps : List Str} {sp : Sp} {f : Addr} {fd : FuncData} (h : HereCD K C qual st ps f fd) (F : FnOk P w K mg base (L2.CX P w) k f fd ps sp) : DefCDX P w K mg base k C ps sp :=
  ⟨f, fd, F, h.mkr, h.bd⟩
def tNewDX (K : PySem.W.Frag) (C : Addr) (sp : Sp) (W : WX) (t : TA) : TE := fun σ H Q => ∀ d1 d2 : Addr, (∀ H, SqT K H d1 []) → (∀ H, SqT K H d2 []) → t σ H fun vs H1 => ∀ x dx, H1 x = none → H1 dx = none → dx ≠ x →
  sp (.ref x :: (vs ++ [.ref d1, .ref d2])) (upd (upd H1 dx (.own x)) x (.ins C dx [])) (fun v H2 => v = .non ∧ Q (.ref x) H2) (WE W σ)
theorem g_newDX {K : PySem.W.Frag} {C : Addr} {sp : Sp} {W : WX} {t : TA} {σ : L2.St} {H : Hp} {Q : VK} (q : ∀ d1 d2 : Addr, (∀ H, SqT K H d1 []) → (∀ H, SqT K H d2 []) → t σ H fun vs H1 => ∀ x dx, H1 x = none → H1 dx = none → dx ≠ x →
  sp (.ref x :: (vs ++ [.ref d1, .ref d2])) (upd (upd H1 dx (.own x)) x (.ins C dx [])) (fun v H2 => v = .non ∧ Q (.ref x) H2) (WE W σ)) : tNewDX K C sp W t σ H Q := q
theorem make_at {X : Cx} {CX : CXT} {k : Nat} {f C : Addr} {fd : FuncData} {ps : List Str} {sp : Sp} {dvs : List V} {ds : List Value} {W : XK} {pins : List (Addr × Obj)} {σ : L2.St} {H : Hp} {s : Shared} {Q : VK} {us : List Value} {vs : List V} (mk : Mk X.K C f) (F : FnOk X.prog X.w X.K X.mg X.base CX k f fd ps sp) (hr : Room (k + 1) X.A) (hb : Binds X.K fd ps ds) (hv : Vals dvs ds)
    (out : PassesAt CX X σ W) (I : Inv X pins σ H s) (rv : Vals vs us) (q : ∀ x dx, H x = none → H dx = none → dx ≠ x → sp (.ref x :: (vs ++ dvs)) (upd (upd H dx (.own x)) x (.ins C dx [])) (fun v H2 => v = .non ∧ Q (.ref x) H2) W) :
    wpAny (model X.prog X.w) X.A (call (.ref C) us) (EP X pins σ Q) X.xe s := by
  have asked := q (s.heap.objs.size + 1) s.heap.objs.size (I.hok.fresh (Nat.le_succ _)) (I.hok.fresh (Nat.le_refl _)) (Nat.ne_of_lt (Nat.lt_succ_self _))
  have J := Inv.made (C := C) I
  have all : Vals (V.ref (s.heap.objs.size + 1) :: (vs ++ dvs)) (Value.ref (s.heap.objs.size + 1) :: (us ++ ds)) := .cons rfl (rv.append hv)
  have len : (Value.ref (s.heap.objs.size + 1) :: us ++ ds).length = ps.length := (F.len _ _ _ _ asked ▸ all.length).symm
  have body := F.run _ X.stack _ _ ⟨Value.ref (s.heap.objs.size + 1) :: us, []⟩ (Value.ref (s.heap.objs.size + 1) :: (us ++ ds)) _ _ W (hr.make C us []) (J.env0.make C us []) (hb _ (Value.ref (s.heap.objs.size + 1) :: us) J.kIn len) all asked
  refine wpAny_call (make_map (f := f) I.kIn mk.makes mk.init (beq_iff_eq.mp mk.fn) (codeAny_mono body fun res s2 told => ?_))
  rcases res with er | fl
  · exact out pins _ _ er s2 J told
  · rcases fl with _ | _ | _ | u
    case ret =>
      obtain ⟨v, H3, I3, r3, ev, q3⟩ := J.after told
      subst ev
      exact ⟨r3, ⟨V.ref (s.heap.objs.size + 1), H3, I3, rfl, q3⟩⟩
    all_goals exact False.elim told
theorem pe_newDX {X : Cx} {K : PySem.W.Frag} {W : WX} {k j : Nat} {C : Addr} {x : Str} {p pos : Pos} {e : Expr} {es : List Expr} {ps : List Str} {sp : Sp} {t : TA} (tk : Takes X W) (hK : X.K = K)
    (D : DefCDX X.prog X.w K X.mg X.base k C ps sp) (hr : Room j X.A) (hg : Gl X x) (hm : X.mg x = some (.ref C)) (ha : PA X (e :: es) t) (hk : k + 1 ≤ j := by decide) (hdb : (x == ("__debug__" : Str)) = false := by decide)
    (he : starEach (e :: es) X.env = (false, eval e X.env) :: starEach es X.env := by rfl) (hpl : (backTo pos (starEach es X.env)).any (·.1) = false := by rfl) : PE X (.Call (.Name x p) (e :: es) [] pos) (tNewDX K C sp W t) := by
  subst hK
  obtain ⟨f, fd, F, mk, d1, d2, e1, e2, ds, hv, hb⟩ := D.ex
  refine ⟨fun pins s σ H Q I h => wpAny_Call_Name_kw (ld_glob I hg hm ?_ hdb)⟩
  refine PySem.W.callWith_K (h₀ := X.base) I.ok.mod.kin mk.kp (thn (ha.run pos pins s σ H _ I (h d1 d2 e1 e2)) fun us s1 ⟨vs, H1, J, rv, q⟩ => ⟨J.kIn, make_at mk F (hr.mono hk) hb hv (passAt tk σ) J rv q⟩) he hpl
end Tw

set_option Elab.async false
set_option linter.all false
set_option maxRecDepth 100000
set_option maxHeartbeats 4000000
/-! makers with two keyword-only parameters, that are given -/
namespace Tw
open PySem PySem.Spec PyProof.Rows L2
structure HereCK (K : PySem.W.Frag) (C : Addr) (qual : Str) (st : Stmt) (ps : List Str) (n : Nat) (k1 k2 : Str) (f : Addr) (fd : FuncData) : Prop where
  cd : HereCD K C qual st ps f fd
  kb : KBn K fd ps (n + 1) [k1, k2] (fun us ws => us ++ ws) (fun vs zs => vs ++ zs)
theorem HereCK.fn {K : PySem.W.Frag} {C : Addr} {qual : Str} {st : Stmt} {ps : List Str} {n : Nat} {k1 k2 : Str} {f : Addr} {fd : FuncData} (h : HereCK K C qual st ps n k1 k2 f fd) : Fun K "__init__" qual st f fd := h.cd.fn
structure DefCK (P : Program) (w : World) (K : PySem.W.Frag) (mg : Str → Option Value) (base : Heap) (k : Nat) (C : Addr) (ps : List Str) (n : Nat) (k1 k2 : Str) (sp : Sp) : Prop where
  cd : DefCD P w K mg base k C ps sp
  kb : ∃ (f : Addr) (fd : FuncData), FnOk P w K mg base CX0 k f fd ps sp ∧ Mk K C f ∧ KBn K fd ps (n + 1) [k1, k2] (fun us ws => us ++ ws) (fun vs zs => vs ++ zs)
theorem HereCK.def {P : Program} {w : World} {K : PySem.W.Frag} {mg : Str → Option Value} {base : Heap} {k n : Nat} {C : Addr} {qual : Str} {st : Stmt} {ps : List Str} {k1 k2 : Str} {sp : Sp} {f : Addr} {fd : FuncData} (h : HereCK K C qual st ps n k1 k2 f fd) (F : FnOk P w K mg base CX0 k f fd ps sp) : DefCK P w K mg base k C ps n k1 k2 sp :=
  ⟨h.cd.def F, f, fd, F, h.cd.mkr, h.kb⟩
section
variable {X : Cx} {K : PySem.W.Frag} {k j n : Nat} {C : Addr} {x k1 k2 : Str} {p pos p1 p2 : Pos} {e e1 e2 : Expr} {es : List Expr} {ps : List Str} {sp : Sp} {t : TA} {t1 t2 : TE}
theorem pe_newK (D : DefCK X.prog X.w X.K X.mg X.base k C ps n k1 k2 sp) (hr : Room j X.A) (hg : Gl X x) (hm : X.mg x = some (.ref C)) (ha : PA X (e :: es) t) (h1 : PE X e1 t1) (h2 : PE X e2 t2) (hk : k + 1 ≤ j := by decide)
    (hall : (backToKw pos (keywordEach [⟨some k1, e1, p1⟩, ⟨some k2, e2, p2⟩] X.env)).all (·.1.isSome) = true := by rfl) (hks : (backToKw pos (keywordEach [⟨some k1, e1, p1⟩, ⟨some k2, e2, p2⟩] X.env)).filterMap (·.1) = [k1, k2] := by rfl)
    (hdb : (x == ("__debug__" : Str)) = false := by decide) (he : starEach (e :: es) X.env = (false, eval e X.env) :: starEach es X.env := by rfl)
    (hpl : ((backTo pos (starEach (e :: es) X.env)).any (·.1) || (backToKw pos (keywordEach [⟨some k1, e1, p1⟩, ⟨some k2, e2, p2⟩] X.env)).any (·.1.isNone)) = false := by rfl) :
    PE X (.Call (.Name x p) (e :: es) [⟨some k1, e1, p1⟩, ⟨some k2, e2, p2⟩] pos) (tMakeN C n 2 sp (fun vs zs => vs ++ zs) E0 t (tCons t1 (tCons t2 tNil))) := by
  obtain ⟨f, fd, F, mk, kb⟩ := D.kb
  exact pe_makeN mk F (hr.mono hk) hg hm kb pass0 ha (pk_cons h1 (pk_cons h2 pk_nil)) hall hks hdb he hpl
theorem g_newK {σ : L2.St} {H : Hp} {Q : VK} (q : t σ H fun vs H1 => t1 σ H1 fun z1 H2 => t2 σ H2 fun z2 H3 => vs.length = n ∧ 2 = 2 ∧ ∀ x dx, H3 x = none → H3 dx = none → dx ≠ x → sp ((.ref x :: vs) ++ [z1, z2]) (upd (upd H3 dx (.own x)) x (.ins C dx [])) (fun v H4 => v = .non ∧ Q (.ref x) H4) E0) :
    tMakeN C n 2 sp (fun vs zs => vs ++ zs) E0 t (tCons t1 (tCons t2 tNil)) σ H Q := q
end
theorem kw_kb2 {K : PySem.W.Frag} {fd : FuncData} {k1 k2 : Str} {ps : List Str} {n : Nat} (h : ∀ us : List Value, us.length = n → ∀ u v : Value, bindArgs fd ⟨us, [(k1, u), (k2, v)]⟩ = pure (ps.zip (us ++ [u, v]))) : KBn K fd ps n [k1, k2] (fun us ws => us ++ ws) (fun vs zs => vs ++ zs) := by
  refine ⟨fun s us ws X l1 l2 => ?_, fun r1 r2 => r1.append r2⟩
  match ws, l2 with
  | [u, v], _ => exact .of_eq (h us l1 u v)
end Tw

set_option Elab.async false
set_option linter.all false
set_option maxRecDepth 100000
set_option maxHeartbeats 4000000
/-! written dicts from texts to numbers -/
namespace Tw
open PySem PySem.Spec PyProof.Rows L2
structure KDic (K : PySem.W.Frag) (w : World) (a : Addr) (ks : List (Str × Int)) : Prop where
  ex : ∃ es n, KDict K w a es n
  at' : ∀ p ∈ ks, ∃ t, PySem.W.nsIn K a p.1 = some (some (.int p.2 t))
  no : ∀ z, z ∉ ks.map (·.1) → PySem.W.nsIn K a z = some none
def rNotKE (K : PySem.W.Frag) (w : World) : R2 := fun y x H Q => ∃ (p : Addr) (z : Str) (ks : List (Str × Int)), x = .ref p ∧ y = .str z ∧ KDic K w p ks ∧ Q (.bl (!decide (z ∈ ks.map (·.1)))) H
def rIxKD (K : PySem.W.Frag) (w : World) : R2 := fun x y H Q => ∃ (p : Addr) (z : Str) (i : Int) (ks : List (Str × Int)), x = .ref p ∧ y = .str z ∧ KDic K w p ks ∧ (z, i) ∈ ks ∧ Q (.int i) H
def rNotKD (K : PySem.W.Frag) (w : World) : R2 := fun y x H Q => ∃ (p : Addr) (z : Str) (i : Int) (ks : List (Str × Int)), x = .ref p ∧ y = .str z ∧ KDic K w p ks ∧ (z, i) ∈ ks ∧ Q (.bl false) H
section
variable {X : Cx} {K : PySem.W.Frag} {w : World}
theorem ix_KD (hK : X.K = K) (hw : X.w = w) : IxR X (rIxKD K w) := by
  subst hK; subst hw
  intro value slice pins s σ H x y v u Q I rx ry h hs
  obtain ⟨p, z, i, ks, rfl, rfl, D, hm, q⟩ := h
  obtain ⟨es, n, D1⟩ := D.ex
  obtain ⟨t, e⟩ := D.at' _ hm
  exact ix_kdict value slice pins s σ H (.ref p) (.str z) v u Q I rx ry ⟨p, z, .int i, rfl, rfl, ⟨es, n, _, D1.at_, D1.lit, e, ⟨t, rfl⟩⟩, q⟩ hs
theorem op_notKD (hK : X.K = K) (hw : X.w = w) : OpR X (compareOp .NotIn) (rNotKD K w) := by
  subst hK; subst hw
  intro pins s σ H y x u v Q I ry rx h
  obtain ⟨p, z, i, ks, rfl, rfl, D, hm, q⟩ := h
  obtain ⟨es, n, D1⟩ := D.ex
  obtain ⟨t, e⟩ := D.at' _ hm
  exact op_notIn_kd D1 pins s σ H (.str z) (.ref p) u v Q I ry rx ⟨z, some (.int i t), rfl, rfl, e, q⟩
theorem op_notKE (hK : X.K = K) (hw : X.w = w) : OpR X (compareOp .NotIn) (rNotKE K w) := by
  subst hK; subst hw
  intro pins s σ H y x u v Q I ry rx h
  obtain ⟨p, z, ks, rfl, rfl, D, q⟩ := h
  obtain ⟨es, n, D1⟩ := D.ex
  by_cases hz : z ∈ ks.map (·.1)
  · obtain ⟨c, hc, rfl⟩ := List.mem_map.mp hz
    obtain ⟨t, e⟩ := D.at' _ hc
    rw [decide_eq_true hz] at q
    exact op_notIn_kd D1 pins s σ H (.str c.1) (.ref p) u v Q I ry rx ⟨c.1, some (.int c.2 t), rfl, rfl, e, q⟩
  · rw [decide_eq_false hz] at q
    exact op_notIn_kd D1 pins s σ H (.str z) (.ref p) u v Q I ry rx ⟨z, none, rfl, rfl, D.no z hz, q⟩
end
theorem kd_no {K : PySem.W.Frag} {P : Params} {a : Addr} {es : Array DictEntry} {n : Nat} {ks : List Str} (h1 : K.lookup a = some ⟨.type "dict", none, .dict es n, #[]⟩) (h2 : es.toList.map He.keyOf = He.keysIn P ks) {z : Str} (hz : z ∉ ks) : PySem.W.nsIn K a z = some none := by
  have each : ∀ e ∈ es.toList, ∃ k t, k ∈ ks ∧ e.key = .str k t := fun e he => by
    have hm : He.keyOf e ∈ He.keysIn P ks := by rw [← h2]; exact List.mem_map.mpr ⟨e, he, rfl⟩
    obtain ⟨k, hk, ek⟩ := List.mem_map.mp hm
    unfold He.keyOf at ek
    split at ek
    · rename_i x t q
      have := (Prod.mk.inj (Option.some.inj ek)).1
      exact ⟨k, t, hk, by rw [q, this]⟩
    · cases ek
  have f : es.toList.find? (·.key.isStr z) = none := List.find?_eq_none.mpr fun e he => by
    obtain ⟨k, t, hk, ek⟩ := each e he
    rw [ek, PySem.W.isStr_of]
    intro h
    have h' : (k == z) = true := h
    exact hz ((beq_iff_eq.mp h') ▸ hk)
  have g : es.toList.any (·.refKey) = false := List.any_eq_false.mpr fun e he => by
    obtain ⟨k, t, hk, ek⟩ := each e he
    unfold DictEntry.refKey
    rw [ek]
    exact Bool.false_ne_true
  unfold PySem.W.nsIn
  rw [h1]
  show (match es.toList.find? (·.key.isStr z) with
    | some e => some (some e.val)
    | none => if es.toList.any (·.refKey) then none else some none) = some none
  rw [f, g]
  rfl
theorem kdic_of {K : PySem.W.Frag} {w : World} {a : Addr} {es : Array DictEntry} {n : Nat} {ks : List Str} {kvs : List (Str × Int)} (h1 : K.lookup a = some ⟨.type "dict", none, .dict es n, #[]⟩) (h2 : es.toList.map He.keyOf = He.keysIn w.params ks) (h3 : (a == sysModules) = false)
    (h5 : ks = kvs.map (·.1)) (h4 : ∀ p ∈ kvs, ∃ t, PySem.W.nsIn K a p.1 = some (some (.int p.2 t))) : KDic K w a kvs := ⟨⟨es, n, h1, He.keysLit_of h2, h3⟩, h4, fun z hz => kd_no h1 h2 (by rw [h5]; exact hz)⟩
end Tw

set_option Elab.async false
set_option linter.all false
set_option maxRecDepth 100000
/-! == and != by an own __eq__, whatever it answers; len by an own __len__; == of nested tuples and lists -/
namespace Tw
open PySem PySem.Spec PySem.Calls PyProof.Rows PySem.W
theorem ne_slot : Slot "object" ("__ne__" : Str) "object.__ne__" := .of (owner := "object") (n := "__ne__") (by rw [typeLookup_type, builtinLookup_eq_fast]; kernel_rfl) (by decide +kernel) (by decide +kernel) (by decide +kernel)
  (.inl (by decide +kernel)) (by rw [isSubtype_type]; kernel_rfl)
section
variable {prog : Program} {w : World} {A : Around} {E : Value → Shared → Prop} {s : Shared} {K : Frag} {x C L f : Addr} {h₀ : Heap} {m : Str → Option Value} {ox : Obj} {od : Option Obj} {b tb : Value}
/-- a != b by the class's own __eq__, turned -/
theorem ne_by_eq {R : Value → Shared → Prop} (room : A.units + 1 < cLine) (fr : Fr h₀ L s.heap m) (k0 : K.In h₀) (inst : InstAt s.heap x ox C od) (tyb : Looks (model prog w) s.heap (typeOf b) tb) (nf : notFirst K C tb = true)
    (ne : findIn K (.ref C) "__ne__" = some (some (.builtin "object.__ne__"))) (ob : subIn K (.ref C) (.type "object") = some true)
    (eq : findIn K (.ref C) "__eq__" = some (some (.ref f))) (isf : isFn K (.ref f) = true)
    (h : wpAny (model prog w) A.in1 (call (.ref f) [.ref x, b]) (fun v t => ∃ r, v = .bool r ∧ R (.bool (!r)) t) E s) : wpAny (model prog w) A (richCompare .NotEq (.ref x) b) R E s := by
  have kin := k0.keeps fr.keep
  have body : wpAny (model prog w) A.in1 (Builtin.«object.__ne__» ⟨[.ref x, b], []⟩) (fun fin t => match fin with
      | .done r => wants (fun v t => v ≠ .notImplemented ∧ R v t) E (.ok r) t
      | .again c => c.quiet = true ∧ codeAny (model prog w) A c (wants (fun v t => v ≠ .notImplemented ∧ R v t) E) t) (fun e t => wants (fun v t => v ≠ .notImplemented ∧ R v t) E (.error e) t) s := by
    unfold Builtin.«object.__ne__»
    refine wpAny_bind (wpAny_pure ?_)
    refine wpAny_bind (wpAny_cRoomFor (show A.units + 1 < cLine from room) ?_)
    refine wpAny_bind (ifBound_K kin inst eq isf (wpAny_mono h (fun v t hv => ?_) fun _ _ e => e))
    obtain ⟨r, rfl, q⟩ := hv
    refine wpAny_bind (wpAny_truthy_bool ?_)
    exact wpAny_pure ⟨(fun z => nomatch z), q⟩
  have asked : wpAny (model prog w) A (tryCompare (.ref x) "__ne__" b) (fun r t => ∃ v, r = some v ∧ R v t) E s := by
    unfold tryCompare
    simp only [callSpecialIfBound?, bindSpecialIfBound?]
    have called : wpAny (model prog w) A (call (.builtin "object.__ne__") ([.ref x] ++ [b]) >>= fun v => pure (some v)) (fun r t => ∃ v, r = some v ∧ v ≠ .notImplemented ∧ R v t) E s := by
      refine wpAny_bind (wpAny_mono (wpAny_call (codeAny_call_builtin (R := wants (fun v t => v ≠ .notImplemented ∧ R v t) E) ne_slot.plain F.cmpEntry_ne (check_slot F.cmpKind_ne F.cmpSplit_ne (inst.type.andThen (looks_subIn kin ob)) (F.cmpArgs_ne _ _) body))) (fun v t hv => wpAny_pure ⟨v, rfl, hv⟩) fun _ _ e => e)
    have back : ∀ (r : Option Value) (t : Shared), (∃ v, r = some v ∧ v ≠ .notImplemented ∧ R v t) → wpAny (model prog w) A (match r with | some .notImplemented | none => pure none | some v => pure (some v)) (fun r t => ∃ v, r = some v ∧ R v t) E t := by
      rintro r t ⟨v, rfl, hn, q⟩
      cases v <;> first | exact absurd rfl hn | exact wpAny_pure ⟨_, rfl, q⟩
    refine wpAny_bind (wpAny_holding (wpAny_bind (wpAny_bind (wpAny_bind (inst.type.here ((looks_findIn kin ne).here ?_))))))
    refine wpAny_bind (wpAny_askSetting (wpAny_ite ?_))
    simp only [ne_slot.bind]
    split
    · refine wpAny_bind (wpAny_pure (wpAny_pure ?_))
      exact wpAny_mono called back fun _ _ e => e
    · refine wpAny_tryCatch (wpAny_bind (wpAny_pure (wpAny_pure ?_)))
      exact wpAny_mono called back fun _ _ e => e
  unfold richCompare
  simp only [oneThing_ref]
  refine wpAny_holding (wpAny_bind (wpAny_cRoomFor (by omega) (wpAny_bind (inst.type.here (wpAny_bind (tyb.here ?_))))))
  have rest : ∀ {t : Shared}, t = s → wpAny (model prog w) A (tryCompare (.ref x) "__ne__" b) (fun r t => ∃ v, r = some v ∧ R v t) E t := fun e => e ▸ asked
  split
  · rename_i diff
    have no : subIn K tb (.ref C) = some false := (Bool.or_eq_true_iff.mp nf).elim (fun z => by rw [beq_iff_eq.mp z] at diff; simp at diff) fun z => beq_iff_eq.mp z
    refine wpAny_bind ((looks_subIn kin no).here ?_)
    simp only [Bool.false_eq_true, if_false]
    exact wpAny_bind (wpAny_mono asked (fun r t ⟨v, hv, q⟩ => by subst hv; exact wpAny_pure q) fun _ _ e => e)
  · refine wpAny_bind (wpAny_pure ?_)
    simp only [Bool.false_eq_true, if_false]
    exact wpAny_bind (wpAny_mono asked (fun r t ⟨v, hv, q⟩ => by subst hv; exact wpAny_pure q) fun _ _ e => e)
end
end Tw

namespace Tw
open PySem L2 PySem.Spec PyProof.Rows
section
variable {X : Cx} {k j : Nat} {C : Addr} {ps : List Str} {sp : Sp}
/-- what stands on the right of an own == -/
def Beside (K : PySem.W.Frag) (C : Addr) (H : Hp) (y : V) : Prop := (∃ (b dy : Addr) (gs : List (Str × V)), y = .ref b ∧ H b = some (.ins C dy gs)) ∨ ∃ T : String, T ∈ kinds7 ∧ TyX K H y (.type T)
def rEqOwn (K : PySem.W.Frag) (C : Addr) (sp : Sp) : R2 := fun x y H Q => ∃ (a dx : Addr) (fs : List (Str × V)), x = .ref a ∧ H a = some (.ins C dx fs) ∧ Beside K C H y ∧ sp [x, y] H Q E0
def rNeOwn (K : PySem.W.Frag) (C : Addr) (sp : Sp) : R2 := fun x y H Q => ∃ (a dx : Addr) (fs : List (Str × V)), x = .ref a ∧ H a = some (.ins C dx fs) ∧ Beside K C H y ∧ sp [x, y] H (fun v H' => ∃ b, v = .bl b ∧ Q (.bl (!b)) H') E0
theorem beside_ty {pins : List (Addr × Obj)} {s : Shared} {σ : L2.St} {H : Hp} {y : V} {u : Value} (I : Inv X pins σ H s) (ry : RelV y u) (h : Beside X.K C H y) : ∃ tb, PySem.W.Looks (model X.prog X.w) s.heap (typeOf u) tb ∧ PySem.W.notFirst X.K C tb = true := by
  rcases h with ⟨b, dy, gs, rfl, eb⟩ | ⟨T, hT, ty⟩
  · cases (show u = Value.ref b from ry)
    obtain ⟨_, OB, _⟩ := ins_get I.hok eb
    obtain ⟨_, ib, _⟩ := OB.look
    exact ⟨.ref C, ib.type, by simp [PySem.W.notFirst]⟩
  · obtain ⟨Pk, kx, pk, _⟩ := kit_of I ry ty
    refine ⟨.type T, kx.ty _ _ I.kIn pk, ?_⟩
    have := (kin_and (K := X.K) (C := C) T hT).2.2
    simp [PySem.W.notFirst, this]
theorem op_eqOwn {K : PySem.W.Frag} (hK : X.K = K) (D : DefM X.prog X.w X.K X.mg X.base k C "__eq__" ps sp) (hr : Room j X.A) (hk : k ≤ j := by decide) : OpR X (compareOp .Eq) (rEqOwn K C sp) := by
  subst hK
  intro pins s σ H x y v u Q I rx ry h
  obtain ⟨a, dx, fs, rfl, ea, hb, q⟩ := h
  obtain rfl : v = Value.ref a := rx
  obtain ⟨tb, tyb, nf⟩ := beside_ty I ry hb
  obtain ⟨f, fd, F, hm, hbd⟩ := D.ex
  obtain ⟨_, OA, _⟩ := ins_get I.hok ea
  obtain ⟨_, ia, _⟩ := OA.look
  obtain ⟨m, fr⟩ := I.fr
  show wpAny (model X.prog X.w) X.A (richCompare .Eq (.ref a) u) (EP X pins σ Q) X.xe s
  refine PySem.W.cmp_K (op := .Eq) (hr.mono hk).units0 fr I.ok.mod.kin ia tyb nf hm.at_ hm.fn ?_
  exact wpAny_mono (run_fn F (hr.mono hk) hbd .nil pass0 I (vs := [.ref a, y]) (.cons (show RelV (.ref a) (.ref a) from rfl) (.cons ry .nil)) q) (fun _ _ z => back_of z) fun _ _ z => z
/-- the class's != is object's -/
structure OwnNe (K : PySem.W.Frag) (C : Addr) : Prop where
  ne : PySem.W.findIn K (.ref C) "__ne__" = some (some (.builtin "object.__ne__"))
  ob : PySem.W.subIn K (.ref C) (.type "object") = some true
theorem op_neOwn {K : PySem.W.Frag} (hK : X.K = K) (N : OwnNe K C) (D : DefM X.prog X.w X.K X.mg X.base k C "__eq__" ps sp) (hr : Room j X.A) (hk : k + 1 ≤ j := by decide) : OpR X (compareOp .NotEq) (rNeOwn K C sp) := by
  subst hK
  intro pins s σ H x y v u Q I rx ry h
  obtain ⟨a, dx, fs, rfl, ea, hb, q⟩ := h
  obtain rfl : v = Value.ref a := rx
  obtain ⟨tb, tyb, nf⟩ := beside_ty I ry hb
  obtain ⟨f, fd, F, hm, hbd⟩ := D.ex
  obtain ⟨_, OA, _⟩ := ins_get I.hok ea
  obtain ⟨_, ia, _⟩ := OA.look
  obtain ⟨m, fr⟩ := I.fr
  have hr1 := (hr.mono hk)
  show wpAny (model X.prog X.w) X.A (richCompare .NotEq (.ref a) u) (EP X pins σ Q) X.xe s
  refine ne_by_eq (by have := hr1.un; omega) fr I.ok.mod.kin ia tyb nf N.ne N.ob hm.at_ hm.fn ?_
  have r2 : Vals [V.ref a, y] [Value.ref a, u] := .cons (show RelV (.ref a) (.ref a) from rfl) (.cons ry .nil)
  have hl := F.len _ _ _ _ q
  refine wpAny_call (codeAny_mono (F.run X.A.in1 X.stack s H ⟨[.ref a, u], []⟩ [.ref a, u] [.ref a, y] _ E0 hr1.in1 I.env0.in1 (by
    have := hbd s [.ref a, u] I.kIn (by simpa using hl)
    simpa using this) r2 q) fun r t told => ?_)
  rcases r with e | fl
  · exact (show False from told).elim
  · cases fl with
    | ret g =>
      obtain ⟨z, H', I', rz, b, ez, fin⟩ := I.after told
      subst ez
      cases (show g = Value.bool b from rz)
      exact ⟨b, rfl, .bl (!b), H', I', rfl, fin⟩
    | next => exact False.elim told
    | brk => exact False.elim told
    | cont => exact False.elim told
/-- len of an instance, by its class's own __len__ -/
def rLenOwn (C : Addr) (sp : Sp) : List V → Hp → VK → Prop := fun xs H Q => ∃ (a dx : Addr) (fs : List (Str × V)), xs = [.ref a] ∧ H a = some (.ins C dx fs) ∧ sp xs H (fun v H' => ∃ n : Nat, v = .int n ∧ n < 1000000 ∧ Q v H') E0
theorem call_lenOwn (D : DefM X.prog X.w X.K X.mg X.base k C "__len__" ps sp) (hr : Room j X.A) (hk : k + 1 ≤ j := by decide) : CallR X (.builtin "len") (rLenOwn C sp) := by
  intro pins s σ H xs us Q I rv h
  obtain ⟨a, dx, fs, rfl, ea, q⟩ := h
  obtain ⟨u, rfl, rx⟩ := vals1 rv
  obtain rfl : u = Value.ref a := rx
  obtain ⟨f, fd, F, hm, hbd⟩ := D.ex
  obtain ⟨_, OA, _⟩ := ins_get I.hok ea
  obtain ⟨_, ia, _⟩ := OA.look
  obtain ⟨m, fr⟩ := I.fr
  have hr1 := (hr.mono hk)
  refine PySem.W.len_K fr I.ok.mod.kin ia hm.at_ hm.fn ?_
  have r2 : Vals [V.ref a] [Value.ref a] := .cons (show RelV (.ref a) (.ref a) from rfl) .nil
  have hl := F.len _ _ _ _ q
  refine wpAny_call (codeAny_mono (F.run X.A.in1 X.stack s H ⟨[.ref a], []⟩ [.ref a] [.ref a] _ E0 hr1.in1 I.env0.in1 (by
    have := hbd s [.ref a] I.kIn (by simpa using hl)
    simpa using this) r2 q) fun r t told => ?_)
  rcases r with e | fl
  · exact (show False from told).elim
  · cases fl with
    | ret g =>
      obtain ⟨z, H', I', rz, n, ez, hn, fin⟩ := I.after told
      subst ez
      obtain ⟨tk, rfl⟩ := (show ∃ tk, g = Value.int (n : Int) tk from rz)
      exact ⟨⟨by omega, by omega⟩, .int n, H', I'.tok _, ⟨_, rfl⟩, fin⟩
    | next => exact False.elim told
    | brk => exact False.elim told
    | cont => exact False.elim told
end
/-- one step of == of two tuples or two lists, the items' answers told by E -/
def RcNest (K : PySem.W.Frag) (H : Hp) (E : V → V → Bool → Prop) (x y : V) (r : Bool) : Prop :=
  (∃ (a b : Addr) (xs ys : List V) (e : Nat → Bool), x = .ref a ∧ y = .ref b ∧ SqT K H a xs ∧ SqT K H b ys ∧ (∀ (i : Nat) x y, xs[i]? = some x → ys[i]? = some y → E x y (e i)) ∧ r = ((List.range (min xs.length ys.length)).all e && xs.length == ys.length)) ∨
  (∃ (a b : Addr) (xs ys : List V) (e : Nat → Bool), x = .ref a ∧ y = .ref b ∧ SqL K H a xs ∧ SqL K H b ys ∧ xs.length = ys.length ∧ (∀ (i : Nat) x y, xs[i]? = some x → ys[i]? = some y → E x y (e i)) ∧ r = (List.range xs.length).all e) ∨
  (∃ (a b : Addr) (xs ys : List V), x = .ref a ∧ y = .ref b ∧ SqL K H a xs ∧ SqL K H b ys ∧ xs.length ≠ ys.length ∧ r = false) ∨
  (∃ (a b : Addr) (xs ys : List V), x = .ref a ∧ y = .ref b ∧ ((SqL K H a xs ∧ SqT K H b ys) ∨ (SqT K H a xs ∧ SqL K H b ys)) ∧ r = false)
/-- == of nested data, the same things found by their places -/
def EqNest (K : PySem.W.Frag) (H : Hp) : Nat → V → V → Bool → Prop
  | 0 => fun _ _ _ => False
  | n + 1 => fun x y r => (flatV x = true ∧ flatV y = true ∧ r = eqV x y) ∨ (∃ a, x = .ref a ∧ y = .ref a ∧ r = true) ∨ (x ≠ y ∧ RcNest K H (EqNest K H n) x y r)
section
variable {X : Cx} {pins : List (Addr × Obj)} {σ : L2.St} {H : Hp} {s : Shared}
theorem items_at {A : Around} {F : V → V → Bool → Prop} (ih : ∀ x y r v u, F x y r → RelV x v → RelV y u → SeqAt.EqAt A s v u r) {xs ys : List V} {us ws : List Value} {e : Nat → Bool} (h : ∀ (i : Nat) x y, xs[i]? = some x → ys[i]? = some y → F x y (e i)) (r1 : Vals xs us) (r2 : Vals ys ws)
    (i : Nat) (h1 : i < us.toArray.size) (h2 : i < ws.toArray.size) : SeqAt.EqAt A s us.toArray[i] ws.toArray[i] (e i) := by
  have g1 : i < us.length := by simpa using h1
  have g2 : i < ws.length := by simpa using h2
  have k1 : i < xs.length := by rw [r1.length]; exact g1
  have k2 : i < ys.length := by rw [r2.length]; exact g2
  obtain ⟨u, hu, ru⟩ := r1.get (List.getElem?_eq_getElem k1)
  obtain ⟨v, hv, rv⟩ := r2.get (List.getElem?_eq_getElem k2)
  have e1 : us.toArray[i] = u := by
    have := List.getElem?_eq_getElem g1
    rw [hu] at this
    simpa using (Option.some.inj this).symm
  have e2 : ws.toArray[i] = v := by
    have := List.getElem?_eq_getElem g2
    rw [hv] at this
    simpa using (Option.some.inj this).symm
  rw [e1, e2]
  exact ih _ _ _ _ _ (h i _ _ (List.getElem?_eq_getElem k1) (List.getElem?_eq_getElem k2)) ru rv
theorem rcD_run (I : Inv X pins σ H s) {A : Around} {F : V → V → Bool → Prop} (hu : A.units < cLine) (ih : ∀ x y r v u, F x y r → RelV x v → RelV y u → SeqAt.EqAt A.in1 s v u r) {x y : V} {r : Bool} {v u : Value} (h : RcNest X.K H F x y r) (rx : RelV x v) (ry : RelV y u) : SeqAt.RcAt A s v u r := by
  rcases h with ⟨a, b, xs, ys, e, rfl, rfl, ha, hb, hi, rfl⟩ | ⟨a, b, xs, ys, e, rfl, rfl, ha, hb, hl, hi, rfl⟩ | ⟨a, b, xs, ys, rfl, rfl, ha, hb, hl, rfl⟩ | ⟨a, b, xs, ys, rfl, rfl, hab, rfl⟩
  all_goals
    cases (show v = Value.ref a from rx)
    cases (show u = Value.ref b from ry)
  · obtain ⟨us, r1, p1, _⟩ := I.tuple ha
    obtain ⟨ws, r2, p2, _⟩ := I.tuple hb
    have q := SeqAt.RcAt.tuples p1 p2 hu (items_at ih hi r1 r2)
    rw [List.size_toArray, List.size_toArray, ← r1.length, ← r2.length] at q
    exact q
  · obtain ⟨us, r1, p1, _⟩ := I.list ha
    obtain ⟨ws, r2, p2, _⟩ := I.list hb
    have q := SeqAt.RcAt.lists p1.isList p2.isList (by rw [List.size_toArray, List.size_toArray, ← r1.length, ← r2.length]; exact hl) hu (items_at ih hi r1 r2)
    rw [List.size_toArray, ← r1.length] at q
    exact q
  · obtain ⟨us, r1, p1, _⟩ := I.list ha
    obtain ⟨ws, r2, p2, _⟩ := I.list hb
    exact SeqAt.RcAt.lists_lengths p1.isList p2.isList (by rw [List.size_toArray, List.size_toArray, ← r1.length, ← r2.length]; simpa using hl) hu
  · rcases hab with ⟨ha, hb⟩ | ⟨ha, hb⟩
    · obtain ⟨us, r1, p1, _⟩ := I.list ha
      obtain ⟨ws, r2, p2, _⟩ := I.tuple hb
      exact SeqAt.RcAt.list_tuple p1.isList p2 hu
    · obtain ⟨us, r1, p1, _⟩ := I.tuple ha
      obtain ⟨ws, r2, p2, _⟩ := I.list hb
      exact SeqAt.RcAt.tuple_list p1 p2.isList hu
theorem eqD_run (I : Inv X pins σ H s) : ∀ (n : Nat) (A : Around), A.units + n < cLine → ∀ (x y : V) (r : Bool) (v u : Value), EqNest X.K H n x y r → RelV x v → RelV y u → SeqAt.EqAt A s v u r
  | 0, _, _, _, _, _, _, _, h, _, _ => (show False from h).elim
  | n + 1, A, hu, x, y, r, v, u, h, rx, ry => by
    rcases h with ⟨fx, fy, rfl⟩ | ⟨a, rfl, rfl, rfl⟩ | ⟨hne, h⟩
    · exact eqAt_V rx ry fx fy
    · cases (show v = Value.ref a from rx)
      cases (show u = Value.ref a from ry)
      exact SeqAt.EqAt.same _
    · have q := rcD_run I (A := A) (by omega) (eqD_run I n A.in1 (by show A.units + 1 + n < cLine; omega)) h rx ry
      obtain ⟨a, b, rfl, rfl⟩ : ∃ a b, x = .ref a ∧ y = .ref b := by
        rcases h with ⟨a, b, _, _, _, e1, e2, _⟩ | ⟨a, b, _, _, _, e1, e2, _⟩ | ⟨a, b, _, _, e1, e2, _⟩ | ⟨a, b, _, _, e1, e2, _⟩ <;> exact ⟨a, b, e1, e2⟩
      cases (show v = Value.ref a from rx)
      cases (show u = Value.ref b from ry)
      exact SeqAt.EqAt.of_refs (fun e => hne (by rw [e])) q
end
section
variable {K : PySem.W.Frag} {H : Hp} {n : Nat} {a b : Addr} {xs ys : List V}
theorem all_true {m : Nat} : (List.range m).all (fun _ => true) = true := List.all_eq_true.mpr fun _ _ => rfl
theorem EqNest.flatS {v : V} (f : flatV v = true) (e : eqV v v = true) : EqNest K H (n + 1) v v true := .inl ⟨f, f, e.symm⟩
theorem EqNest.same : EqNest K H (n + 1) (.ref a) (.ref a) true := .inr (.inl ⟨a, rfl, rfl, rfl⟩)
theorem EqNest.tupT (ha : SqT K H a xs) (hb : SqT K H b ys) (hl : xs.length = ys.length) (hi : ∀ (i : Nat) x y, xs[i]? = some x → ys[i]? = some y → EqNest K H n x y true) : EqNest K H (n + 1) (.ref a) (.ref b) true := by
  by_cases e : a = b
  · rw [e]; exact .same
  · exact .inr (.inr ⟨fun z => e (by injection z), .inl ⟨a, b, xs, ys, fun _ => true, rfl, rfl, ha, hb, hi, by rw [all_true, hl, beq_self_eq_true]; rfl⟩⟩)
theorem EqNest.lstT (ha : SqL K H a xs) (hb : SqL K H b ys) (hl : xs.length = ys.length) (hi : ∀ (i : Nat) x y, xs[i]? = some x → ys[i]? = some y → EqNest K H n x y true) : EqNest K H (n + 1) (.ref a) (.ref b) true := by
  by_cases e : a = b
  · rw [e]; exact .same
  · exact .inr (.inr ⟨fun z => e (by injection z), .inr (.inl ⟨a, b, xs, ys, fun _ => true, rfl, rfl, ha, hb, hl, hi, by rw [all_true]⟩)⟩)
end
section
variable {X : Cx}
/-- x == y, two tuples or two lists -/
def rEqNest (K : PySem.W.Frag) : R2 := fun x y H Q => ∃ n r, n ≤ 60 ∧ RcNest K H (EqNest K H n) x y r ∧ Q (.bl r) H
theorem op_eqNest {K : PySem.W.Frag} (hK : X.K = K) (hu : X.A.units + 64 < cLine) : OpR X (compareOp .Eq) (rEqNest K) := by
  subst hK
  intro pins s σ H x y v u Q I rx ry h
  obtain ⟨n, r, hn, h, q⟩ := h
  exact rcD_run I (A := X.A) (by omega) (eqD_run I n X.A.in1 (by show X.A.units + 1 + n < cLine; omega)) h rx ry _ _ _ _ ⟨.bl r, H, I, rfl, q⟩
/-- x != y, two lists whose items are equal -/
def rNeNest (K : PySem.W.Frag) : R2 := fun x y H Q => ∃ n a b xs ys, n ≤ 60 ∧ x = .ref a ∧ y = .ref b ∧ SqL K H a xs ∧ SqL K H b ys ∧ xs.length = ys.length ∧ (∀ (i : Nat) x y, xs[i]? = some x → ys[i]? = some y → EqNest K H n x y true) ∧ Q (.bl false) H
theorem op_neNest {K : PySem.W.Frag} (hK : X.K = K) (hu : X.A.units + 64 < cLine) : OpR X (compareOp .NotEq) (rNeNest K) := by
  subst hK
  intro pins s σ H x y v u Q I rx ry h
  obtain ⟨n, a, b, xs, ys, hn, rfl, rfl, ha, hb, hl, hi, q⟩ := h
  cases (show v = Value.ref a from rx)
  cases (show u = Value.ref b from ry)
  obtain ⟨us, r1, p1, _⟩ := I.list ha
  obtain ⟨ws, r2, p2, _⟩ := I.list hb
  have hsz : us.toArray.size = ws.toArray.size := by rw [List.size_toArray, List.size_toArray, ← r1.length, ← r2.length]; exact hl
  refine SeqAt.tw_ne_lists p1.isList p2.isList hsz (by omega) (fun i h1 h2 => ?_) _ _ ⟨.bl false, H, I, rfl, q⟩
  exact (items_at (e := fun _ => true) (eqD_run I n X.A.in1 (by show X.A.units + 1 + n < cLine; omega)) hi r1 r2 i h1 h2).eqP
end
end Tw

namespace Tw
open PySem L2 PySem.Spec
/-- a maker that may let an error out -/
structure DefCX (P : Program) (w : World) (K : PySem.W.Frag) (mg : Str → Option Value) (base : Heap) (k : Nat) (C : Addr) (ps : List Str) (sp : Sp) : Prop where
  ex : ∃ (f : Addr) (fd : FuncData), FnOk P w K mg base (L2.CX P w) k f fd ps sp ∧ Mk K C f ∧ Binds K fd ps []
theorem HereC.defX {P : Program} {w : World} {K : PySem.W.Frag} {mg : Str → Option Value} {base : Heap} {k : Nat} {C : Addr} {qual : Str} {st : Stmt} {ps : List Str} {sp : Sp} {f : Addr} {fd : FuncData} (h : HereC K C qual st ps f fd) (F : FnOk P w K mg base (L2.CX P w) k f fd ps sp) : DefCX P w K mg base k C ps sp :=
  ⟨f, fd, F, h.mkr, h.bd⟩
def tNewX (C : Addr) (sp : Sp) (W : WX) (t : TA) : TE := fun σ H Q => t σ H fun vs H1 => ∀ x dx, H1 x = none → H1 dx = none → dx ≠ x →
  sp (.ref x :: vs) (upd (upd H1 dx (.own x)) x (.ins C dx [])) (fun v H2 => v = .non ∧ Q (.ref x) H2) (WE W σ)
theorem g_newX {C : Addr} {sp : Sp} {W : WX} {t : TA} {σ : L2.St} {H : Hp} {Q : VK} (q : t σ H fun vs H1 => ∀ x dx, H1 x = none → H1 dx = none → dx ≠ x →
  sp (.ref x :: vs) (upd (upd H1 dx (.own x)) x (.ins C dx [])) (fun v H2 => v = .non ∧ Q (.ref x) H2) (WE W σ)) : tNewX C sp W t σ H Q := q
theorem pe_newX {X : Cx} {W : WX} {k j : Nat} {C : Addr} {x : Str} {p pos : Pos} {e : Expr} {es : List Expr} {ps : List Str} {sp : Sp} {t : TA} (tk : Takes X W)
    (D : DefCX X.prog X.w X.K X.mg X.base k C ps sp) (hr : Room j X.A) (hg : Gl X x) (hm : X.mg x = some (.ref C)) (ha : PA X (e :: es) t) (hk : k + 1 ≤ j := by decide) (hdb : (x == ("__debug__" : Str)) = false := by decide)
    (he : starEach (e :: es) X.env = (false, eval e X.env) :: starEach es X.env := by rfl) (hpl : (backTo pos (starEach es X.env)).any (·.1) = false := by rfl) : PE X (.Call (.Name x p) (e :: es) [] pos) (tNewX C sp W t) := by
  obtain ⟨f, fd, F, mk, hb⟩ := D.ex
  refine ⟨fun pins s σ H Q I h => wpAny_Call_Name_kw (ld_glob I hg hm ?_ hdb)⟩
  refine PySem.W.callWith_K (h₀ := X.base) I.ok.mod.kin mk.kp (thn (ha.run pos pins s σ H _ I h) fun us s1 ⟨vs, H1, J, rv, q⟩ => ⟨J.kIn, make_at mk F (hr.mono hk) hb .nil (passAt tk σ) J rv (fun x dx h1 h2 h3 => by rw [List.append_nil]; exact q x dx h1 h2 h3)⟩) he hpl
end Tw


set_option Elab.async false
set_option linter.all false
set_option maxRecDepth 100000
set_option maxHeartbeats 4000000
namespace L
open PySem L2 Tw
local macro_rules | `(tactic| walk_at "hp") => `(tactic| first
  | assumption
  | with_reducible exact upd_same
  | (with_reducible refine Eq.trans (upd_ne ?hn) ?hr; (case hn => first | assumption | exact Ne.symm (by assumption)); (case hr => walk_at "hp")))
local macro_rules | `(tactic| walk_at "g1") => `(tactic| first
  | with_reducible refine g_nx ?_
  | with_reducible refine g_rt ?_
  | with_reducible refine g_seq ?_
  | with_reducible refine g_ret ?_
  | with_reducible refine g_if ?_
  | with_reducible refine g_asg ?_
  | with_reducible refine g_drop ?_
  | with_reducible refine g_asgSub ?_
  | with_reducible refine g_next ?_
  | with_reducible refine g_op ?_
  | ((with_reducible refine g_var0 ?_); refine ⟨_, rfl, ?_⟩)
  | with_reducible refine g_c ?_
  | with_reducible refine g_cons ?_
  | with_reducible refine g_nil ?_
  | with_reducible refine g_def ?_
  | with_reducible refine g_cb ?_
  | with_reducible refine g_test ?_
  | with_reducible refine g_B ?_
  | with_reducible refine g_bl ?_
  | with_reducible refine g_sl ?_
  | with_reducible refine g_name ?_
  | with_reducible refine g_lc ?_
  | with_reducible refine g_rng1 ?_
  | with_reducible refine g_for ?_
  | with_reducible refine g_yes ?_
  | with_reducible refine g_ilist ?_
  | ((with_reducible refine g_m1 ?_))
  | with_reducible refine g_m0 ?_
  | with_reducible refine g_noPart ?_
  | with_reducible refine g_part ?_
  | with_reducible refine g_int ?_
  | with_reducible refine g_tand ?_
  | with_reducible refine g_tor ?_
  | with_reducible refine g_tnot ?_
  | with_reducible refine g_vand ?_
  | with_reducible refine g_vor ?_
  | with_reducible refine g_vnot ?_
  | with_reducible refine g_eif ?_
  | with_reducible refine g_un ?_
  | with_reducible refine g_addI ?_
  | with_reducible refine g_subI ?_
  | with_reducible refine g_negI ?_
  | with_reducible refine g_ltI ?_
  | with_reducible refine g_ltS ?_
  | with_reducible refine g_leI ?_
  | with_reducible refine g_geS ?_
  | with_reducible refine g_inS ?_
  | with_reducible refine g_notInS ?_
  | with_reducible refine g_max2 ?_
  | ((with_reducible refine g_isiR0 ?_); refine ⟨by assumption, by decide, ?_⟩)
  | with_reducible refine g_isBl_tt ?_
  | with_reducible refine g_notBl_tt ?_
  | with_reducible refine g_isBl_tf ?_
  | with_reducible refine g_notBl_tf ?_
  | with_reducible refine g_isBl_ft ?_
  | with_reducible refine g_notBl_ft ?_
  | with_reducible refine g_isBl_ff ?_
  | with_reducible refine g_notBl_ff ?_
  | with_reducible refine g_isBl ?_
  | with_reducible refine g_notBl ?_
  | with_reducible refine g_istr ?_
  | with_reducible refine g_str1 ?_
  | with_reducible refine g_strE ?_
  | with_reducible refine g_gtI ?_
  | with_reducible refine g_geI ?_
  | with_reducible refine g_isN_non ?_
  | with_reducible refine g_isN_int ?_
  | with_reducible refine g_isN_str ?_
  | with_reducible refine g_isN_bl ?_
  | with_reducible refine g_isN_ref ?_
  | with_reducible refine g_notN_non ?_
  | with_reducible refine g_notN_int ?_
  | with_reducible refine g_notN_str ?_
  | with_reducible refine g_notN_bl ?_
  | with_reducible refine g_notN_ref ?_
  | with_reducible refine g_isN ?_
  | with_reducible refine g_notN ?_
  | with_reducible refine g_isiI kb_ii ?_
  | with_reducible refine g_isiI kb_is ?_
  | with_reducible refine g_isiI kb_ib ?_
  | with_reducible refine g_isiS kb_si ?_
  | with_reducible refine g_isiS kb_ss ?_
  | with_reducible refine g_isiS kb_sb ?_
  | with_reducible refine g_isiB kb_bi ?_
  | with_reducible refine g_isiB kb_bs ?_
  | with_reducible refine g_isiB kb_bb ?_
  | with_reducible refine g_isiN kb_ni ?_
  | with_reducible refine g_isiN kb_ns ?_
  | with_reducible refine g_isiN kb_nb ?_
  | with_reducible refine g_eqI ?_
  | with_reducible refine g_eqS ?_
  | with_reducible refine g_eqB ?_
  | with_reducible refine g_neI ?_
  | with_reducible refine g_neS ?_
  | with_reducible refine g_int1 ?_
  | with_reducible refine g_int1B ?_
  | with_reducible refine g_bool1B ?_
  | with_reducible refine g_bool1I ?_
  | ((with_reducible refine g_modI ?gm ?_); (case gm => first | assumption | decide | omega))
  | ((with_reducible refine g_mulI ?gm ?_); (case gm => first | exact Or.inl ⟨by decide, by decide⟩ | exact Or.inr ⟨by decide, by decide⟩ | (unfold CMul; omega)))
  | with_reducible refine g_tup ?_
  | with_reducible refine g_lst ?_
  | with_reducible refine g_bm ?_
  | ((with_reducible refine g_tyL ?_); refine ⟨⟨_, by walk_at "hp"⟩, ?_⟩)
  | ((with_reducible refine g_app0 ?_); (refine' ⟨_, ?ga, ?gb, ?_⟩; (case ga => walk_at "hp"); (case gb => first | assumption | (simp only [List.length_map, List.length_append, List.length_cons, List.length_nil]; omega) | omega)))
  | ((with_reducible refine g_ixL0 ?_); (refine' ⟨_, _, ?ga, ?gb, ?_⟩; (case ga => walk_at "hp"); (case gb => exact rfl)))
  | ((with_reducible refine g_ixL0 ?_); (refine' ⟨_, _, ?ga, atI_map ?gb, ?_⟩; (case ga => walk_at "hp"); (case gb => omega)))
  | ((with_reducible refine g_powI ?gm ?_); (case gm => first | exact ⟨by decide, by decide +kernel⟩ | exact cpow_small (by decide) (by decide) (by omega) (by omega)))
  | ((with_reducible refine g_fdI ?gm ?_); (case gm => first | exact ⟨by assumption, by assumption⟩ | exact ⟨by decide, by decide +kernel⟩))
  | ((with_reducible refine g_lenL0 ?_); (refine' ⟨_, ?ga, ?_⟩; (case ga => walk_at "hp")))
  | ((with_reducible refine g_setL0 ?_); (refine' ⟨_, _, ?ga, ?gb, ?_⟩; (case ga => walk_at "hp"); (case gb => exact rfl)))
  | with_reducible refine g_itup ?_
  | with_reducible refine g_lc2 ?_
  | with_reducible refine g_sortedSet ?_
  | with_reducible refine g_dget ?_
  | with_reducible refine g_din ?_
  | with_reducible refine g_dnotin ?_
  | with_reducible refine g_neB ?_
  | with_reducible refine g_opW ?_
  | with_reducible refine g_unW ?_
  | with_reducible refine g_callS ?_
  | with_reducible refine g_meX ?_
  | with_reducible refine g_me ?_
  | with_reducible refine g_new ?_
  | with_reducible refine g_sfld ?_
  | with_reducible refine g_fld ?_
  | with_reducible refine g_T ?_
  | with_reducible refine g_F ?_
  | with_reducible refine g_Tn ?_
  | with_reducible refine g_Fn ?_
  | with_reducible refine g_bk ?_
  | with_reducible refine g_ct ?_
  | with_reducible refine g_ctS ?_
  | with_reducible refine g_bkS ?_)
local macro_rules | `(tactic| walk_at "g") => `(tactic| repeat walk_at "g1")
local macro_rules | `(tactic| walk_at "G") => `(tactic| (walk_at "g"; try ((first | with_reducible refine g_dec (fun _ => ?_) (fun _ => ?_) | with_reducible refine g_ndec (fun _ => ?_) (fun _ => ?_)) <;> walk_at "G")))
def C_SIGNS : Str := Str.ofString " !\"#$&'()*+,-./0123456789:;<=>?@ABCDEFGHIJKLMNOPQRSTUVWXYZ[\\]^_`abcdefghijklmnopqrstuvwxyz{|}~"
def C_LETTERS : Str := Str.ofString "abcdefghijklmnopqrstuvwxyz"
def C_WORDS : List V := [.str "and", .str "or", .str "not", .str "sure", .str "in", .str "is", .str "empty", .str "begins", .str "always", .str "never"]
def C_NAME_SIGNS : Str := Str.ofString "abcdefghijklmnopqrstuvwxyz0123456789"
def C_OPS : List V := [.str "<", .str "<=", .str "==", .str "!=", .str ">", .str ">="]
def C_DIRECTIONS : List V := [.str "up", .str "down"]
def top (i : Nat) : Stmt := PySem.Challenge.pw_tworows_k55_plans_are_read.main.body.getD i (.Pass ⟨0, 0, 0, 0⟩)
abbrev S_is_integer : Stmt := top 12
abbrev N_is_integer : List Str := ["thing"]
theorem sc_is_integer : FnScope N_is_integer ["thing"] (defScope S_is_integer) := ⟨rfl, rfl, rfl, by decide +kernel, rfl, by decide +kernel, by decide +kernel⟩
abbrev S_is_sequence : Stmt := top 13
abbrev N_is_sequence : List Str := ["thing"]
theorem sc_is_sequence : FnScope N_is_sequence ["thing"] (defScope S_is_sequence) := ⟨rfl, rfl, rfl, by decide +kernel, rfl, by decide +kernel, by decide +kernel⟩
abbrev S_is_worded : Stmt := top 14
abbrev N_is_worded : List Str := ["thing"]
theorem sc_is_worded : FnScope N_is_worded ["thing"] (defScope S_is_worded) := ⟨rfl, rfl, rfl, by decide +kernel, rfl, by decide +kernel, by decide +kernel⟩
abbrev S_is_text : Stmt := top 15
abbrev N_is_text : List Str := ["thing", "sign"]
theorem sc_is_text : FnScope N_is_text ["thing"] (defScope S_is_text) := ⟨rfl, rfl, rfl, by decide +kernel, rfl, by decide +kernel, by decide +kernel⟩
abbrev S_is_name : Stmt := top 16
abbrev N_is_name : List Str := ["thing", "sign"]
theorem sc_is_name : FnScope N_is_name ["thing"] (defScope S_is_name) := ⟨rfl, rfl, rfl, by decide +kernel, rfl, by decide +kernel, by decide +kernel⟩
abbrev S_kind_of : Stmt := top 17
abbrev N_kind_of : List Str := ["value"]
theorem sc_kind_of : FnScope N_kind_of ["value"] (defScope S_kind_of) := ⟨rfl, rfl, rfl, by decide +kernel, rfl, by decide +kernel, by decide +kernel⟩
abbrev S_Test_init : Stmt := inClass (top 23) 0
abbrev N_Test_init : List Str := ["self", "word", "inner", "fields", "terms"]
theorem sc_Test_init : FnScope N_Test_init ["self", "word", "inner", "fields", "terms"] (defScope S_Test_init) := ⟨rfl, rfl, rfl, by decide +kernel, rfl, by decide +kernel, by decide +kernel⟩
abbrev S_Test_and : Stmt := inClass (top 23) 8
abbrev N_Test_and : List Str := ["self", "other"]
theorem sc_Test_and : FnScope N_Test_and ["self", "other"] (defScope S_Test_and) := ⟨rfl, rfl, rfl, by decide +kernel, rfl, by decide +kernel, by decide +kernel⟩
abbrev S_Test_or : Stmt := inClass (top 23) 9
abbrev N_Test_or : List Str := ["self", "other"]
theorem sc_Test_or : FnScope N_Test_or ["self", "other"] (defScope S_Test_or) := ⟨rfl, rfl, rfl, by decide +kernel, rfl, by decide +kernel, by decide +kernel⟩
abbrev S_Test_invert : Stmt := inClass (top 23) 10
abbrev N_Test_invert : List Str := ["self"]
theorem sc_Test_invert : FnScope N_Test_invert ["self"] (defScope S_Test_invert) := ⟨rfl, rfl, rfl, by decide +kernel, rfl, by decide +kernel, by decide +kernel⟩
abbrev S_Test_eq : Stmt := inClass (top 23) 11
abbrev N_Test_eq : List Str := ["self", "other"]
theorem sc_Test_eq : FnScope N_Test_eq ["self", "other"] (defScope S_Test_eq) := ⟨rfl, rfl, rfl, by decide +kernel, rfl, by decide +kernel, by decide +kernel⟩
abbrev S_size_of : Stmt := top 24
abbrev N_size_of : List Str := ["inner", "part"]
theorem sc_size_of : FnScope N_size_of ["inner"] (defScope S_size_of) := ⟨rfl, rfl, rfl, by decide +kernel, rfl, by decide +kernel, by decide +kernel⟩
abbrev S_depth_of : Stmt := top 25
abbrev N_depth_of : List Str := ["inner", "depth", "part"]
theorem sc_depth_of : FnScope N_depth_of ["inner"] (defScope S_depth_of) := ⟨rfl, rfl, rfl, by decide +kernel, rfl, by decide +kernel, by decide +kernel⟩
abbrev S_combined : Stmt := top 26
abbrev N_combined : List Str := ["word", "inner", "test"]
theorem sc_combined : FnScope N_combined ["word", "inner"] (defScope S_combined) := ⟨rfl, rfl, rfl, by decide +kernel, rfl, by decide +kernel, by decide +kernel⟩
abbrev S_need_column : Stmt := top 27
abbrev N_need_column : List Str := ["thing"]
theorem sc_need_column : FnScope N_need_column ["thing"] (defScope S_need_column) := ⟨rfl, rfl, rfl, by decide +kernel, rfl, by decide +kernel, by decide +kernel⟩
abbrev S_need_op : Stmt := top 28
abbrev N_need_op : List Str := ["thing"]
theorem sc_need_op : FnScope N_need_op ["thing"] (defScope S_need_op) := ⟨rfl, rfl, rfl, by decide +kernel, rfl, by decide +kernel, by decide +kernel⟩
abbrev S_need_values : Stmt := top 29
abbrev N_need_values : List Str := ["thing", "value"]
theorem sc_need_values : FnScope N_need_values ["thing"] (defScope S_need_values) := ⟨rfl, rfl, rfl, by decide +kernel, rfl, by decide +kernel, by decide +kernel⟩
abbrev S_compare : Stmt := top 30
abbrev N_compare : List Str := ["column", "op", "value"]
theorem sc_compare : FnScope N_compare ["column", "op", "value"] (defScope S_compare) := ⟨rfl, rfl, rfl, by decide +kernel, rfl, by decide +kernel, by decide +kernel⟩
abbrev S_against : Stmt := top 31
abbrev N_against : List Str := ["column", "op", "other", "more"]
theorem sc_against : FnScope N_against ["column", "op", "other", "more"] (defScope S_against) := ⟨rfl, rfl, rfl, by decide +kernel, rfl, by decide +kernel, by decide +kernel⟩
abbrev S_among : Stmt := top 32
abbrev N_among : List Str := ["column", "values"]
theorem sc_among : FnScope N_among ["column", "values"] (defScope S_among) := ⟨rfl, rfl, rfl, by decide +kernel, rfl, by decide +kernel, by decide +kernel⟩
abbrev S_begins : Stmt := top 33
abbrev N_begins : List Str := ["column", "prefix"]
theorem sc_begins : FnScope N_begins ["column", "prefix"] (defScope S_begins) := ⟨rfl, rfl, rfl, by decide +kernel, rfl, by decide +kernel, by decide +kernel⟩
abbrev S_empty : Stmt := top 34
abbrev N_empty : List Str := ["column"]
theorem sc_empty : FnScope N_empty ["column"] (defScope S_empty) := ⟨rfl, rfl, rfl, by decide +kernel, rfl, by decide +kernel, by decide +kernel⟩
abbrev S_always : Stmt := top 35
abbrev N_always : List Str := []
theorem sc_always : FnScope N_always [] (defScope S_always) := ⟨rfl, rfl, rfl, by decide +kernel, rfl, by decide +kernel, by decide +kernel⟩
abbrev S_never : Stmt := top 36
abbrev N_never : List Str := []
theorem sc_never : FnScope N_never [] (defScope S_never) := ⟨rfl, rfl, rfl, by decide +kernel, rfl, by decide +kernel, by decide +kernel⟩
abbrev S_sure : Stmt := top 37
abbrev N_sure : List Str := ["test"]
theorem sc_sure : FnScope N_sure ["test"] (defScope S_sure) := ⟨rfl, rfl, rfl, by decide +kernel, rfl, by decide +kernel, by decide +kernel⟩
abbrev S_is_short : Stmt := top 45
abbrev N_is_short : List Str := ["thing", "least", "most"]
theorem sc_is_short : FnScope N_is_short ["thing", "least", "most"] (defScope S_is_short) := ⟨rfl, rfl, rfl, by decide +kernel, rfl, by decide +kernel, by decide +kernel⟩
abbrev S_are_names : Stmt := top 46
abbrev N_are_names : List Str := ["thing", "least", "most", "name"]
theorem sc_are_names : FnScope N_are_names ["thing", "least", "most"] (defScope S_are_names) := ⟨rfl, rfl, rfl, by decide +kernel, rfl, by decide +kernel, by decide +kernel⟩
abbrev S_is_part : Stmt := top 50
abbrev N_is_part : List Str := ["thing"]
theorem sc_is_part : FnScope N_is_part ["thing"] (defScope S_is_part) := ⟨rfl, rfl, rfl, by decide +kernel, rfl, by decide +kernel, by decide +kernel⟩
abbrev S_need_order : Stmt := top 51
abbrev N_need_order : List Str := ["thing", "names", "at", "part"]
theorem sc_need_order : FnScope N_need_order ["thing"] (defScope S_need_order) := ⟨rfl, rfl, rfl, by decide +kernel, rfl, by decide +kernel, by decide +kernel⟩
abbrev S_Plan_init : Stmt := inClass (top 55) 0
abbrev N_Plan_init : List Str := ["self", "steps", "at", "step"]
theorem sc_Plan_init : FnScope N_Plan_init ["self", "steps"] (defScope S_Plan_init) := ⟨rfl, rfl, rfl, by decide +kernel, rfl, by decide +kernel, by decide +kernel⟩
abbrev S_Plan_steps : Stmt := inClass (top 55) 1
abbrev N_Plan_steps : List Str := ["self"]
theorem sc_Plan_steps : FnScope N_Plan_steps ["self"] (defScope S_Plan_steps) := ⟨rfl, rfl, rfl, by decide +kernel, rfl, by decide +kernel, by decide +kernel⟩
abbrev S_Plan_eq : Stmt := inClass (top 55) 2
abbrev N_Plan_eq : List Str := ["self", "other"]
theorem sc_Plan_eq : FnScope N_Plan_eq ["self", "other"] (defScope S_Plan_eq) := ⟨rfl, rfl, rfl, by decide +kernel, rfl, by decide +kernel, by decide +kernel⟩
abbrev S_Plan_len : Stmt := inClass (top 55) 3
abbrev N_Plan_len : List Str := ["self"]
theorem sc_Plan_len : FnScope N_Plan_len ["self"] (defScope S_Plan_len) := ⟨rfl, rfl, rfl, by decide +kernel, rfl, by decide +kernel, by decide +kernel⟩
abbrev S_is_step : Stmt := top 56
abbrev N_is_step : List Str := ["thing"]
theorem sc_is_step : FnScope N_is_step ["thing"] (defScope S_is_step) := ⟨rfl, rfl, rfl, by decide +kernel, rfl, by decide +kernel, by decide +kernel⟩
abbrev S_is_order : Stmt := top 57
abbrev N_is_order : List Str := ["thing"]
theorem sc_is_order : FnScope N_is_order ["thing"] (defScope S_is_order) := ⟨rfl, rfl, rfl, by decide +kernel, rfl, by decide +kernel, by decide +kernel⟩
abbrev S_step_of : Stmt := top 58
abbrev N_step_of : List Str := ["step"]
theorem sc_step_of : FnScope N_step_of ["step"] (defScope S_step_of) := ⟨rfl, rfl, rfl, by decide +kernel, rfl, by decide +kernel, by decide +kernel⟩
abbrev S__law_int : Stmt := top 60
abbrev N__law_int : List Str := ["_law_thing"]
theorem sc__law_int : FnScope N__law_int ["_law_thing"] (defScope S__law_int) := ⟨rfl, rfl, rfl, by decide +kernel, rfl, by decide +kernel, by decide +kernel⟩
abbrev S__law_pool : Stmt := top 61
abbrev N__law_pool : List Str := ["_law_script", "_law_place", "_law_cell"]
theorem sc__law_pool : FnScope N__law_pool ["_law_script", "_law_place"] (defScope S__law_pool) := ⟨rfl, rfl, rfl, by decide +kernel, rfl, by decide +kernel, by decide +kernel⟩
abbrev S__law_draw : Stmt := top 62
abbrev N__law_draw : List Str := ["_law_pool_here", "_law_many", "_law_digit", "_law_one"]
theorem sc__law_draw : FnScope N__law_draw ["_law_pool_here", "_law_many"] (defScope S__law_draw) := ⟨rfl, rfl, rfl, by decide +kernel, rfl, by decide +kernel, by decide +kernel⟩
abbrev S__law_value : Stmt := top 63
abbrev N__law_value : List Str := ["_law_pool_here", "_law_kind", "_law_wide", "_law_chars", "_law_many", "_law_text", "_law_k"]
theorem sc__law_value : FnScope N__law_value ["_law_pool_here", "_law_kind"] (defScope S__law_value) := ⟨rfl, rfl, rfl, by decide +kernel, rfl, by decide +kernel, by decide +kernel⟩
abbrev S__law_name : Stmt := top 64
abbrev N__law_name : List Str := ["_law_pool_here", "_law_taken", "_law_letters", "_law_name_here", "_law_many", "_law_k"]
theorem sc__law_name : FnScope N__law_name ["_law_pool_here", "_law_taken"] (defScope S__law_name) := ⟨rfl, rfl, rfl, by decide +kernel, rfl, by decide +kernel, by decide +kernel⟩
abbrev S__law_columns : Stmt := top 65
abbrev N__law_columns : List Str := ["_law_pool_here", "_law_most", "_law_columns_here", "_law_k", "_law_name_here", "_law_column"]
theorem sc__law_columns : FnScope N__law_columns ["_law_pool_here", "_law_most"] (defScope S__law_columns) := ⟨rfl, rfl, rfl, by decide +kernel, rfl, by decide +kernel, by decide +kernel⟩
abbrev S__law_atom : Stmt := top 66
abbrev N__law_atom : List Str := ["_law_pool_here", "_law_columns_here", "_law_picked", "_law_name_here", "_law_kind", "_law_pick", "_law_op", "_law_others", "_law_extra", "_law_column", "_law_k"]
theorem sc__law_atom : FnScope N__law_atom ["_law_pool_here", "_law_columns_here"] (defScope S__law_atom) := ⟨rfl, rfl, rfl, by decide +kernel, rfl, by decide +kernel, by decide +kernel⟩
abbrev S__law_make : Stmt := top 68
abbrev N__law_make : List Str := ["_law_term", "_law_word"]
theorem sc__law_make : FnScope N__law_make ["_law_term"] (defScope S__law_make) := ⟨rfl, rfl, rfl, by decide +kernel, rfl, by decide +kernel, by decide +kernel⟩
abbrev S__law_order : Stmt := top 69
abbrev N__law_order : List Str := ["_law_pool_here", "_law_columns_here", "_law_parts", "_law_k", "_law_name_here", "_law_part"]
theorem sc__law_order : FnScope N__law_order ["_law_pool_here", "_law_columns_here"] (defScope S__law_order) := ⟨rfl, rfl, rfl, by decide +kernel, rfl, by decide +kernel, by decide +kernel⟩
abbrev S__law_step : Stmt := top 73
abbrev N__law_step : List Str := ["_law_pool_here", "_law_columns_here", "_law_word", "_law_names", "_law_k", "_law_name_here"]
theorem sc__law_step : FnScope N__law_step ["_law_pool_here", "_law_columns_here"] (defScope S__law_step) := ⟨rfl, rfl, rfl, by decide +kernel, rfl, by decide +kernel, by decide +kernel⟩
abbrev S__law_made_step : Stmt := top 74
abbrev N__law_made_step : List Str := ["_law_step_here"]
theorem sc__law_made_step : FnScope N__law_made_step ["_law_step_here"] (defScope S__law_made_step) := ⟨rfl, rfl, rfl, by decide +kernel, rfl, by decide +kernel, by decide +kernel⟩
abbrev S__law_is_name : Stmt := top 76
abbrev N__law_is_name : List Str := ["_law_thing", "_law_char"]
theorem sc__law_is_name : FnScope N__law_is_name ["_law_thing"] (defScope S__law_is_name) := ⟨rfl, rfl, rfl, by decide +kernel, rfl, by decide +kernel, by decide +kernel⟩
abbrev S__law_order_right : Stmt := top 77
abbrev N__law_order_right : List Str := ["_law_thing", "_law_names", "_law_part"]
theorem sc__law_order_right : FnScope N__law_order_right ["_law_thing"] (defScope S__law_order_right) := ⟨rfl, rfl, rfl, by decide +kernel, rfl, by decide +kernel, by decide +kernel⟩
abbrev S__law_right : Stmt := top 78
abbrev N__law_right : List Str := ["_law_thing", "_law_tests", "_law_seen", "_law_name_here", "_law_test_here"]
theorem sc__law_right : FnScope N__law_right ["_law_thing", "_law_tests"] (defScope S__law_right) := ⟨rfl, rfl, rfl, by decide +kernel, rfl, by decide +kernel, by decide +kernel⟩
abbrev S__law_odd : Stmt := top 79
abbrev N__law_odd : List Str := ["_law_pool_here", "_law_odd_here"]
theorem sc__law_odd : FnScope N__law_odd ["_law_pool_here"] (defScope S__law_odd) := ⟨rfl, rfl, rfl, by decide +kernel, rfl, by decide +kernel, by decide +kernel⟩
abbrev S__law_due : Stmt := top 80
abbrev N__law_due : List Str := ["_law_things", "_law_due_here", "_law_thing", "_law_part"]
theorem sc__law_due : FnScope N__law_due ["_law_things"] (defScope S__law_due) := ⟨rfl, rfl, rfl, by decide +kernel, rfl, by decide +kernel, by decide +kernel⟩
abbrev S__law_said : Stmt := top 81
abbrev N__law_said : List Str := ["_law_thing", "e"]
theorem sc__law_said : FnScope N__law_said ["_law_thing"] (defScope S__law_said) := ⟨rfl, rfl, rfl, by decide +kernel, rfl, by decide +kernel, by decide +kernel⟩
abbrev S_law : Stmt := top 82
abbrev N_law : List Str := ["_law_script", "_law_pool_here", "_law_spoil", "_law_as_tuple", "_law_columns_here", "_law_things", "_law_tests", "_law_fault", "_law_at", "_law_handed", "_law_said_here", "_law_due_here", "_law_plan", "_law_again", "_law_told", "_law_k", "_law_thing"]
theorem sc_law : FnScope N_law ["_law_script"] (defScope S_law) := ⟨rfl, rfl, rfl, by decide +kernel, rfl, by decide +kernel, by decide +kernel⟩
structure TxtW (w : World) (K : PySem.W.Frag) (mg : Str → Option Value) : Prop where
  h_isinstance : mg "isinstance" = none
  h_int : mg "int" = none
  h_bool : mg "bool" = none
  h_list : mg "list" = none
  h_tuple : mg "tuple" = none
  h_str : mg "str" = none
  h_len : mg "len" = none
  h_all : mg "all" = none
  h_sum : mg "sum" = none
  h_set : mg "set" = none
  h_enumerate : mg "enumerate" = none
  h_range : mg "range" = none
  d_is_integer : ∃ f fd, Here K mg "is_integer" S_is_integer ["thing"] f fd
  d_is_sequence : ∃ f fd, Here K mg "is_sequence" S_is_sequence ["thing"] f fd
  d_is_worded : ∃ f fd, Here K mg "is_worded" S_is_worded ["thing"] f fd
  d_is_text : ∃ f fd, Here K mg "is_text" S_is_text ["thing"] f fd
  d_is_name : ∃ f fd, Here K mg "is_name" S_is_name ["thing"] f fd
  d_kind_of : ∃ f fd, Here K mg "kind_of" S_kind_of ["value"] f fd
  d_Test_init : ∃ f fd, HereC K (cadr mg "Test") "Test.__init__" S_Test_init ["self", "word", "inner", "fields", "terms"] f fd
  d_Test_and : ∃ f fd, HereM K (cadr mg "Test") "__and__" "Test.__and__" S_Test_and ["self", "other"] f fd
  d_Test_or : ∃ f fd, HereM K (cadr mg "Test") "__or__" "Test.__or__" S_Test_or ["self", "other"] f fd
  d_Test_invert : ∃ f fd, HereM K (cadr mg "Test") "__invert__" "Test.__invert__" S_Test_invert ["self"] f fd
  d_Test_eq : ∃ f fd, HereM K (cadr mg "Test") "__eq__" "Test.__eq__" S_Test_eq ["self", "other"] f fd
  d_size_of : ∃ f fd, Here K mg "size_of" S_size_of ["inner"] f fd
  d_depth_of : ∃ f fd, Here K mg "depth_of" S_depth_of ["inner"] f fd
  d_combined : ∃ f fd, Here K mg "combined" S_combined ["word", "inner"] f fd
  d_need_column : ∃ f fd, Here K mg "need_column" S_need_column ["thing"] f fd
  d_need_op : ∃ f fd, Here K mg "need_op" S_need_op ["thing"] f fd
  d_need_values : ∃ f fd, Here K mg "need_values" S_need_values ["thing"] f fd
  d_compare : ∃ f fd, Here K mg "compare" S_compare ["column", "op", "value"] f fd
  d_against : ∃ f fd, HereKw K mg "against" S_against ["column", "op", "other", "more"] 3 "more" (.int 0) f fd
  d_among : ∃ f fd, Here K mg "among" S_among ["column", "values"] f fd
  d_begins : ∃ f fd, Here K mg "begins" S_begins ["column", "prefix"] f fd
  d_empty : ∃ f fd, Here K mg "empty" S_empty ["column"] f fd
  d_always : ∃ f fd, Here K mg "always" S_always [] f fd
  d_never : ∃ f fd, Here K mg "never" S_never [] f fd
  d_sure : ∃ f fd, Here K mg "sure" S_sure ["test"] f fd
  d_is_short : ∃ f fd, Here K mg "is_short" S_is_short ["thing", "least", "most"] f fd
  d_are_names : ∃ f fd, Here K mg "are_names" S_are_names ["thing", "least", "most"] f fd
  d_is_part : ∃ f fd, Here K mg "is_part" S_is_part ["thing"] f fd
  d_need_order : ∃ f fd, Here K mg "need_order" S_need_order ["thing"] f fd
  d_Plan_init : ∃ f fd, HereC K (cadr mg "Plan") "Plan.__init__" S_Plan_init ["self", "steps"] f fd
  d_Plan_steps : ∃ f fd, HereM K (cadr mg "Plan") "steps" "Plan.steps" S_Plan_steps ["self"] f fd
  d_Plan_eq : ∃ f fd, HereM K (cadr mg "Plan") "__eq__" "Plan.__eq__" S_Plan_eq ["self", "other"] f fd
  d_Plan_len : ∃ f fd, HereM K (cadr mg "Plan") "__len__" "Plan.__len__" S_Plan_len ["self"] f fd
  d_is_step : ∃ f fd, Here K mg "is_step" S_is_step ["thing"] f fd
  d_is_order : ∃ f fd, Here K mg "is_order" S_is_order ["thing"] f fd
  d_step_of : ∃ f fd, Here K mg "step_of" S_step_of ["step"] f fd
  d__law_int : ∃ f fd, Here K mg "_law_int" S__law_int ["_law_thing"] f fd
  d__law_pool : ∃ f fd, Here K mg "_law_pool" S__law_pool ["_law_script", "_law_place"] f fd
  d__law_draw : ∃ f fd, Here K mg "_law_draw" S__law_draw ["_law_pool_here", "_law_many"] f fd
  d__law_value : ∃ f fd, Here K mg "_law_value" S__law_value ["_law_pool_here", "_law_kind"] f fd
  d__law_name : ∃ f fd, Here K mg "_law_name" S__law_name ["_law_pool_here", "_law_taken"] f fd
  d__law_columns : ∃ f fd, Here K mg "_law_columns" S__law_columns ["_law_pool_here", "_law_most"] f fd
  d__law_atom : ∃ f fd, Here K mg "_law_atom" S__law_atom ["_law_pool_here", "_law_columns_here"] f fd
  d__law_make : ∃ f fd, Here K mg "_law_make" S__law_make ["_law_term"] f fd
  d__law_order : ∃ f fd, Here K mg "_law_order" S__law_order ["_law_pool_here", "_law_columns_here"] f fd
  d__law_step : ∃ f fd, Here K mg "_law_step" S__law_step ["_law_pool_here", "_law_columns_here"] f fd
  d__law_made_step : ∃ f fd, Here K mg "_law_made_step" S__law_made_step ["_law_step_here"] f fd
  d__law_is_name : ∃ f fd, Here K mg "_law_is_name" S__law_is_name ["_law_thing"] f fd
  d__law_order_right : ∃ f fd, Here K mg "_law_order_right" S__law_order_right ["_law_thing"] f fd
  d__law_right : ∃ f fd, Here K mg "_law_right" S__law_right ["_law_thing", "_law_tests"] f fd
  d__law_odd : ∃ f fd, Here K mg "_law_odd" S__law_odd ["_law_pool_here"] f fd
  d__law_due : ∃ f fd, Here K mg "_law_due" S__law_due ["_law_things"] f fd
  d__law_said : ∃ f fd, Here K mg "_law_said" S__law_said ["_law_thing"] f fd
  x_BadTest : ∃ fI, PySem.ErBadTest.Err K mg (cadr mg "BadTest") fI
  x_BadOrder : ∃ fI, PySem.ErBadOrder.Err K mg (cadr mg "BadOrder") fI
  x_BadPlan : ∃ fI, PySem.ErBadPlan.Err K mg (cadr mg "BadPlan") fI
  is_Test : OwnIs K (cadr mg "Test")
  sf_Test : PySem.W.selfFirst K (cadr mg "Test") = true
  nr_Test_and : PySem.W.findIn K (.ref (cadr mg "Test")) (dunderR "and") = some none
  nr_Test_or : PySem.W.findIn K (.ref (cadr mg "Test")) (dunderR "or") = some none
  e_Test : mg "Test" = some (.ref (cadr mg "Test"))
  ne_Test : OwnNe K (cadr mg "Test")
  cl_Test : Cls K (cadr mg "Test")
  n_Test_word : NoAttr K (cadr mg "Test") "word"
  n_Test_inner : NoAttr K (cadr mg "Test") "inner"
  n_Test_fields : NoAttr K (cadr mg "Test") "fields"
  n_Test_terms : NoAttr K (cadr mg "Test") "terms"
  n_Test_size : NoAttr K (cadr mg "Test") "size"
  n_Test_depth : NoAttr K (cadr mg "Test") "depth"
  is_Plan : OwnIs K (cadr mg "Plan")
  sf_Plan : PySem.W.selfFirst K (cadr mg "Plan") = true
  nr_Plan_and : PySem.W.findIn K (.ref (cadr mg "Plan")) (dunderR "and") = some none
  nr_Plan_or : PySem.W.findIn K (.ref (cadr mg "Plan")) (dunderR "or") = some none
  e_Plan : mg "Plan" = some (.ref (cadr mg "Plan"))
  ne_Plan : OwnNe K (cadr mg "Plan")
  cl_Plan : Cls K (cadr mg "Plan")
  n_Plan_course : NoAttr K (cadr mg "Plan") "course"
  k_SIGNS : ∃ t, mg "SIGNS" = some (.str C_SIGNS t)
  k_LONGEST_NAME : ∃ t, mg "LONGEST_NAME" = some (.int 8 t)
  k_LETTERS : ∃ t, mg "LETTERS" = some (.str C_LETTERS t)
  k_WORDS : ∃ a, mg "WORDS" = some (.ref a) ∧ ∀ H : Hp, SqT K H a C_WORDS
  k_NAME_SIGNS : ∃ t, mg "NAME_SIGNS" = some (.str C_NAME_SIGNS t)
  k_MOST_ATOMS : ∃ t, mg "MOST_ATOMS" = some (.int 24 t)
  k_MOST_LEVELS : ∃ t, mg "MOST_LEVELS" = some (.int 12 t)
  k_OPS : ∃ a, mg "OPS" = some (.ref a) ∧ ∀ H : Hp, SqT K H a C_OPS
  k_MOST_VALUES : ∃ t, mg "MOST_VALUES" = some (.int 8 t)
  k_DIRECTIONS : ∃ a, mg "DIRECTIONS" = some (.ref a) ∧ ∀ H : Hp, SqT K H a C_DIRECTIONS
  k_MOST_PARTS : ∃ t, mg "MOST_PARTS" = some (.int 3 t)
  k_MOST_STEPS : ∃ t, mg "MOST_STEPS" = some (.int 5 t)
  k_STEP_SIZES : ∃ a, mg "STEP_SIZES" = some (.ref a) ∧ KDic K w a [("keep", 2), ("sort", 2), ("distinct", 2), ("first", 1), ("flip", 1)]
def signs : Str := Str.ofString " !\"#$&'()*+,-./0123456789:;<=>?@ABCDEFGHIJKLMNOPQRSTUVWXYZ[\\]^_`abcdefghijklmnopqrstuvwxyz{|}~"
/-! an atomic test -/
/-- what stands in a test, in the order in which it was put there -/
def tf (w : Str) (i f t : Addr) (n d : Int) : List (Str × V) := [("word", .str w), ("inner", .ref i), ("fields", .ref f), ("terms", .ref t), ("size", .int n), ("depth", .int d)]
theorem putF_new : ∀ {l : List (Str × V)} {k : Str} {v : V} (ks : List Str), l.map (·.1) = ks → k ∉ ks → putF k v l = l ++ [(k, v)]
  | [], k, v, _, _, _ => rfl
  | (a, b) :: r, k, v, _, rfl, hk => by
    have h1 : ¬ a = k := fun e => hk (by rw [e]; exact List.mem_cons_self)
    have h2 := putF_new (l := r) (k := k) (v := v) _ rfl (fun e => hk (List.mem_cons_of_mem _ e))
    show (if a = k then (a, v) :: r else (a, b) :: putF k v r) = _
    rw [if_neg h1, h2]
    rfl
theorem lt_put : ∀ {l : List (Str × V)} {k : Str} {v : V} {n : Nat}, l.length < n → (putF k v l).length < n + 1
  | [], k, v, n, h => Nat.succ_lt_succ h
  | (a, b) :: r, k, v, n, h => by
    show (if a = k then (a, v) :: r else (a, b) :: putF k v r).length < n + 1
    split
    · exact Nat.lt_succ_of_lt h
    · cases n with
      | zero => exact absurd h (Nat.not_lt_zero _)
      | succ n => exact Nat.succ_lt_succ (lt_put (Nat.lt_of_succ_lt_succ h))
structure AtomAt (C : Addr) (H : Hp) (p : Addr) (w : Str) (fs : List Str) (ts : List V) : Prop where
  ex : ∃ dx i f t, H p = some (.ins C dx (tf w i f t 1 0)) ∧ H i = some (.tup []) ∧ H f = some (.tup (fs.map V.str)) ∧ H t = some (.tup ts)
theorem AtomAt.keep {C : Addr} {H H' : Hp} {p : Addr} {w : Str} {fs : List Str} {ts : List V} (A : AtomAt C H p w fs ts) (k : ∀ q o, H q = some o → H' q = some o) : AtomAt C H' p w fs ts := by
  obtain ⟨dx, i, f, t, a, b, c, d⟩ := A.ex
  exact ⟨dx, i, f, t, k _ _ a, k _ _ b, k _ _ c, k _ _ d⟩
theorem tf_word {w : Str} {i f t : Addr} {n d : Int} : (tf w i f t n d).lookup ("word" : Str) = some (.str w) := by rfl
theorem tf_inner {w : Str} {i f t : Addr} {n d : Int} : (tf w i f t n d).lookup ("inner" : Str) = some (.ref i) := by rfl
theorem tf_fields {w : Str} {i f t : Addr} {n d : Int} : (tf w i f t n d).lookup ("fields" : Str) = some (.ref f) := by rfl
theorem tf_terms {w : Str} {i f t : Addr} {n d : Int} : (tf w i f t n d).lookup ("terms" : Str) = some (.ref t) := by rfl
theorem tf_size {w : Str} {i f t : Addr} {n d : Int} : (tf w i f t n d).lookup ("size" : Str) = some (.int n) := by rfl
theorem tf_depth {w : Str} {i f t : Addr} {n d : Int} : (tf w i f t n d).lookup ("depth" : Str) = some (.int d) := by rfl
theorem tf_atoms {w : Str} {i f t : Addr} {n d : Int} : (tf w i f t n d).lookup ("atoms" : Str) = none := by rfl
theorem tf_names {w : Str} {i f t : Addr} {n d : Int} : (tf w i f t n d).lookup ("names" : Str) = none := by rfl
theorem tf_truth {w : Str} {i f t : Addr} {n d : Int} : (tf w i f t n d).lookup ("truth" : Str) = none := by rfl
theorem upd2 {H : Hp} {p : Addr} {a b : HO} : upd (upd H p a) p b = upd H p b := by
  funext q
  by_cases h : q = p
  · subst h; rw [upd_same, upd_same]
  · rw [upd_ne h, upd_ne h, upd_ne h]
/-! tests as trees -/
inductive Ts where
  | at (w : Str) (fs : List Str) (ts : List V)
  | un (w : Str) (a : Ts)
  | bi (w : Str) (a b : Ts)
namespace Ts
def word : Ts → Str
  | .at w _ _ => w
  | .un w _ => w
  | .bi w _ _ => w
def kids : Ts → List Ts
  | .at _ _ _ => []
  | .un _ a => [a]
  | .bi _ a b => [a, b]
def flds : Ts → List Str
  | .at _ fs _ => fs
  | _ => []
def trms : Ts → List V
  | .at _ _ ts => ts
  | _ => []
def size : Ts → Nat
  | .at _ _ _ => 1
  | .un _ a => a.size
  | .bi _ a b => a.size + b.size
def depth : Ts → Nat
  | .at _ _ _ => 0
  | .un _ a => a.depth + 1
  | .bi _ a b => max a.depth b.depth + 1
def atoms : Ts → List Ts
  | .at w fs ts => [.at w fs ts]
  | .un _ a => a.atoms
  | .bi _ a b => a.atoms ++ b.atoms
theorem size_pos : ∀ t : Ts, 0 < t.size
  | .at _ _ _ => Nat.one_pos
  | .un _ a => a.size_pos
  | .bi _ a b => Nat.add_pos_left a.size_pos _
theorem atoms_len : ∀ t : Ts, t.atoms.length = t.size
  | .at _ _ _ => rfl
  | .un _ a => a.atoms_len
  | .bi _ a b => by
    show (a.atoms ++ b.atoms).length = a.size + b.size
    rw [List.length_append, a.atoms_len, b.atoms_len]
theorem kids_depth {t k : Ts} (h : k ∈ t.kids) : k.depth < t.depth := by
  cases t with
  | «at» w fs ts => exact nomatch h
  | un w a =>
    obtain rfl : k = a := by simpa [kids] using h
    exact Nat.lt_succ_self _
  | bi w a b =>
    have h : k = a ∨ k = b := by simpa [kids] using h
    show k.depth < max a.depth b.depth + 1
    rcases h with rfl | rfl <;> omega
theorem atoms_kids {t : Ts} (h : t.kids ≠ []) : t.atoms = t.kids.flatMap atoms := by
  cases t with
  | «at» w fs ts => exact absurd rfl h
  | un w a => simp [kids, atoms]
  | bi w a b => simp [kids, atoms]
theorem size_kids {t : Ts} (h : t.kids ≠ []) : t.size = (t.kids.map size).sum := by
  cases t with
  | «at» w fs ts => exact absurd rfl h
  | un w a => simp [kids, size]
  | bi w a b => simp [kids, size]
theorem kids_len (t : Ts) : t.kids.length ≤ 2 := by cases t <;> simp [kids]
end Ts
/-- the tests ts stand at the places qs, one by one -/
inductive Row (R : Ts → Addr → Prop) : List Ts → List Addr → Prop
  | nil : Row R [] []
  | cons {t : Ts} {q : Addr} {ts : List Ts} {qs : List Addr} (h : R t q) (r : Row R ts qs) : Row R (t :: ts) (q :: qs)
theorem Row.mono {R S : Ts → Addr → Prop} (h : ∀ t q, R t q → S t q) : ∀ {ts : List Ts} {qs : List Addr}, Row R ts qs → Row S ts qs
  | _, _, .nil => .nil
  | _, _, .cons a r => .cons (h _ _ a) (r.mono h)
theorem Row.len {R : Ts → Addr → Prop} : ∀ {ts : List Ts} {qs : List Addr}, Row R ts qs → qs.length = ts.length
  | _, _, .nil => rfl
  | _, _, .cons _ r => congrArg (· + 1) r.len
theorem Row.app {R : Ts → Addr → Prop} : ∀ {ts us : List Ts} {qs ps : List Addr}, Row R ts qs → Row R us ps → Row R (ts ++ us) (qs ++ ps)
  | _, _, _, _, .nil, s => s
  | _, _, _, _, .cons a r, s => .cons a (r.app s)
theorem Row.get {R : Ts → Addr → Prop} : ∀ {ts : List Ts} {qs : List Addr} {i : Nat} {q : Addr}, Row R ts qs → qs[i]? = some q → ∃ t, ts[i]? = some t ∧ R t q
  | _, _, i, _, .nil, h => by simp at h
  | _, _, 0, _, .cons a r, h => by
    simp at h
    subst h
    exact ⟨_, rfl, a⟩
  | _, _, i + 1, _, .cons a r, h => by
    simp at h
    obtain ⟨t, e, x⟩ := r.get h
    exact ⟨t, by simpa using e, x⟩
/-- a test stands at p -/
def TestAt (C : Addr) (H : Hp) : Ts → Addr → Prop
  | .at w fs ts, p => AtomAt C H p w fs ts
  | .un w a, p => ∃ dx i f t q, H p = some (.ins C dx (tf w i f t a.size (a.depth + 1 : Nat))) ∧ H i = some (.tup [.ref q]) ∧ H f = some (.tup []) ∧ H t = some (.tup []) ∧ TestAt C H a q
  | .bi w a b, p => ∃ dx i f t q r, H p = some (.ins C dx (tf w i f t (a.size + b.size : Nat) (max a.depth b.depth + 1 : Nat))) ∧ H i = some (.tup [.ref q, .ref r]) ∧ H f = some (.tup []) ∧ H t = some (.tup []) ∧ TestAt C H a q ∧ TestAt C H b r
theorem TestAt.keep {C : Addr} {H H' : Hp} (k : ∀ q o, H q = some o → H' q = some o) : ∀ {t : Ts} {p : Addr}, TestAt C H t p → TestAt C H' t p
  | .at _ _ _, _, h => AtomAt.keep h k
  | .un _ a, _, ⟨dx, i, f, t, q, h1, h2, h3, h4, h5⟩ => ⟨dx, i, f, t, q, k _ _ h1, k _ _ h2, k _ _ h3, k _ _ h4, TestAt.keep k h5⟩
  | .bi _ a b, _, ⟨dx, i, f, t, q, r, h1, h2, h3, h4, h5, h6⟩ => ⟨dx, i, f, t, q, r, k _ _ h1, k _ _ h2, k _ _ h3, k _ _ h4, TestAt.keep k h5, TestAt.keep k h6⟩
theorem tf_ne {w : Str} {i f t : Addr} {n d : Int} : tf w i f t n d ≠ [] := by unfold tf; exact List.cons_ne_nil _ _
theorem AtomAt.keepN {C : Addr} {H H' : Hp} {p q : Addr} {w : Str} {fs : List Str} {ts : List V} (k : ∀ b o, b ≠ p → H b = some o → H' b = some o) (n : ∀ o, H p = some o → (∀ dx l, o = .ins C dx l → l = []) ∧ ∀ l, o ≠ .tup l) (A : AtomAt C H q w fs ts) : AtomAt C H' q w fs ts := by
  obtain ⟨dx, i, f, t, a, b, c, d⟩ := A.ex
  have nt : ∀ {b : Addr} {l : List V}, H b = some (.tup l) → b ≠ p := fun h z => (n _ (by rw [← z]; exact h)).2 _ rfl
  exact ⟨dx, i, f, t, k _ _ (fun z => tf_ne ((n _ (by rw [← z]; exact a)).1 _ _ rfl)) a, k _ _ (nt b) b, k _ _ (nt c) c, k _ _ (nt d) d⟩
/-- a change at a place at which no test and no tuple stands -/
theorem TestAt.keepN {C : Addr} {H H' : Hp} {p : Addr} (k : ∀ b o, b ≠ p → H b = some o → H' b = some o) (n : ∀ o, H p = some o → (∀ dx l, o = .ins C dx l → l = []) ∧ ∀ l, o ≠ .tup l) : ∀ {t : Ts} {q : Addr}, TestAt C H t q → TestAt C H' t q
  | .at _ _ _, _, h => AtomAt.keepN k n h
  | .un _ a, _, ⟨dx, i, f, t, q, h1, h2, h3, h4, h5⟩ =>
    have nt : ∀ {b : Addr} {l : List V}, H b = some (.tup l) → b ≠ p := fun h z => (n _ (by rw [← z]; exact h)).2 _ rfl
    ⟨dx, i, f, t, q, k _ _ (fun z => tf_ne ((n _ (by rw [← z]; exact h1)).1 _ _ rfl)) h1, k _ _ (nt h2) h2, k _ _ (nt h3) h3, k _ _ (nt h4) h4, TestAt.keepN k n h5⟩
  | .bi _ a b, _, ⟨dx, i, f, t, q, r, h1, h2, h3, h4, h5, h6⟩ =>
    have nt : ∀ {b : Addr} {l : List V}, H b = some (.tup l) → b ≠ p := fun h z => (n _ (by rw [← z]; exact h)).2 _ rfl
    ⟨dx, i, f, t, q, r, k _ _ (fun z => tf_ne ((n _ (by rw [← z]; exact h1)).1 _ _ rfl)) h1, k _ _ (nt h2) h2, k _ _ (nt h3) h3, k _ _ (nt h4) h4, TestAt.keepN k n h5, TestAt.keepN k n h6⟩
/-- what stands at a test, of whatever form it is -/
theorem TestAt.node {C : Addr} {H : Hp} : ∀ {t : Ts} {p : Addr}, TestAt C H t p → ∃ dx i f u qs, H p = some (.ins C dx (tf t.word i f u t.size t.depth)) ∧ H i = some (.tup (qs.map V.ref)) ∧ H f = some (.tup (t.flds.map V.str)) ∧ H u = some (.tup t.trms) ∧ Row (TestAt C H) t.kids qs
  | .at _ _ _, _, h => by
    obtain ⟨dx, i, f, u, h1, h2, h3, h4⟩ := AtomAt.ex h
    exact ⟨dx, i, f, u, [], h1, h2, h3, h4, .nil⟩
  | .un _ a, _, ⟨dx, i, f, u, q, h1, h2, h3, h4, h5⟩ => ⟨dx, i, f, u, [q], h1, h2, h3, h4, .cons h5 .nil⟩
  | .bi _ a b, _, ⟨dx, i, f, u, q, r, h1, h2, h3, h4, h5, h6⟩ => ⟨dx, i, f, u, [q, r], h1, h2, h3, h4, .cons h5 (.cons h6 .nil)⟩
/-- the test of a word and its parts -/
def mkT (w : Str) (fs : List Str) (ts : List V) : List Ts → Ts
  | [] => .at w fs ts
  | [a] => .un w a
  | a :: b :: _ => .bi w a b
def sizeK (ks : List Ts) : Nat := if ks = [] then 1 else (ks.map Ts.size).sum
def depthK (ks : List Ts) : Nat := ks.foldl (fun d k => if d ≤ k.depth then k.depth + 1 else d) 0
def spSizeK (C : Addr) : Sp := fun vs H Q _ => ∃ (i : Addr) (ks : List Ts) (qs : List Addr), vs = [.ref i] ∧ H i = some (.tup (qs.map V.ref)) ∧ Row (TestAt C H) ks qs ∧ ks.length ≤ 1000 ∧ ∀ H', (∀ q o, H q = some o → H' q = some o) → Q (.int (sizeK ks : Nat)) H'
def spDepthK (C : Addr) : Sp := fun vs H Q _ => ∃ (i : Addr) (ks : List Ts) (qs : List Addr), vs = [.ref i] ∧ H i = some (.tup (qs.map V.ref)) ∧ Row (TestAt C H) ks qs ∧ Q (.int (depthK ks : Nat)) H
section
variable {P : Program} {w : World} {K : PySem.W.Frag} {mg : Str → Option Value} {base : Heap}
theorem ok_size_of (T : TxtW w K mg) : Def P w K mg base 1 "size_of" ["inner"] (spSizeK (cadr mg "Test")) := by
  obtain ⟨f, fd, h⟩ := T.d_size_of
  refine h.def (Fun.okM h.fn sc_size_of (fun vs H Q E h => ?_) (fun cdv A outer s H vs Q E hr h => ?_))
  · obtain ⟨i, ks, qs, rfl, _⟩ := h
    rfl
  · obtain ⟨i, ks, qs, rfl, hi, hR, hl, k⟩ := h
    refine ⟨_, (pss_cons (ps_if (pt_cmpR op_eq (pe_callB (call_lenG (K := K) rfl) (by rfl) T.h_len (by decide +kernel) (pa_cons (pv 0) pa_nil)) pe_int (nomark _))
  (pss_one (ps_ret pe_int))
  pss_nil)
  (pss_one (ps_ret (pe_callB (cr_sum rfl) (by rfl) T.h_sum (by decide +kernel) (pa_cons (pe_lc (own := [("part", 1)]) rfl sc_size_of.nd (pi_tupG (K := K) rfl (pv 0)) (blkOk_by (N := N_size_of) (sc := defScope S_size_of) (by decide +kernel)) (fun _ _ _ _ _ => pg_name (i := 1) sc_size_of.nd rfl (Or.inl rfl)) (fun _ _ _ _ _ => pts_nil) (fun _ _ _ _ _ => (pe_fldG (K := K) rfl (pv 1) rfl))) pa_nil))))), ?_⟩
    have hlen := hR.len
    walk_at "g"
    refine g_lenT (SqT.of hi) ?_
    walk_at "g"
    refine g_dec (fun h0 => ?_) (fun h0 => ?_)
    · walk_at "g"
      have e : ks = [] := List.length_eq_zero_iff.mp (by rw [List.length_map] at h0; omega)
      have := k H fun _ _ h => h
      rw [show (sizeK ks : Nat) = 1 by unfold sizeK; rw [if_pos e]] at this
      exact this
    · walk_at "g"
      have ne : ks ≠ [] := fun e => h0 (by rw [e] at hlen; rw [List.length_map, hlen]; rfl)
      refine ⟨i, rfl, ⟨_, SqT.of hi⟩, fun D hD => ?_⟩
      refine lc_tup (K := K) (a := i) (xs := qs.map V.ref) (fun j H' => H' D = some (.lst ((((ks.take j).map Ts.size).map fun n : Nat => (n : Int)).map V.int)) ∧ ∀ q o, H q = some o → H' q = some o) ⟨upd_same, fun q o h => by rw [upd_ne (ne_of_none h hD)]; exact h⟩ (fun j H' _ p => SqT.of (p.2 _ _ hi)) ?_ ?_
      · rintro j x H2 hj ⟨hD2, k2⟩
        have hj2 : j < ks.length := by
          have := (List.getElem?_eq_some_iff.mp hj).1
          rw [List.length_map] at this; omega
        rw [List.getElem?_map] at hj
        obtain ⟨q, hq, rfl⟩ := Option.map_eq_some_iff.mp hj
        obtain ⟨t, ht, A⟩ := hR.get hq
        obtain ⟨dx, i1, f1, u1, qs1, hp, _⟩ := A.node
        walk_at "g"
        refine ⟨rfl, ?_⟩
        walk_at "g"
        refine ⟨q, _, dx, _, _, rfl, k2 _ _ hp, T.cl_Test, T.n_Test_size, tf_size, ?_⟩
        refine ⟨_, hD2, ?_, ?_, fun q o h => by rw [upd_ne (ne_of_none h hD)]; exact k2 q o h⟩
        · rw [List.length_map, List.length_map, List.length_map, List.length_take, sizeLine_eq]; omega
        · rw [upd_same, List.take_succ, ht, List.map_append, List.map_append, List.map_append]; rfl
      · rintro H2 ⟨hD2, k2⟩
        walk_at "g"
        rw [List.length_map, hlen, List.take_length] at hD2
        refine ⟨D, _, rfl, SqL.of hD2, ?_⟩
        have hsum : (((ks.map Ts.size).map fun n : Nat => (n : Int))).sum = ((sizeK ks : Nat) : Int) := by
          unfold sizeK
          rw [if_neg ne]
          generalize ks.map Ts.size = l
          induction l with
          | nil => rfl
          | cons a l ih => rw [List.map_cons, List.sum_cons, List.sum_cons, ih]; omega
        rw [hsum]
        walk_at "g"
        exact k _ k2
theorem ok_depth_of (T : TxtW w K mg) : Def P w K mg base 1 "depth_of" ["inner"] (spDepthK (cadr mg "Test")) := by
  obtain ⟨f, fd, h⟩ := T.d_depth_of
  refine h.def (Fun.okM h.fn sc_depth_of (fun vs H Q E h => ?_) (fun cdv A outer s H vs Q E hr h => ?_))
  · obtain ⟨i, ks, qs, rfl, _⟩ := h
    rfl
  · obtain ⟨i, ks, qs, rfl, hi, hR, k⟩ := h
    refine ⟨_, (pss_cons (ps_set (i := 1) sc_depth_of.nd rfl (Or.inl rfl) pe_int)
  (pss_cons (ps_for PassesOwn.never rfl (pi_tupG (K := K) rfl (pv 0)) (pg_name (i := 2) sc_depth_of.nd rfl (Or.inl rfl))
  (pss_one (ps_if (pt_cmpR op_geG (pe_fldG (K := K) rfl (pv 2) rfl) (pv 1) (nomark _))
  (pss_one (ps_set (i := 1) sc_depth_of.nd rfl (Or.inl rfl) (pe_op op_addG (pe_fldG (K := K) rfl (pv 2) rfl) pe_int)))
  pss_nil)))
  (pss_one (ps_ret (pv 1))))), ?_⟩
    have hlen := hR.len
    walk_at "g"
    refine ⟨i, rfl, ⟨_, SqT.of hi⟩, for_tupA (xs := qs.map V.ref) (fun j σ' H' => H' = H ∧ ∃ v, σ' = [some (.ref i), some (.int (depthK (ks.take j) : Nat)), v]) ⟨rfl, none, rfl⟩ (fun _ _ _ _ e => by rw [e.1]; exact SqT.of hi) ?_ ?_⟩
    · rintro j x σ' H2 D' hj ⟨rfl, v, rfl⟩ hnx hct hbk hrt
      rw [List.getElem?_map] at hj
      obtain ⟨q, hq, rfl⟩ := Option.map_eq_some_iff.mp hj
      obtain ⟨t, ht, A⟩ := hR.get hq
      obtain ⟨dx, i1, f1, u1, qs1, hp, _⟩ := A.node
      have e1 : depthK (ks.take (j + 1)) = if depthK (ks.take j) ≤ t.depth then t.depth + 1 else depthK (ks.take j) := by
        unfold depthK
        rw [List.take_succ, ht, List.foldl_append]
        rfl
      walk_at "g"
      refine ⟨q, _, dx, _, _, rfl, hp, T.cl_Test, T.n_Test_depth, tf_depth, ?_⟩
      walk_at "g"
      refine g_dec (fun hle => ?_) (fun hle => ?_)
      · walk_at "g"
        refine ⟨q, _, dx, _, _, rfl, hp, T.cl_Test, T.n_Test_depth, tf_depth, ?_⟩
        walk_at "g"
        refine hnx _ _ ⟨rfl, some (.ref q), ?_⟩
        rw [e1, if_pos (by omega)]
        rfl
      · walk_at "g"
        refine hnx _ _ ⟨rfl, some (.ref q), ?_⟩
        rw [e1, if_neg (by omega)]
        rfl
    · rintro σ' H2 ⟨rfl, v, rfl⟩
      walk_at "g"
      rw [List.length_map, hlen, List.take_length]
      exact k
/-- the maker of a test: word, parts, columns, terms -/
theorem ok_Test_init (T : TxtW w K mg) : DefC P w K mg base 2 (cadr mg "Test") ["self", "word", "inner", "fields", "terms"] (fun vs H Q _ => ∃ (p dx i f t : Addr) (w : Str) (ks : List Ts) (qs : List Addr), vs = [.ref p, .str w, .ref i, .ref f, .ref t] ∧ H p = some (.ins (cadr mg "Test") dx []) ∧
    H i = some (.tup (qs.map V.ref)) ∧ Row (TestAt (cadr mg "Test") H) ks qs ∧ ks.length ≤ 1000 ∧
    ∀ H', (∀ q o, q ≠ p → H q = some o → H' q = some o) → H' p = some (.ins (cadr mg "Test") dx (tf w i f t (sizeK ks : Nat) (depthK ks : Nat))) → Q .non H') := by
  obtain ⟨f, fd, h⟩ := T.d_Test_init
  refine h.def (Fun.okM h.fn sc_Test_init (fun vs H Q E h => ?_) (fun cdv A outer s H vs Q E hr h => ?_))
  · obtain ⟨p, dx, i, f, t, w, ks, qs, rfl, _⟩ := h
    rfl
  · obtain ⟨p, dx, i, f, t, w, ks, qs, rfl, hp, hi, hR, hl, k⟩ := h
    refine ⟨_, (pss_cons (ps_fld (pv 0) (pv 1) rfl)
  (pss_cons (ps_fld (pv 0) (pv 2) rfl)
  (pss_cons (ps_fld (pv 0) (pv 3) rfl)
  (pss_cons (ps_fld (pv 0) (pv 4) rfl)
  (pss_cons (ps_fld (pv 0) (pe_def (ok_size_of T) hr rfl (pa_cons (pv 2) pa_nil)) rfl)
  (pss_one (ps_fld (pv 0) (pe_def (ok_depth_of T) hr rfl (pa_cons (pv 2) pa_nil)) rfl))))))), ?_⟩
    have hip : i ≠ p := ne_of hi hp (by intro z; cases z)
    -- none of the tests that stand is the one that is made
    have other : ∀ {l : List (Str × V)} {u : Ts} {q : Addr}, TestAt (cadr mg "Test") H u q → TestAt (cadr mg "Test") (upd H p (.ins (cadr mg "Test") dx l)) u q := fun {l u q} h => by
      refine TestAt.keepN (p := p) (fun b o hb e => by rw [upd_ne hb]; exact e) (fun o e => ?_) h
      rw [hp] at e
      injection e with e
      subst e
      exact ⟨fun _ l z => by injection z with _ _ z; exact z.symm, fun l z => nomatch z⟩
    walk_at "g"
    refine ⟨p, _, dx, _, rfl, hp, T.cl_Test, T.n_Test_word, (by repeat (first | (with_reducible refine lt_put ?_) | decide)), ?_⟩
    walk_at "g"
    refine ⟨p, _, dx, _, rfl, upd_same, T.cl_Test, T.n_Test_inner, (by repeat (first | (with_reducible refine lt_put ?_) | decide)), ?_⟩
    rw [upd2]
    walk_at "g"
    refine ⟨p, _, dx, _, rfl, upd_same, T.cl_Test, T.n_Test_fields, (by repeat (first | (with_reducible refine lt_put ?_) | decide)), ?_⟩
    rw [upd2]
    walk_at "g"
    refine ⟨p, _, dx, _, rfl, upd_same, T.cl_Test, T.n_Test_terms, (by repeat (first | (with_reducible refine lt_put ?_) | decide)), ?_⟩
    rw [upd2]
    walk_at "g"
    refine ⟨i, ks, qs, rfl, by rw [upd_ne hip]; exact hi, hR.mono fun _ _ h => other h, hl, fun H2 k2 => ?_⟩
    have hp2 := k2 _ _ upd_same
    walk_at "g"
    refine ⟨p, _, dx, _, rfl, hp2, T.cl_Test, T.n_Test_size, (by repeat (first | (with_reducible refine lt_put ?_) | decide)), ?_⟩
    walk_at "g"
    have keepP : ∀ {l : List (Str × V)} {u : Ts} {q : Addr}, TestAt (cadr mg "Test") H u q → TestAt (cadr mg "Test") (upd H2 p (.ins (cadr mg "Test") dx l)) u q := fun {l u q} h => by
      refine TestAt.keepN (p := p) (fun b o hb e => by rw [upd_ne hb]; exact k2 _ _ (by rw [upd_ne hb]; exact e)) (fun o e => ?_) h
      rw [hp] at e
      injection e with e
      subst e
      exact ⟨fun _ l z => by injection z with _ _ z; exact z.symm, fun l z => nomatch z⟩
    refine ⟨i, ks, qs, rfl, ?_, hR.mono fun _ _ h => keepP h, ?_⟩
    · rw [upd_ne hip]
      exact k2 _ _ (by rw [upd_ne hip]; exact hi)
    walk_at "g"
    refine ⟨p, _, dx, _, rfl, upd_same, T.cl_Test, T.n_Test_depth, (by repeat (first | (with_reducible refine lt_put ?_) | decide)), ?_⟩
    rw [upd2]
    walk_at "g"
    refine k _ (fun q o hq e => ?_) upd_same
    rw [upd_ne hq]
    exact k2 _ _ (by rw [upd_ne hq]; exact e)
end
/-- the places of the atomic tests of a test, from the left -/
def TestAs (C : Addr) (H : Hp) : Ts → Addr → List Addr → Prop
  | .at w fs ts, p, as => AtomAt C H p w fs ts ∧ as = [p]
  | .un w a, p, as => ∃ dx i f t q, H p = some (.ins C dx (tf w i f t a.size (a.depth + 1 : Nat))) ∧ H i = some (.tup [.ref q]) ∧ H f = some (.tup []) ∧ H t = some (.tup []) ∧ TestAs C H a q as
  | .bi w a b, p, as => ∃ dx i f t q r xs ys, H p = some (.ins C dx (tf w i f t (a.size + b.size : Nat) (max a.depth b.depth + 1 : Nat))) ∧ H i = some (.tup [.ref q, .ref r]) ∧ H f = some (.tup []) ∧ H t = some (.tup []) ∧ TestAs C H a q xs ∧ TestAs C H b r ys ∧ as = xs ++ ys
theorem TestAs.keep {C : Addr} {H H' : Hp} (k : ∀ q o, H q = some o → H' q = some o) : ∀ {t : Ts} {p : Addr} {as : List Addr}, TestAs C H t p as → TestAs C H' t p as
  | .at _ _ _, _, _, h => ⟨AtomAt.keep h.1 k, h.2⟩
  | .un _ a, _, _, ⟨dx, i, f, t, q, h1, h2, h3, h4, h5⟩ => ⟨dx, i, f, t, q, k _ _ h1, k _ _ h2, k _ _ h3, k _ _ h4, TestAs.keep k h5⟩
  | .bi _ a b, _, _, ⟨dx, i, f, t, q, r, xs, ys, h1, h2, h3, h4, h5, h6, e⟩ => ⟨dx, i, f, t, q, r, xs, ys, k _ _ h1, k _ _ h2, k _ _ h3, k _ _ h4, TestAs.keep k h5, TestAs.keep k h6, e⟩
theorem TestAt.as {C : Addr} {H : Hp} : ∀ {t : Ts} {p : Addr}, TestAt C H t p → ∃ as, TestAs C H t p as
  | .at _ _ _, p, h => ⟨[p], h, rfl⟩
  | .un _ a, _, ⟨dx, i, f, t, q, h1, h2, h3, h4, h5⟩ =>
    let ⟨as, h⟩ := TestAt.as h5
    ⟨as, dx, i, f, t, q, h1, h2, h3, h4, h⟩
  | .bi _ a b, _, ⟨dx, i, f, t, q, r, h1, h2, h3, h4, h5, h6⟩ =>
    let ⟨xs, x⟩ := TestAt.as h5
    let ⟨ys, y⟩ := TestAt.as h6
    ⟨xs ++ ys, dx, i, f, t, q, r, xs, ys, h1, h2, h3, h4, x, y, rfl⟩
theorem TestAs.row {C : Addr} {H : Hp} : ∀ {t : Ts} {p : Addr} {as : List Addr}, TestAs C H t p as → Row (TestAt C H) t.atoms as
  | .at _ _ _, _, _, ⟨h, e⟩ => by subst e; exact .cons h .nil
  | .un _ a, _, _, h => by
    obtain ⟨_, _, _, _, _, _, _, _, _, h5⟩ := h
    exact TestAs.row (t := a) h5
  | .bi _ a b, _, _, h => by
    obtain ⟨_, _, _, _, _, _, _, _, _, _, _, _, h5, h6, e⟩ := h
    subst e
    exact (TestAs.row (t := a) h5).app (TestAs.row (t := b) h6)
/-- parts, their places, the places of their atomic tests -/
inductive Row3 (R : Ts → Addr → List Addr → Prop) : List Ts → List Addr → List (List Addr) → Prop
  | nil : Row3 R [] [] []
  | cons {t : Ts} {q : Addr} {as : List Addr} {ts : List Ts} {qs : List Addr} {ass : List (List Addr)} (h : R t q as) (r : Row3 R ts qs ass) : Row3 R (t :: ts) (q :: qs) (as :: ass)
theorem Row3.len {R : Ts → Addr → List Addr → Prop} : ∀ {ts : List Ts} {qs : List Addr} {ass : List (List Addr)}, Row3 R ts qs ass → qs.length = ts.length ∧ ass.length = ts.length
  | _, _, _, .nil => ⟨rfl, rfl⟩
  | _, _, _, .cons _ r => ⟨congrArg (· + 1) r.len.1, congrArg (· + 1) r.len.2⟩
theorem Row3.get {R : Ts → Addr → List Addr → Prop} : ∀ {ts : List Ts} {qs : List Addr} {ass : List (List Addr)} {i : Nat} {q : Addr}, Row3 R ts qs ass → qs[i]? = some q → ∃ t as, ts[i]? = some t ∧ ass[i]? = some as ∧ R t q as
  | _, _, _, i, _, .nil, h => by simp at h
  | _, _, _, 0, _, .cons a r, h => by
    simp at h
    subst h
    exact ⟨_, _, rfl, rfl, a⟩
  | _, _, _, i + 1, _, .cons a r, h => by
    simp at h
    obtain ⟨t, as, e1, e2, x⟩ := r.get h
    exact ⟨t, as, by simpa using e1, by simpa using e2, x⟩
theorem TestAs.node {C : Addr} {H : Hp} : ∀ {t : Ts} {p : Addr} {as : List Addr}, TestAs C H t p as → ∃ dx i f u qs ass, H p = some (.ins C dx (tf t.word i f u t.size t.depth)) ∧ H i = some (.tup (qs.map V.ref)) ∧ H f = some (.tup (t.flds.map V.str)) ∧ H u = some (.tup t.trms) ∧
    Row3 (TestAs C H) t.kids qs ass ∧ (t.kids = [] → as = [p]) ∧ (t.kids ≠ [] → as = ass.flatten)
  | .at _ _ _, _, _, ⟨h, e⟩ => by
    obtain ⟨dx, i, f, u, h1, h2, h3, h4⟩ := h.ex
    exact ⟨dx, i, f, u, [], [], h1, h2, h3, h4, .nil, fun _ => e, fun n => absurd rfl n⟩
  | .un _ a, _, as, ⟨dx, i, f, u, q, h1, h2, h3, h4, h5⟩ => ⟨dx, i, f, u, [q], [as], h1, h2, h3, h4, .cons h5 .nil, (fun e => nomatch e), fun _ => by simp⟩
  | .bi _ a b, _, as, ⟨dx, i, f, u, q, r, xs, ys, h1, h2, h3, h4, h5, h6, e⟩ => ⟨dx, i, f, u, [q, r], [xs, ys], h1, h2, h3, h4, .cons h5 (.cons h6 .nil), (fun e => nomatch e), fun _ => by simp [e]⟩
def spAtoms (C : Addr) (n : Nat) : Sp := fun vs H Q _ => ∃ (p : Addr) (t : Ts) (as : List Addr), vs = [.ref p] ∧ TestAs C H t p as ∧ t.depth ≤ n ∧ t.size ≤ 1000 ∧ ∀ l H', H l = none → (∀ q o, H q = some o → H' q = some o) → H' l = some (.lst (as.map V.ref)) → Q (.ref l) H'
theorem kid_size {t k : Ts} (h : k ∈ t.kids) : k.size ≤ t.size := by
  cases t with
  | «at» w fs ts => exact nomatch h
  | un w a =>
    obtain rfl : k = a := by simpa [Ts.kids] using h
    exact Nat.le_refl _
  | bi w a b =>
    have h : k = a ∨ k = b := by simpa [Ts.kids] using h
    show k.size ≤ a.size + b.size
    rcases h with rfl | rfl <;> omega
section
variable {P : Program} {w : World} {K : PySem.W.Frag} {mg : Str → Option Value} {base : Heap}
end
theorem mkT_size {w : Str} {ks : List Ts} (h : ks.length ≤ 2) : (mkT w [] [] ks).size = sizeK ks := by
  match ks, h with
  | [], _ => rfl
  | [a], _ => simp [mkT, sizeK, Ts.size]
  | [a, b], _ => simp [mkT, sizeK, Ts.size]
theorem mkT_depth {w : Str} {ks : List Ts} (h : ks.length ≤ 2) : (mkT w [] [] ks).depth = depthK ks := by
  match ks, h with
  | [], _ => rfl
  | [a], _ => simp [mkT, depthK, Ts.depth]
  | [a, b], _ =>
    show max a.depth b.depth + 1 = _
    simp only [depthK, List.foldl_cons, List.foldl_nil, Nat.zero_le, if_true]
    split <;> omega
/-- a test stands where its word, its parts and their places do -/
theorem TestAt.made {C : Addr} {H : Hp} {p dx i f u : Addr} {w : Str} {ks : List Ts} {qs : List Addr} (hl : ks.length ≤ 2) (hp : H p = some (.ins C dx (tf w i f u (sizeK ks : Nat) (depthK ks : Nat)))) (hi : H i = some (.tup (qs.map V.ref))) (hf : H f = some (.tup [])) (hu : H u = some (.tup [])) (hR : Row (TestAt C H) ks qs) : TestAt C H (mkT w [] [] ks) p := by
  match ks, qs, hl, hR with
  | [], [], _, _ => exact ⟨dx, i, f, u, hp, hi, hf, hu⟩
  | [a], [q], _, .cons ha .nil => exact ⟨dx, i, f, u, q, by rw [hp]; simp [sizeK, depthK], hi, hf, hu, ha⟩
  | [a, b], [q, r], hl, .cons ha (.cons hb .nil) =>
    have e1 := mkT_size (w := w) hl
    have e2 := mkT_depth (w := w) hl
    refine ⟨dx, i, f, u, q, r, ?_, hi, hf, hu, ha, hb⟩
    rw [hp, ← e1, ← e2]
    rfl
/-- a thing's kind -/
inductive TyOf7 (H : Hp) : V → String → Prop
  | non : TyOf7 H .non "NoneType"
  | bl (b : Bool) : TyOf7 H (.bl b) "bool"
  | int (i : Int) : TyOf7 H (.int i) "int"
  | str (z : Str) : TyOf7 H (.str z) "str"
  | lst {p : Addr} {xs : List V} (h : H p = some (.lst xs)) : TyOf7 H (.ref p) "list"
  | tup {p : Addr} {xs : List V} (h : H p = some (.tup xs)) : TyOf7 H (.ref p) "tuple"
  | dct {p : Addr} {kvs : List (Key × V)} (h : H p = some (.dK kvs)) : TyOf7 H (.ref p) "dict"
theorem TyOf7.x {H : Hp} {v : V} {T : String} (h : TyOf7 H v T) (K : PySem.W.Frag) : TyX K H v (.type T) := by
  cases h with
  | non => exact .base .non
  | bl b => exact .base (.bl b)
  | int i => exact .base (.int i)
  | str z => exact .base (.str z)
  | lst h => exact .base (.lst h)
  | tup h => exact .base (.tup h)
  | dct h => exact .base (.dK h)
def xwhy (s : Str) : HO := .xd [(("why" : Str), .str s)]
/-- what combined, and what leads to it, does: a test, or one of two errors -/
def Outc (C CB : Addr) (t : Ts) (H : Hp) (Q : VK) (E : XK) : Prop :=
  (24 < t.size → ∀ d H', (∀ q o, H q = some o → H' q = some o) → H' d = some (xwhy "large") → E (.ref CB) (some d) H') ∧
  (t.size ≤ 24 → 12 < t.depth → ∀ d H', (∀ q o, H q = some o → H' q = some o) → H' d = some (xwhy "deep") → E (.ref CB) (some d) H') ∧
  (t.size ≤ 24 → t.depth ≤ 12 → ∀ p H', (∀ q o, H q = some o → H' q = some o) → TestAt C H' t p → Q (.ref p) H')
def spComb (C CB : Addr) : Sp := fun vs H Q E => ∃ (w : Str) (i : Addr) (ks : List Ts) (qs : List Addr), vs = [.str w, .ref i] ∧ H i = some (.tup (qs.map V.ref)) ∧ Row (TestAt C H) ks qs ∧ ks.length ≤ 2 ∧ Outc C CB (mkT w [] [] ks) H Q E
section
variable {P : Program} {w : World} {K : PySem.W.Frag} {mg : Str → Option Value} {base : Heap}
theorem ok_combined (T : TxtW w K mg) : DefX P w K mg base 4 "combined" ["word", "inner"] (spComb (cadr mg "Test") (cadr mg "BadTest")) := by
  obtain ⟨f, fd, h⟩ := T.d_combined
  obtain ⟨t_MOST_ATOMS, G_MOST_ATOMS⟩ := T.k_MOST_ATOMS
  obtain ⟨t_MOST_LEVELS, G_MOST_LEVELS⟩ := T.k_MOST_LEVELS
  obtain ⟨fE_BadTest, EB_BadTest⟩ := T.x_BadTest
  refine h.defX (Fun.okMX h.fn sc_combined (fun vs H Q E h => ?_) (fun cdv A outer s H vs Q E hr h => ?_))
  · obtain ⟨w, i, ks, qs, rfl, _⟩ := h
    rfl
  · obtain ⟨w, i, ks, qs, rfl, hi, hR, hl, kL, kD, kO⟩ := h
    refine ⟨_, (pss_cons (ps_set (i := 2) sc_combined.nd rfl (Or.inl rfl) (pe_new (ok_Test_init T) hr rfl T.e_Test (pa_cons (pv 0) (pa_cons (pv 1) (pa_cons (pe_tup pa_nil) (pa_cons (pe_tup pa_nil) pa_nil))))))
  (pss_cons (ps_if (pt_cmpR op_gtG (pe_fldG (K := K) rfl (pv 2) rfl) (pe_glob (v := .int 24) rfl G_MOST_ATOMS ⟨_, rfl⟩) (nomark _))
  (pss_one (ps_raiseBadTest rfl EB_BadTest hr (takes_of rfl rfl rfl rfl) (pa_cons pe_str pa_nil)))
  pss_nil)
  (pss_cons (ps_if (pt_cmpR op_gtG (pe_fldG (K := K) rfl (pv 2) rfl) (pe_glob (v := .int 12) rfl G_MOST_LEVELS ⟨_, rfl⟩) (nomark _))
  (pss_one (ps_raiseBadTest rfl EB_BadTest hr (takes_of rfl rfl rfl rfl) (pa_cons pe_str pa_nil)))
  pss_nil)
  (pss_one (ps_ret (pv 2)))))), ?_⟩
    walk_at "g"
    refine ⟨Nat.zero_le _, fun f hf => ?_⟩
    walk_at "g"
    refine ⟨Nat.zero_le _, fun u hu => ?_⟩
    walk_at "g"
    intro x dx hx hdx hne
    have kf : ∀ q o, H q = some o → (upd H f (.tup [])) q = some o := fun q o h => by rw [upd_ne (ne_of_none h hf)]; exact h
    have ku : ∀ q o, (upd H f (.tup [])) q = some o → (upd (upd H f (.tup [])) u (.tup [])) q = some o := fun q o h => by rw [upd_ne (ne_of_none h hu)]; exact h
    have kx : ∀ q o, (upd (upd H f (.tup [])) u (.tup [])) q = some o → (upd (upd (upd (upd H f (.tup [])) u (.tup [])) dx (.own x)) x (.ins (cadr mg "Test") dx [])) q = some o := fun q o h => by
      rw [upd_ne (ne_of_none h hx), upd_ne (ne_of_none h hdx)]; exact h
    have k0 : ∀ q o, H q = some o → (upd (upd (upd (upd H f (.tup [])) u (.tup [])) dx (.own x)) x (.ins (cadr mg "Test") dx [])) q = some o := fun q o h => kx _ _ (ku _ _ (kf _ _ h))
    refine ⟨x, dx, i, f, u, w, ks, qs, rfl, upd_same, k0 _ _ hi, hR.mono fun _ _ h => h.keep k0, by omega, fun H2 k2 h2 => ⟨rfl, ?_⟩⟩
    have hHx : H x = none := by
      cases e : H x with
      | none => rfl
      | some o => rw [ku _ _ (kf _ _ e)] at hx; cases hx
    have kk : ∀ q o, H q = some o → H2 q = some o := fun q o h => k2 _ _ (ne_of_none h hHx) (k0 _ _ h)
    have hf2 : H2 f = some (.tup []) := k2 _ _ (fun z => by rw [← z, ku _ _ upd_same] at hx; cases hx) (kx _ _ (ku _ _ upd_same))
    have hu2 : H2 u = some (.tup []) := k2 _ _ (fun z => by rw [← z, upd_same] at hx; cases hx) (kx _ _ upd_same)
    have A2 : TestAt (cadr mg "Test") H2 (mkT w [] [] ks) x := TestAt.made hl h2 (kk _ _ hi) hf2 hu2 (hR.mono fun _ _ h => h.keep kk)
    have es := mkT_size (w := w) hl
    have ed := mkT_depth (w := w) hl
    walk_at "g"
    refine ⟨x, _, dx, _, _, rfl, h2, T.cl_Test, T.n_Test_size, tf_size, ?_⟩
    walk_at "g"
    refine g_dec (fun h24 => ?_) (fun h24 => ?_)
    · walk_at "g"
      exact ⟨_, rfl, fun d hd => kL (by omega) d _ (fun q o h => by rw [upd_ne (ne_of_none (kk q o h) hd)]; exact kk q o h) upd_same⟩
    · walk_at "g"
      refine ⟨x, _, dx, _, _, rfl, h2, T.cl_Test, T.n_Test_depth, tf_depth, ?_⟩
      walk_at "g"
      refine g_dec (fun h12 => ?_) (fun h12 => ?_)
      · walk_at "g"
        exact ⟨_, rfl, fun d hd => kD (by omega) (by omega) d _ (fun q o h => by rw [upd_ne (ne_of_none (kk q o h) hd)]; exact kk q o h) upd_same⟩
      · walk_at "g"
        exact kO (by omega) (by omega) x H2 kk A2
/-- a & b, a | b: a thing that is no test is refused -/
def spOp (C CB : Addr) (w : Str) : Sp := fun vs H Q E => ∃ (p : Addr) (a : Ts) (y : V), vs = [.ref p, y] ∧ TestAt C H a p ∧
  ((∃ (q : Addr) (b : Ts), y = .ref q ∧ TestAt C H b q ∧ Outc C CB (.bi w a b) H Q E) ∨ ((∃ T, T ∈ kinds7 ∧ TyOf7 H y T) ∧ ∀ d H', (∀ q o, H q = some o → H' q = some o) → H' d = some (xwhy "part") → E (.ref CB) (some d) H'))
theorem ok_Test_and (T : TxtW w K mg) : DefMX P w K mg base 5 (cadr mg "Test") "__and__" ["self", "other"] (spOp (cadr mg "Test") (cadr mg "BadTest") "and") := by
  obtain ⟨f, fd, h⟩ := T.d_Test_and
  obtain ⟨fE_BadTest, EB_BadTest⟩ := T.x_BadTest
  refine h.defX (Fun.okMX h.fn sc_Test_and (fun vs H Q E h => ?_) (fun cdv A outer s H vs Q E hr h => ?_))
  · obtain ⟨p, a, y, rfl, _⟩ := h
    rfl
  · obtain ⟨p, a, y, rfl, ha, h⟩ := h
    obtain ⟨dx, i1, f1, u1, qs1, hp, _⟩ := ha.node
    refine ⟨_, (pss_cons (ps_if (pt_not (pt_val (pe_callB (call_isiG (K := K) rfl) (by rfl) T.h_isinstance (by decide +kernel) (pa_cons (pv 1) (pa_cons (pe_cls rfl T.e_Test) pa_nil)))))
  (pss_one (ps_raiseBadTest rfl EB_BadTest hr (takes_of rfl rfl rfl rfl) (pa_cons pe_str pa_nil)))
  pss_nil)
  (pss_one (ps_ret (pe_defX (takes_of rfl rfl rfl rfl) (ok_combined T) hr rfl (pa_cons pe_str (pa_cons (pe_tup (pa_cons (pv 0) (pa_cons (pv 1) pa_nil))) pa_nil)))))), ?_⟩
    rcases h with ⟨q, b, rfl, hb, hO⟩ | ⟨⟨Tn, hT, ty⟩, hE⟩
    · obtain ⟨dx2, i2, f2, u2, qs2, hq, _⟩ := hb.node
      walk_at "g"
      refine g_isOwn T.is_Test T.cl_Test hq ?_
      walk_at "g"
      refine ⟨by show 2 ≤ sizeLine; decide, fun t ht => ?_⟩
      have kt : ∀ r o, H r = some o → (upd H t (.tup [.ref p, .ref q])) r = some o := fun r o h => by rw [upd_ne (ne_of_none h ht)]; exact h
      walk_at "g"
      refine ⟨"and", t, [a, b], [p, q], rfl, upd_same, .cons (ha.keep kt) (.cons (hb.keep kt) .nil), Nat.le_refl _, fun h d H' k e => hO.1 h d H' (fun r o h => k r o (kt r o h)) e, fun h1 h2 d H' k e => hO.2.1 h1 h2 d H' (fun r o h => k r o (kt r o h)) e, fun h1 h2 r H' k A => ?_⟩
      walk_at "g"
      exact hO.2.2 h1 h2 r H' (fun r o h => k r o (kt r o h)) A
    · walk_at "g"
      refine g_isNot T.is_Test (ty.x K) hT ?_
      walk_at "g"
      exact ⟨_, rfl, fun d hd => hE d _ (fun q o h => by rw [upd_ne (ne_of_none h hd)]; exact h) upd_same⟩
end
section
variable {P : Program} {w : World} {K : PySem.W.Frag} {mg : Str → Option Value} {base : Heap}
theorem ok_Test_or (T : TxtW w K mg) : DefMX P w K mg base 5 (cadr mg "Test") "__or__" ["self", "other"] (spOp (cadr mg "Test") (cadr mg "BadTest") "or") := by
  obtain ⟨f, fd, h⟩ := T.d_Test_or
  obtain ⟨fE_BadTest, EB_BadTest⟩ := T.x_BadTest
  refine h.defX (Fun.okMX h.fn sc_Test_or (fun vs H Q E h => ?_) (fun cdv A outer s H vs Q E hr h => ?_))
  · obtain ⟨p, a, y, rfl, _⟩ := h
    rfl
  · obtain ⟨p, a, y, rfl, ha, h⟩ := h
    obtain ⟨dx, i1, f1, u1, qs1, hp, _⟩ := ha.node
    refine ⟨_, (pss_cons (ps_if (pt_not (pt_val (pe_callB (call_isiG (K := K) rfl) (by rfl) T.h_isinstance (by decide +kernel) (pa_cons (pv 1) (pa_cons (pe_cls rfl T.e_Test) pa_nil)))))
  (pss_one (ps_raiseBadTest rfl EB_BadTest hr (takes_of rfl rfl rfl rfl) (pa_cons pe_str pa_nil)))
  pss_nil)
  (pss_one (ps_ret (pe_defX (takes_of rfl rfl rfl rfl) (ok_combined T) hr rfl (pa_cons pe_str (pa_cons (pe_tup (pa_cons (pv 0) (pa_cons (pv 1) pa_nil))) pa_nil)))))), ?_⟩
    rcases h with ⟨q, b, rfl, hb, hO⟩ | ⟨⟨Tn, hT, ty⟩, hE⟩
    · obtain ⟨dx2, i2, f2, u2, qs2, hq, _⟩ := hb.node
      walk_at "g"
      refine g_isOwn T.is_Test T.cl_Test hq ?_
      walk_at "g"
      refine ⟨by show 2 ≤ sizeLine; decide, fun t ht => ?_⟩
      have kt : ∀ r o, H r = some o → (upd H t (.tup [.ref p, .ref q])) r = some o := fun r o h => by rw [upd_ne (ne_of_none h ht)]; exact h
      walk_at "g"
      refine ⟨"or", t, [a, b], [p, q], rfl, upd_same, .cons (ha.keep kt) (.cons (hb.keep kt) .nil), Nat.le_refl _, fun h d H' k e => hO.1 h d H' (fun r o h => k r o (kt r o h)) e, fun h1 h2 d H' k e => hO.2.1 h1 h2 d H' (fun r o h => k r o (kt r o h)) e, fun h1 h2 r H' k A => ?_⟩
      walk_at "g"
      exact hO.2.2 h1 h2 r H' (fun r o h => k r o (kt r o h)) A
    · walk_at "g"
      refine g_isNot T.is_Test (ty.x K) hT ?_
      walk_at "g"
      exact ⟨_, rfl, fun d hd => hE d _ (fun q o h => by rw [upd_ne (ne_of_none h hd)]; exact h) upd_same⟩
/-- ~a, sure(a) -/
def spUn (C CB : Addr) (w : Str) : Sp := fun vs H Q E => ∃ (p : Addr) (a : Ts), vs = [.ref p] ∧ TestAt C H a p ∧ Outc C CB (.un w a) H Q E
theorem ok_Test_invert (T : TxtW w K mg) : DefMX P w K mg base 5 (cadr mg "Test") "__invert__" ["self"] (spUn (cadr mg "Test") (cadr mg "BadTest") "not") := by
  obtain ⟨f, fd, h⟩ := T.d_Test_invert
  refine h.defX (Fun.okMX h.fn sc_Test_invert (fun vs H Q E h => ?_) (fun cdv A outer s H vs Q E hr h => ?_))
  · obtain ⟨p, a, rfl, _⟩ := h
    rfl
  · obtain ⟨p, a, rfl, ha, hO⟩ := h
    refine ⟨_, (pss_one (ps_ret (pe_defX (takes_of rfl rfl rfl rfl) (ok_combined T) hr rfl (pa_cons pe_str (pa_cons (pe_tup (pa_cons (pv 0) pa_nil)) pa_nil))))), ?_⟩
    walk_at "g"
    refine ⟨by show 1 ≤ sizeLine; decide, fun t ht => ?_⟩
    have kt : ∀ r o, H r = some o → (upd H t (.tup [.ref p])) r = some o := fun r o h => by rw [upd_ne (ne_of_none h ht)]; exact h
    walk_at "g"
    refine ⟨"not", t, [a], [p], rfl, upd_same, .cons (ha.keep kt) .nil, by show 1 ≤ 2; decide, fun h d H' k e => hO.1 h d H' (fun r o h => k r o (kt r o h)) e, fun h1 h2 d H' k e => hO.2.1 h1 h2 d H' (fun r o h => k r o (kt r o h)) e, fun h1 h2 r H' k A => ?_⟩
    walk_at "g"
    exact hO.2.2 h1 h2 r H' (fun r o h => k r o (kt r o h)) A
theorem ok_sure (T : TxtW w K mg) : DefX P w K mg base 5 "sure" ["test"] (spUn (cadr mg "Test") (cadr mg "BadTest") "sure") := by
  obtain ⟨f, fd, h⟩ := T.d_sure
  obtain ⟨fE_BadTest, EB_BadTest⟩ := T.x_BadTest
  refine h.defX (Fun.okMX h.fn sc_sure (fun vs H Q E h => ?_) (fun cdv A outer s H vs Q E hr h => ?_))
  · obtain ⟨p, a, rfl, _⟩ := h
    rfl
  · obtain ⟨p, a, rfl, ha, hO⟩ := h
    obtain ⟨dx, i1, f1, u1, qs1, hp, _⟩ := ha.node
    refine ⟨_, (pss_cons (ps_if (pt_not (pt_val (pe_callB (call_isiG (K := K) rfl) (by rfl) T.h_isinstance (by decide +kernel) (pa_cons (pv 0) (pa_cons (pe_cls rfl T.e_Test) pa_nil)))))
  (pss_one (ps_raiseBadTest rfl EB_BadTest hr (takes_of rfl rfl rfl rfl) (pa_cons pe_str pa_nil)))
  pss_nil)
  (pss_one (ps_ret (pe_defX (takes_of rfl rfl rfl rfl) (ok_combined T) hr rfl (pa_cons pe_str (pa_cons (pe_tup (pa_cons (pv 0) pa_nil)) pa_nil)))))), ?_⟩
    walk_at "g"
    refine g_isOwn T.is_Test T.cl_Test hp ?_
    walk_at "g"
    refine ⟨by show 1 ≤ sizeLine; decide, fun t ht => ?_⟩
    have kt : ∀ r o, H r = some o → (upd H t (.tup [.ref p])) r = some o := fun r o h => by rw [upd_ne (ne_of_none h ht)]; exact h
    walk_at "g"
    refine ⟨"sure", t, [a], [p], rfl, upd_same, .cons (ha.keep kt) .nil, by show 1 ≤ 2; decide, fun h d H' k e => hO.1 h d H' (fun r o h => k r o (kt r o h)) e, fun h1 h2 d H' k e => hO.2.1 h1 h2 d H' (fun r o h => k r o (kt r o h)) e, fun h1 h2 r H' k A => ?_⟩
    walk_at "g"
    exact hO.2.2 h1 h2 r H' (fun r o h => k r o (kt r o h)) A
end
/-! texts of the 94 signs -/
def txtB (z : Str) : Bool := z.cps.toList.all fun c => decide (c ∈ signs.cps.toList)
def isTxtB : V → Bool
  | .str z => txtB z
  | _ => false
theorem none_bad {l : List Nat} {p : Nat → Bool} {f : Nat → V} : decide ((((l.filter fun n => !p n).map f).length : Int) = 0) = l.all p := by
  rw [List.length_map, Bool.eq_iff_iff, decide_eq_true_eq, List.all_eq_true]
  constructor
  · intro h c hc
    have h' : (l.filter fun n => !p n) = [] := List.length_eq_zero_iff.mp (by omega)
    have := (List.filter_eq_nil_iff.mp h') c hc
    simpa using this
  · intro h
    have h' : (l.filter fun n => !p n) = [] := List.filter_eq_nil_iff.mpr fun c hc => by
      have := h c hc
      simpa using this
    rw [h']
    rfl
def spThingB (F : V → Bool) : Sp := fun vs H Q _ => ∃ v, vs = [v] ∧ thing H v ∧ ∀ H', (∀ p o, H p = some o → H' p = some o) → Q (.bl (F v)) H'
def letters : List Nat := (Str.ofString "abcdefghijklmnopqrstuvwxyz").cps.toList
def nameSigns : List Nat := (Str.ofString "abcdefghijklmnopqrstuvwxyz0123456789").cps.toList
def keptWords : List Str := ["and", "or", "not", "sure", "in", "is", "empty", "begins", "always", "never"]
def nameP (z : Str) : Prop := z.length ≠ 0 ∧ z.length ≤ 8 ∧ (∀ c r, z.cps.toList = c :: r → c ∈ letters) ∧ z ∉ keptWords ∧ ∀ c ∈ z.cps.toList, c ∈ nameSigns
noncomputable def nameB : V → Bool
  | .str z => @decide (nameP z) (Classical.propDecidable _)
  | _ => false
theorem nameB_str {z : Str} : nameB (.str z) = true ↔ nameP z := by
  unfold nameB
  exact @decide_eq_true_iff _ (Classical.propDecidable _)
theorem nameB_no {z : Str} (h : ¬ nameP z) : nameB (.str z) = false := by
  cases e : nameB (.str z) with
  | false => rfl
  | true => exact absurd (nameB_str.mp e) h
theorem nameB_is {z : Str} {b : Bool} (h : nameP z ↔ b = true) : nameB (.str z) = b := by
  cases b with
  | true => exact nameB_str.mpr (h.mpr rfl)
  | false => exact nameB_no fun z => absurd (h.mp z) Bool.false_ne_true
def kindV : V → V
  | .int _ => .str (Str.ofString "number")
  | .str z => if txtB z = true then .str (Str.ofString "text") else .non
  | _ => .non
section
variable {P : Program} {w : World} {K : PySem.W.Frag} {mg : Str → Option Value} {base : Heap}
theorem ok_is_integer (T : TxtW w K mg) : Def P w K mg base 1 "is_integer" ["thing"] (spThingB isIntB) := by
  obtain ⟨f, fd, h⟩ := T.d_is_integer
  refine h.def (Fun.okM h.fn sc_is_integer (fun vs H Q E h => ?_) (fun cdv A outer s H vs Q E hr h => ?_))
  · obtain ⟨x, rfl, _⟩ := h
    rfl
  · obtain ⟨x, rfl, hx, k⟩ := h
    have k' := k H fun _ _ h => h
    refine ⟨_, (pss_one (ps_ret (pe_and (pe_callB (call_isiG (K := K) rfl) (by rfl) T.h_isinstance (by decide +kernel) (pa_cons (pv 0) (pa_cons (pe_bltn (v := .ty "int") (by rfl) T.h_int (by decide +kernel) rfl) pa_nil))) (pe_one (pe_not (pe_callB (call_isiG (K := K) rfl) (by rfl) T.h_isinstance (by decide +kernel) (pa_cons (pv 0) (pa_cons (pe_bltn (v := .ty "bool") (by rfl) T.h_bool (by decide +kernel) rfl) pa_nil)))))))), ?_⟩
    rcases hx with rfl | ⟨b, rfl⟩ | ⟨i, rfl⟩ | ⟨z, rfl, hz⟩ | ⟨p, rfl, hp⟩ <;> walk_at "g" <;> exact k'
end
section
variable {P : Program} {w : World} {K : PySem.W.Frag} {mg : Str → Option Value} {base : Heap}
theorem ok_is_text (T : TxtW w K mg) : Def P w K mg base 1 "is_text" ["thing"] (spThingB isTxtB) := by
  obtain ⟨f, fd, h⟩ := T.d_is_text
  obtain ⟨t_SIGNS, G_SIGNS⟩ := T.k_SIGNS
  refine h.def (Fun.okM h.fn sc_is_text (fun vs H Q E h => ?_) (fun cdv A outer s H vs Q E hr h => ?_))
  · obtain ⟨x, rfl, _⟩ := h
    rfl
  · obtain ⟨x, rfl, hx, k⟩ := h
    have k' := k H fun _ _ h => h
    refine ⟨_, (pss_cons (ps_if (pt_not (pt_val (pe_callB (call_isiG (K := K) rfl) (by rfl) T.h_isinstance (by decide +kernel) (pa_cons (pv 0) (pa_cons (pe_bltn (v := .ty "str") (by rfl) T.h_str (by decide +kernel) rfl) pa_nil)))))
  (pss_one (ps_ret pe_bl))
  pss_nil)
  (pss_one (ps_ret (pe_callB (cr_all rfl) (by rfl) T.h_all (by decide +kernel) (pa_cons (pe_lc (own := [("sign", 1)]) rfl sc_is_text.nd (pi_str (pv 0)) (blkOk_by (N := N_is_text) (sc := defScope S_is_text) (by decide +kernel)) (fun _ _ _ _ _ => pg_name (i := 1) sc_is_text.nd rfl (Or.inl rfl)) (fun _ _ _ _ _ => pts_nil) (fun _ _ _ _ _ => (pe_cmpR (op_inG (K := K) rfl) (pv 1) (pe_glob (v := .str C_SIGNS) rfl G_SIGNS ⟨_, rfl⟩) (by rfl)))) pa_nil))))), ?_⟩
    rcases hx with rfl | ⟨b, rfl⟩ | ⟨i, rfl⟩ | ⟨z, rfl, hz⟩ | ⟨p, rfl, hp⟩
    case inr.inr.inr.inl =>
      walk_at "g"
      refine fun L hL => ?_
      refine lc_text (fun _ => true) (fun n => .bl (decide (n ∈ signs.cps.toList))) (by omega) (fun n Hh R S hn hK hR hS => ?_) (fun H2 hK hL2 => ?_)
      · walk_at "g"
        refine ⟨rfl, ?_⟩
        walk_at "g"
        exact hR rfl
      · walk_at "g"
        refine ⟨L, z.cps.toList.map fun n => decide (n ∈ signs.cps.toList), rfl, SqL.of ?_, ?_⟩
        · rw [hL2, List.filter_eq_self.mpr (fun _ _ => rfl), List.map_map]; rfl
        · walk_at "g"
          have e : (z.cps.toList.map fun n => decide (n ∈ signs.cps.toList)).all id = isTxtB (.str z) := by
            show _ = txtB z
            unfold txtB
            rw [List.all_map]; rfl
          rw [e]
          exact k _ fun p o h => hK p o (ne_of_none h hL) h
    all_goals (walk_at "g"; exact k')
end
section
variable {P : Program} {w : World} {K : PySem.W.Frag} {mg : Str → Option Value} {base : Heap}
theorem ok_is_name (T : TxtW w K mg) : Def P w K mg base 1 "is_name" ["thing"] (spThingB nameB) := by
  obtain ⟨f, fd, h⟩ := T.d_is_name
  obtain ⟨t_LONGEST_NAME, G_LONGEST_NAME⟩ := T.k_LONGEST_NAME
  obtain ⟨t_LETTERS, G_LETTERS⟩ := T.k_LETTERS
  obtain ⟨t_WORDS, G_WORDS, Q_WORDS⟩ := T.k_WORDS
  obtain ⟨t_NAME_SIGNS, G_NAME_SIGNS⟩ := T.k_NAME_SIGNS
  refine h.def (Fun.okM h.fn sc_is_name (fun vs H Q E h => ?_) (fun cdv A outer s H vs Q E hr h => ?_))
  · obtain ⟨x, rfl, _⟩ := h
    rfl
  · obtain ⟨x, rfl, hx, k⟩ := h
    have k' := k H fun _ _ h => h
    refine ⟨_, (pss_cons (ps_if (pt_not (pt_val (pe_callB (call_isiG (K := K) rfl) (by rfl) T.h_isinstance (by decide +kernel) (pa_cons (pv 0) (pa_cons (pe_bltn (v := .ty "str") (by rfl) T.h_str (by decide +kernel) rfl) pa_nil)))))
  (pss_one (ps_ret pe_bl))
  pss_nil)
  (pss_cons (ps_if (PW.pt (pw_or (pt_cmpR op_eq (pe_callB (call_lenG (K := K) rfl) (by rfl) T.h_len (by decide +kernel) (pa_cons (pv 0) pa_nil)) pe_int (nomark _)) (pw_or1 (pt_cmpR op_gtG (pe_callB (call_lenG (K := K) rfl) (by rfl) T.h_len (by decide +kernel) (pa_cons (pv 0) pa_nil)) (pe_glob (v := .int 8) rfl G_LONGEST_NAME ⟨_, rfl⟩) (nomark _)))))
  (pss_one (ps_ret pe_bl))
  pss_nil)
  (pss_cons (ps_if (PW.pt (pw_or (pt_cmpR (op_notInG (K := K) rfl) (pe_ix (ix_seqG (K := K) rfl) (pv 0) pe_int (fun _ _ => rfl)) (pe_glob (v := .str C_LETTERS) rfl G_LETTERS ⟨_, rfl⟩) (by rfl)) (pw_or1 (pt_cmpR (op_inG (K := K) rfl) (pv 0) (pe_glob (v := .ref t_WORDS) rfl G_WORDS rfl) (by rfl)))))
  (pss_one (ps_ret pe_bl))
  pss_nil)
  (pss_one (ps_ret (pe_callB (cr_all rfl) (by rfl) T.h_all (by decide +kernel) (pa_cons (pe_lc (own := [("sign", 1)]) rfl sc_is_name.nd (pi_str (pv 0)) (blkOk_by (N := N_is_name) (sc := defScope S_is_name) (by decide +kernel)) (fun _ _ _ _ _ => pg_name (i := 1) sc_is_name.nd rfl (Or.inl rfl)) (fun _ _ _ _ _ => pts_nil) (fun _ _ _ _ _ => (pe_cmpR (op_inG (K := K) rfl) (pv 1) (pe_glob (v := .str C_NAME_SIGNS) rfl G_NAME_SIGNS ⟨_, rfl⟩) (by rfl)))) pa_nil))))))), ?_⟩
    rcases hx with rfl | ⟨b, rfl⟩ | ⟨i, rfl⟩ | ⟨z, rfl, hz⟩ | ⟨p, rfl, hp⟩
    case inr.inr.inr.inl =>
      walk_at "g"
      refine g_lenS (by rw [sizeLine_eq]; omega) ?_
      have no : ¬ nameP z → Q (.bl false) H := fun h => by rw [← nameB_no h]; exact k'
      walk_at "g"
      refine g_dec (fun h0 => ?_) (fun h0 => ?_)
      · walk_at "g"
        exact no fun n => n.1 (by omega)
      walk_at "g"
      refine g_lenS (by rw [sizeLine_eq]; omega) ?_
      walk_at "g"
      refine g_dec (fun h8 => ?_) (fun h8 => ?_)
      · walk_at "g"
        exact no fun n => by have := n.2.1; omega
      walk_at "g"
      obtain ⟨c, r, hcr⟩ : ∃ c r, z.cps.toList = c :: r := by
        cases e : z.cps.toList with
        | nil => exact absurd (by have e2 : z.cps.toList.length = z.length := Array.length_toList
                                  rw [e] at e2; simpa using e2.symm) h0
        | cons c r => exact ⟨c, r, rfl⟩
      refine g_ixS (n := c) (by rw [sizeLine_eq]; omega) (atI_nat (j := 0) (by rw [hcr]; rfl)) ?_
      walk_at "g"
      refine g_ndec (fun hc => ?_) (fun hc => ?_)
      · walk_at "g"
        exact no fun n => hc (n.2.2.1 c r hcr)
      walk_at "g"
      refine .inr ⟨_, keptWords.map V.str, rfl, .inr (Q_WORDS _), rfl, Tw.flat_strs _, ?_⟩
      walk_at "g"
      rw [if_neg Bool.false_ne_true, inV_strs]
      refine g_dec (fun hw => ?_) (fun hw => ?_)
      · walk_at "g"
        exact no fun n => n.2.2.2.1 hw
      walk_at "g"
      refine fun L hL => ?_
      refine lc_text (fun _ => true) (fun n => .bl (decide (n ∈ nameSigns))) (by omega) (fun n Hh R S hn hK hR hS => ?_) (fun H2 hK hL2 => ?_)
      · walk_at "g"
        refine ⟨rfl, ?_⟩
        walk_at "g"
        exact hR rfl
      · walk_at "g"
        refine ⟨L, z.cps.toList.map fun n => decide (n ∈ nameSigns), rfl, SqL.of ?_, ?_⟩
        · rw [hL2, List.filter_eq_self.mpr (fun _ _ => rfl), List.map_map]; rfl
        · walk_at "g"
          have e : nameB (.str z) = (z.cps.toList.map fun n => decide (n ∈ nameSigns)).all id := by
            refine nameB_is ?_
            rw [List.all_map, List.all_eq_true]
            constructor
            · intro n c hc
              exact decide_eq_true (n.2.2.2.2 c hc)
            · intro h
              exact ⟨by omega, by omega, fun c' r' e' => by rw [hcr] at e'; injection e' with e1 _; rw [← e1]; exact hc, hw, fun c hc => of_decide_eq_true (h c hc)⟩
          rw [← e]
          exact k _ fun p o h => hK p o (ne_of_none h hL) h
    all_goals (walk_at "g"; exact k')
end
section
variable {P : Program} {w : World} {K : PySem.W.Frag} {mg : Str → Option Value} {base : Heap}
def spKind : Sp := fun vs H Q _ => ∃ v, vs = [v] ∧ thing H v ∧ ∀ H', (∀ p o, H p = some o → H' p = some o) → Q (kindV v) H'
theorem ok_kind_of (T : TxtW w K mg) : Def P w K mg base 2 "kind_of" ["value"] spKind := by
  obtain ⟨f, fd, h⟩ := T.d_kind_of
  refine h.def (Fun.okM h.fn sc_kind_of (fun vs H Q E h => ?_) (fun cdv A outer s H vs Q E hr h => ?_))
  · obtain ⟨x, rfl, _⟩ := h
    rfl
  · obtain ⟨x, rfl, hx, k⟩ := h
    refine ⟨_, (pss_cons (ps_if (pt_val (pe_def (ok_is_integer T) hr rfl (pa_cons (pv 0) pa_nil)))
  (pss_one (ps_ret pe_str))
  pss_nil)
  (pss_cons (ps_if (pt_val (pe_def (ok_is_text T) hr rfl (pa_cons (pv 0) pa_nil)))
  (pss_one (ps_ret pe_str))
  pss_nil)
  (pss_one (ps_ret pe_non)))), ?_⟩
    walk_at "g"
    refine ⟨_, rfl, hx, fun H1 h1 => ?_⟩
    have hx1 := hx.keep h1
    rcases hx with rfl | ⟨b, rfl⟩ | ⟨i, rfl⟩ | ⟨z, rfl, hz⟩ | ⟨p, rfl, hp⟩
    case inr.inr.inl =>
      rw [show isIntB (.int i) = true from rfl]
      walk_at "g"
      exact k _ h1
    all_goals
      walk_at "g"
      refine g_split (fun z => absurd z Bool.false_ne_true) (fun _ => ?_)
      walk_at "g"
      refine ⟨_, rfl, hx1, fun H2 h2 => ?_⟩
      have k2 := k H2 fun p o h => h2 p o (h1 p o h)
    case inr.inr.inr.inl =>
      walk_at "g"
      refine g_split (fun e => ?_) (fun e => ?_)
      · walk_at "g"
        have e' : txtB z = true := e
        have k2 : Q (if txtB z = true then V.str (Str.ofString "text") else V.non) H2 := k2
        rw [if_pos e'] at k2
        exact k2
      · walk_at "g"
        have e' : txtB z = false := e
        have k2 : Q (if txtB z = true then V.str (Str.ofString "text") else V.non) H2 := k2
        rw [if_neg (by rw [e']; exact Bool.false_ne_true)] at k2
        exact k2
    all_goals
      walk_at "g"
      refine g_split (fun z => absurd z Bool.false_ne_true) (fun _ => ?_)
      walk_at "g"
      exact k2
end
theorem atom_made {C : Addr} {H H2 : Hp} {i f u x dx : Addr} {w : Str} (fs : List Str) (ts : List V) (hi : H i = none) (hf : (upd H i (.tup [])) f = none) (hu : (upd (upd H i (.tup [])) f (.tup (fs.map V.str))) u = none)
    (hx : (upd (upd (upd H i (.tup [])) f (.tup (fs.map V.str))) u (.tup ts)) x = none) (hdx : (upd (upd (upd H i (.tup [])) f (.tup (fs.map V.str))) u (.tup ts)) dx = none)
    (k2 : ∀ q o, q ≠ x → (upd (upd (upd (upd (upd H i (.tup [])) f (.tup (fs.map V.str))) u (.tup ts)) dx (.own x)) x (.ins C dx [])) q = some o → H2 q = some o)
    (h2 : H2 x = some (.ins C dx (tf w i f u (sizeK [] : Nat) (depthK [] : Nat)))) : (∀ q o, H q = some o → H2 q = some o) ∧ TestAt C H2 (.at w fs ts) x := by
  have ki : ∀ q o, H q = some o → (upd H i (.tup [])) q = some o := fun q o h => by rw [upd_ne (ne_of_none h hi)]; exact h
  have kf : ∀ q o, (upd H i (.tup [])) q = some o → (upd (upd H i (.tup [])) f (.tup (fs.map V.str))) q = some o := fun q o h => by rw [upd_ne (ne_of_none h hf)]; exact h
  have ku : ∀ q o, (upd (upd H i (.tup [])) f (.tup (fs.map V.str))) q = some o → (upd (upd (upd H i (.tup [])) f (.tup (fs.map V.str))) u (.tup ts)) q = some o := fun q o h => by rw [upd_ne (ne_of_none h hu)]; exact h
  have kx : ∀ q o, (upd (upd (upd H i (.tup [])) f (.tup (fs.map V.str))) u (.tup ts)) q = some o → H2 q = some o := fun q o h => k2 q o (ne_of_none h hx) (by rw [upd_ne (ne_of_none h hx), upd_ne (ne_of_none h hdx)]; exact h)
  refine ⟨fun q o h => kx _ _ (ku _ _ (kf _ _ (ki _ _ h))), dx, i, f, u, h2, kx _ _ (ku _ _ (kf _ _ upd_same)), kx _ _ (ku _ _ upd_same), kx _ _ upd_same⟩
def spNeed (G : V → Prop) : Sp := fun vs H Q _ => ∃ v, vs = [v] ∧ G v ∧ ∀ H', (∀ q o, H q = some o → H' q = some o) → Q .non H'
section
variable {P : Program} {w : World} {K : PySem.W.Frag} {mg : Str → Option Value} {base : Heap}
theorem ok_need_column (T : TxtW w K mg) : Def P w K mg base 2 "need_column" ["thing"] (spNeed fun v => ∃ c, v = .str c ∧ nameP c) := by
  obtain ⟨f, fd, h⟩ := T.d_need_column
  refine h.def (Fun.okM h.fn sc_need_column (fun vs H Q E h => ?_) (fun cdv A outer s H vs Q E hr h => ?_))
  · obtain ⟨v, rfl, _⟩ := h
    rfl
  · obtain ⟨v, rfl, ⟨c, rfl, hc⟩, k⟩ := h
    refine ⟨_, (pss_one (ps_if (pt_not (pt_val (pe_def (ok_is_name T) hr rfl (pa_cons (pv 0) pa_nil))))
  (pss_one ps_never)
  pss_nil)), ?_⟩
    walk_at "g"
    refine ⟨_, rfl, .inr (.inr (.inr (.inl ⟨c, rfl, Nat.le_trans hc.2.1 (by decide)⟩))), fun H1 k1 => ?_⟩
    rw [nameB_str.mpr hc]
    walk_at "g"
    exact k _ k1
end
/-! draws from a pool -/
def PD (H : Hp) (p : Addr) (n : Nat) : Prop := ∃ a b c : Int, H p = some (.lst [.int a, .int b, .int c]) ∧ 0 ≤ b ∧ b < 2147483648 ∧ 0 ≤ c ∧ c ≤ n
def Keep (d : Addr) (H H' : Hp) : Prop := ∀ p o, p ≠ d → H p = some o → H' p = some o
theorem Keep.refl (d : Addr) (H : Hp) : Keep d H H := fun _ _ _ h => h
theorem Keep.trans {d : Addr} {H H1 H2 : Hp} (a : Keep d H H1) (b : Keep d H1 H2) : Keep d H H2 := fun p o n h => b p o n (a p o n h)
theorem Keep.upd {d : Addr} {H H1 : Hp} {o : HO} (a : Keep d H H1) : Keep d H (L2.upd H1 d o) := fun p u n h => by rw [upd_ne n]; exact a p u n h
theorem Keep.new {d p : Addr} {H H1 : Hp} {o : HO} (a : Keep d H H1) (hp : H p = none) : Keep d H (L2.upd H1 p o) := fun q u n h => by rw [upd_ne (ne_of_none h hp)]; exact a q u n h
theorem Keep.back {d p : Addr} {H H1 : Hp} (a : Keep d H H1) (n : p ≠ d) (h : H1 p = none) : H p = none := by
  cases hh : H p with
  | none => rfl
  | some o => rw [a p o n hh] at h; cases h
theorem PD.other {H : Hp} {p q : Addr} {n : Nat} {o : HO} (D : PD H p n) (h : q ≠ p) : PD (upd H q o) p n := by
  obtain ⟨a, b, c, e, r⟩ := D
  exact ⟨a, b, c, by rw [upd_ne (Ne.symm h)]; exact e, r⟩
theorem PD.ne {H : Hp} {p q : Addr} {n : Nat} (D : PD H p n) (h : H q = none) : q ≠ p := by
  obtain ⟨a, b, c, e, r⟩ := D
  exact Ne.symm (ne_of_none e h)
theorem PD.new {H : Hp} {p q : Addr} {n : Nat} {o : HO} (D : PD H p n) (h : H q = none) : PD (upd H q o) p n := D.other (D.ne h)
theorem PD.mono {H : Hp} {p : Addr} {n m : Nat} (D : PD H p n) (h : n ≤ m) : PD H p m := by
  obtain ⟨a, b, c, e, h1, h2, h3, h4⟩ := D
  exact ⟨a, b, c, e, h1, h2, h3, by omega⟩
theorem PD.at {H : Hp} {p : Addr} {n : Nat} (D : PD H p n) : ∃ xs, H p = some (.lst xs) := by
  obtain ⟨a, b, c, e, r⟩ := D
  exact ⟨_, e⟩
def spPool (K : PySem.W.Frag) : Sp := fun vs H Q _ => ∃ (a : Addr) (ns : List Int) (k : Nat), vs = [.ref a, .int k] ∧ SqL K H a (ns.map V.int) ∧ ns.length ≤ 63 ∧ k < 100 ∧ ∀ p H', H p = none → Same H H' → PD H' p 200000 → Q (.ref p) H'
def spDrawP : Sp := fun vs H Q _ => ∃ (p : Addr) (m : Int) (n : Nat), vs = [.ref p, .int m] ∧ PD H p n ∧ n ≤ 1000000 ∧ 0 < m ∧ m.natAbs.log2 < 9000 ∧ ∀ r H', 0 ≤ r → r < m → PD H' p (n + 1) → Keep p H H' → Q (.int r) H'
section
variable {P : Program} {w : World} {K : PySem.W.Frag} {mg : Str → Option Value} {base : Heap}
theorem ok__law_pool (T : TxtW w K mg) : Def P w K mg base 1 "_law_pool" ["_law_script", "_law_place"] (spPool K) := by
  obtain ⟨f, fd, h⟩ := T.d__law_pool
  refine h.def (Fun.okM h.fn sc__law_pool (fun vs H Q E h => ?_) (fun cdv A outer s H vs Q E hr h => ?_))
  · obtain ⟨a, ns, k, rfl, _⟩ := h
    rfl
  · obtain ⟨a, ns, kk, rfl, hS, hlen, hk, k⟩ := h
    refine ⟨_, (pss_cons (ps_set (i := 2) sc__law_pool.nd rfl (Or.inl rfl) pe_int)
  (Evl.pss_cut (ps_if (pt_cmpR op_ltG (pv 1) (pe_callB (call_lenG (K := K) rfl) (by rfl) T.h_len (by decide +kernel) (pa_cons (pv 0) pa_nil)) (nomark _))
  (pss_one (ps_set (i := 2) sc__law_pool.nd rfl (Or.inl rfl) (pe_callTy call_intG (by rfl) T.h_int (by decide +kernel) (pa_cons (pe_ix (ix_seqG (K := K) rfl) (pv 0) (pv 1) (fun _ _ => rfl)) pa_nil))))
  pss_nil)
  (pss_cons (ps_if (pt_cmpR op_geG (pv 2) (pe_op op_powG' pe_int pe_int) (nomark _))
  (pss_one (ps_ret (pe_lst (pa_cons (pv 2) (pa_cons (pe_op op_modG (pe_callTy call_intG (by rfl) T.h_int (by decide +kernel) (pa_cons (pv 2) pa_nil)) pe_int) (pa_cons (pe_op op_mulG pe_int (pv 1)) pa_nil))))))
  pss_nil)
  (pss_one (ps_ret (pe_lst (pa_cons pe_int (pa_cons (pe_op op_modG (pe_callTy call_intG (by rfl) T.h_int (by decide +kernel) (pa_cons (pv 2) pa_nil)) pe_int) (pa_cons (pe_op op_mulG pe_int (pv 1)) pa_nil))))))))), ?_⟩
    walk_at "g"
    refine g_cutA (M := fun σ' H' => ∃ c : Int, σ' = [some (.ref a), some (.int kk), some (.int c)] ∧ H' = H) (fun D' hn _ _ _ => ?_) ?_
    · walk_at "g"
      refine g_lenL hS ?_
      walk_at "g"
      refine g_dec (fun h0 => ?_) (fun h0 => ?_)
      · walk_at "g"
        have hk2 : kk < ns.length := by rw [List.length_map] at h0; omega
        refine g_ixL hS (v := .int ns[kk]) (atI_nat (j := kk) (by rw [List.getElem?_map, List.getElem?_eq_getElem hk2]; rfl)) ?_
        walk_at "g"
        exact hn _ _ ⟨_, rfl, rfl⟩
      · walk_at "g"
        exact hn _ _ ⟨_, rfl, rfl⟩
    · rintro σ' H' ⟨c, rfl, rfl⟩
      have key : ∀ a' : Int, ∀ p, H' p = none → Q (.ref p) (upd H' p (.lst [.int a', .int (c % 2147483647), .int (1009 * (kk : Int))])) := fun a' p hp =>
        k p _ hp (fun q o h => by rw [upd_ne (ne_of_none h hp)]; exact h) ⟨_, _, _, upd_same, Int.emod_nonneg _ (by decide), by have := Int.emod_lt_of_pos c (b := 2147483647) (by decide); omega, by omega, by omega⟩
      walk_at "G"
      all_goals exact ⟨by show 3 ≤ sizeLine; decide, fun p hp => key _ p hp⟩
theorem ok__law_draw (T : TxtW w K mg) : Def P w K mg base 1 "_law_draw" ["_law_pool_here", "_law_many"] spDrawP := by
  obtain ⟨f, fd, h⟩ := T.d__law_draw
  refine h.def (Fun.okM h.fn sc__law_draw (fun vs H Q E h => ?_) (fun cdv A outer s H vs Q E hr h => ?_))
  · obtain ⟨p, m, n, rfl, _⟩ := h
    rfl
  · obtain ⟨p, m, n, rfl, ⟨a, b, c, e, hb0, hb1, hc0, hc1⟩, hn, hm, hml, k⟩ := h
    refine ⟨_, (pss_cons (ps_if (pt_cmpR op_gtG (pe_ix (ix_seqG (K := K) rfl) (pv 0) pe_int (fun _ _ => rfl)) pe_int (nomark _))
  (pss_cons (ps_set (i := 2) sc__law_draw.nd rfl (Or.inl rfl) (pe_op op_modG (pe_callTy call_intG (by rfl) T.h_int (by decide +kernel) (pa_cons (pe_ix (ix_seqG (K := K) rfl) (pv 0) pe_int (fun _ _ => rfl)) pa_nil)) (pv 1)))
  (pss_cons (ps_asg (pe_op op_fdG (pe_ix (ix_seqG (K := K) rfl) (pv 0) pe_int (fun _ _ => rfl)) (pv 1)) (pg_sub (pv 0) pe_int set_list))
  (pss_one (ps_ret (pv 2)))))
  pss_nil)
  (pss_cons (ps_asg (pe_op op_addG (pe_ix (ix_seqG (K := K) rfl) (pv 0) pe_int (fun _ _ => rfl)) pe_int) (pg_sub (pv 0) pe_int set_list))
  (pss_cons (ps_set (i := 3) sc__law_draw.nd rfl (Or.inl rfl) (pe_op op_modG (pe_callTy call_intG (by rfl) T.h_int (by decide +kernel) (pa_cons (pe_op op_powG' (pe_op op_addG (pe_op op_addG (pe_ix (ix_seqG (K := K) rfl) (pv 0) pe_int (fun _ _ => rfl)) (pe_op op_mulG pe_int (pe_ix (ix_seqG (K := K) rfl) (pv 0) pe_int (fun _ _ => rfl)))) pe_int) pe_int) pa_nil)) pe_int))
  (pss_cons (ps_set (i := 3) sc__law_draw.nd rfl (Or.inl rfl) (pe_op op_modG (pe_callTy call_intG (by rfl) T.h_int (by decide +kernel) (pa_cons (pe_op op_powG' (pe_op op_addG (pe_op op_mulG (pv 3) pe_int) (pe_op op_mulG pe_int (pe_ix (ix_seqG (K := K) rfl) (pv 0) pe_int (fun _ _ => rfl)))) pe_int) pa_nil)) pe_int))
  (pss_cons (ps_set (i := 3) sc__law_draw.nd rfl (Or.inl rfl) (pe_op op_modG (pe_callTy call_intG (by rfl) T.h_int (by decide +kernel) (pa_cons (pe_op op_mulG (pv 3) (pe_op op_addG (pe_op op_fdG (pv 3) pe_int) pe_int)) pa_nil)) pe_int))
  (pss_one (ps_ret (pe_op op_modG (pe_callTy call_intG (by rfl) T.h_int (by decide +kernel) (pa_cons (pe_op op_fdG (pv 3) pe_int) pa_nil)) (pv 1))))))))), ?_⟩
    walk_at "g"
    refine g_dec (fun h0 => ?_) (fun h0 => ?_)
    · walk_at "g"
      refine k _ _ (Int.emod_nonneg _ (by omega)) (Int.emod_lt_of_pos _ hm) ⟨_, _, _, upd_same, hb0, hb1, hc0, by omega⟩ (Keep.refl _ _).upd
    · walk_at "g"
      have m1 : ∀ x : Int, 0 ≤ x % 2147483647 ∧ x % 2147483647 < 2147483647 := fun x => ⟨Int.emod_nonneg _ (by decide), Int.emod_lt_of_pos _ (by decide)⟩
      have m2 : ∀ x : Int, 0 ≤ x % 2147483629 ∧ x % 2147483629 < 2147483629 := fun x => ⟨Int.emod_nonneg _ (by decide), Int.emod_lt_of_pos _ (by decide)⟩
      refine k _ _ (Int.emod_nonneg _ (by omega)) (Int.emod_lt_of_pos _ hm) ⟨_, _, _, upd_same, hb0, hb1, by omega, by omega⟩ (Keep.refl _ _).upd
end
def kS (k : Bool) : Str := if k = true then "text" else "number"
theorem kS_inj {a b : Bool} (h : kS a = kS b) : a = b := by
  revert h
  cases a <;> cases b <;> decide +kernel
/-! columns, orders, rows -/
def LAt (H : Hp) (L : Addr) (ts : List (List V)) : Prop := ∃ qs : List Addr, H L = some (.lst (qs.map V.ref)) ∧ qs.length = ts.length ∧ ∀ (i : Nat) (q : Addr) (t : List V), qs[i]? = some q → ts[i]? = some t → H q = some (.tup t)
theorem LAt.keep {H H' : Hp} {L : Addr} {ts : List (List V)} (h : LAt H L ts) (k : ∀ q o, H q = some o → H' q = some o) : LAt H' L ts := by
  obtain ⟨qs, h1, h2, h3⟩ := h
  exact ⟨qs, k _ _ h1, h2, fun i q t hq ht => k _ _ (h3 i q t hq ht)⟩
theorem LAt.keepP {H H' : Hp} {L p : Addr} {ts : List (List V)} (h : LAt H L ts) (n : L ≠ p) (hp : ∃ xs, H p = some (.lst xs)) (k : Keep p H H') : LAt H' L ts := by
  obtain ⟨qs, h1, h2, h3⟩ := h
  refine ⟨qs, k _ _ n h1, h2, fun i q t hq ht => ?_⟩
  have e := h3 i q t hq ht
  exact k _ _ (fun z => by obtain ⟨xs, hx⟩ := hp; rw [z, hx] at e; cases e) e
theorem LAt.app {H : Hp} {L t : Addr} {ts : List (List V)} {qs : List Addr} {x : List V} (h : LAt H L ts) (e : H L = some (.lst (qs.map V.ref))) (ht : H t = none) :
    LAt (upd (upd H t (.tup x)) L (.lst (qs.map V.ref ++ [.ref t]))) L (ts ++ [x]) := by
  obtain ⟨qs', h1, h2, h3⟩ := h
  obtain rfl : qs' = qs := by
    rw [e] at h1
    injection h1 with e
    injection e with e
    exact ((List.map_inj_right (fun a b h => by injection h)).mp e).symm
  have nt : L ≠ t := ne_of_none e ht
  refine ⟨qs' ++ [t], by rw [upd_same, List.map_append]; rfl, by rw [List.length_append, List.length_append, h2]; rfl, fun i q u hq hu => ?_⟩
  by_cases hlt : i < qs'.length
  · rw [List.getElem?_append_left hlt] at hq
    rw [List.getElem?_append_left (by omega)] at hu
    have e' := h3 i q u hq hu
    rw [upd_ne (fun z => by rw [z, e] at e'; cases e'), upd_ne (ne_of_none e' ht)]
    exact e'
  · rw [List.getElem?_append_right (by omega)] at hq
    rw [List.getElem?_append_right (by omega), ← h2] at hu
    obtain ⟨hi0, _⟩ := List.getElem?_eq_some_iff.mp hq
    have : i - qs'.length = 0 := by simpa using hi0
    rw [this] at hq hu
    obtain rfl : t = q := by simpa using hq
    obtain rfl : x = u := by simpa using hu
    rw [upd_ne (Ne.symm nt)]
    exact upd_same
theorem LAt.get {H : Hp} {L : Addr} {ts : List (List V)} (h : LAt H L ts) {qs : List Addr} (e : H L = some (.lst (qs.map V.ref))) : qs.length = ts.length ∧ ∀ (i : Nat) (q : Addr) (t : List V), qs[i]? = some q → ts[i]? = some t → H q = some (.tup t) := by
  obtain ⟨qs', h1, h2, h3⟩ := h
  obtain rfl : qs' = qs := by
    rw [e] at h1
    injection h1 with e
    injection e with e
    exact ((List.map_inj_right (fun a b h => by injection h)).mp e).symm
  exact ⟨h2, h3⟩
abbrev Col := Str × Bool × Bool
def ct (c : Col) : List V := [.str c.1, .str (kS c.2.1), .bl c.2.2]
def dS (up : Bool) : Str := if up = true then "up" else "down"
def pt (c : Str × Bool) : List V := [.str c.1, .str (dS c.2)]
def kdA (cs : List Col) : Str → Option Bool := cs.foldl (fun f x => fun c => if c = x.1 then some x.2.1 else f c) (fun _ => none)
theorem kdA_app {cs : List Col} {x : Col} {c : Str} : kdA (cs ++ [x]) c = if c = x.1 then some x.2.1 else kdA cs c := by
  unfold kdA
  rw [List.foldl_append]
  rfl
theorem kdA_mem {cs : List Col} {x : Col} (h : x ∈ cs) : ∃ kd, kdA cs x.1 = some kd := by
  have key : ∀ (r : List Col) (l : List Col), x ∈ l ++ r → (x ∈ l → ∃ kd, kdA l x.1 = some kd) → ∃ kd, kdA (l ++ r) x.1 = some kd := by
    intro r
    induction r with
    | nil => intro l h k; rw [List.append_nil] at h ⊢; exact k h
    | cons y r ih =>
      intro l h k
      have e : l ++ y :: r = (l ++ [y]) ++ r := by simp
      rw [e] at h ⊢
      refine ih (l ++ [y]) h fun hm => ?_
      rw [kdA_app]
      by_cases hx : x.1 = y.1
      · rw [if_pos hx]; exact ⟨_, rfl⟩
      · rw [if_neg hx]
        rcases List.mem_append.mp hm with hm | hm
        · exact k hm
        · exact absurd (by rw [List.mem_singleton.mp hm]) hx
  exact key cs [] h fun hm => nomatch hm
theorem strs_of : ∀ {ys : List V}, (∀ y ∈ ys, ∃ z, y = .str z) → ∃ xs : List Str, ys = xs.map V.str
  | [], _ => ⟨[], rfl⟩
  | y :: ys, h => by
    obtain ⟨z, rfl⟩ := h y List.mem_cons_self
    obtain ⟨xs, rfl⟩ := strs_of fun y hy => h y (List.mem_cons_of_mem _ hy)
    exact ⟨z :: xs, rfl⟩
abbrev XT (H H' : Hp) : Prop := ∀ q o, H q = some o → H' q = some o
theorem XT.new {H H1 : Hp} {t : Addr} {o : HO} (k : XT H H1) (h : H1 t = none) : XT H (upd H1 t o) := fun q u e => by rw [upd_ne (ne_of_none (k q u e) h)]; exact k q u e
theorem XT.pool {H H1 H2 : Hp} {p : Addr} (k : XT H H1) (h : H p = none) (K : Keep p H1 H2) : XT H H2 := fun q u e => K q u (ne_of_none e h) (k q u e)
theorem xtL {K : PySem.W.Frag} {H H' : Hp} {a : Addr} {xs : List V} (h : SqL K H a xs) (k : XT H H') : SqL K H' a xs := by
  rcases h with h | h
  · rcases h with h | ⟨o, h⟩
    · exact .inl (.inl (k _ _ h))
    · exact .inl (.inr ⟨o, k _ _ h⟩)
  · exact .inr h
theorem XT.trans {H H1 H2 : Hp} (a : XT H H1) (b : XT H1 H2) : XT H H2 := fun q o h => b q o (a q o h)

/-- a comprehension with a promise over what it has taken -/
theorem lc_inv {σ : L2.St} {g : TG} {tt : TT} {te : TE} {vs : List Nat} {J : It} {H1 : Hp} {D : Addr} {Qd : Hp → Prop} (xs : List V) (Pv : Nat → List V → Hp → Prop) (h0 : Pv 0 [] (upd H1 D (.lst []))) (hJ : ∀ i acc H, Pv i acc H → Fits J xs H) (hlen : xs.length ≤ 1000000)
    (hD : ∀ i acc H, Pv i acc H → H D = some (.lst acc) ∧ acc.length ≤ i)
    (hs : ∀ i acc x Hh (R : V → Hp → Prop) (S : Hp → Prop), xs[i]? = some x → Pv i acc Hh → (∀ y H4, H4 D = some (.lst acc) → Pv (i + 1) (acc ++ [y]) (upd H4 D (.lst (acc ++ [y]))) → R y H4) → (∀ H3, Pv (i + 1) acc H3 → S H3) →
      g x (wipe σ vs) Hh fun σ2 H2 => wipe σ2 vs = wipe σ vs ∧ tt σ2 H2 fun b H3 => if b = true then te σ2 H3 R else S H3)
    (hd : ∀ acc H, Pv xs.length acc H → Qd H) :
    ∃ W : Nat → Nat → Hp → Prop, (∃ m, W 0 m (upd H1 D (.lst []))) ∧ ∀ i m H, W i m H →
      (J.stop i H ∧ Qd H) ∨ (J.go i H ∧ ∃ Nx : Hp → Prop, (∀ H', Nx H' → ∃ m', m' < m ∧ W (i + 1) m' H') ∧ ∀ x H', J.yld i H x H' → g x (wipe σ vs) H' fun σ2 H2 => wipe σ2 vs = wipe σ vs ∧ tt σ2 H2 fun b H3 =>
        if b = true then te σ2 H3 fun y H4 => ∃ acc, H4 D = some (.lst acc) ∧ acc.length < sizeLine ∧ Nx (upd H4 D (.lst (acc ++ [y]))) else Nx H3) := by
  refine ⟨fun i m H => m = xs.length - i ∧ i ≤ xs.length ∧ ∃ acc, Pv i acc H, ⟨xs.length, by simp, Nat.zero_le _, [], h0⟩, ?_⟩
  rintro i m H ⟨rfl, hi, acc, hp⟩
  have fi := hJ i acc H hp
  by_cases hlt : i < xs.length
  · refine .inr ⟨fi.go i hlt, fun H' => ∃ acc, Pv (i + 1) acc H', fun H' w => ⟨xs.length - (i + 1), by omega, rfl, hlt, w⟩, ?_⟩
    intro x H' hy
    obtain ⟨rfl, hx⟩ := fi.yld i x H' hy
    obtain ⟨d1, d2⟩ := hD i acc _ hp
    exact hs i acc x _ _ _ hx hp (fun y H4 e q => ⟨acc, e, by rw [sizeLine_eq]; omega, _, q⟩) (fun H3 q => ⟨_, q⟩)
  · have e : i = xs.length := by omega
    subst e
    exact .inl ⟨fi.stop _ (Nat.le_refl _), hd acc H hp⟩

theorem TyOf7.keep {H H' : Hp} {v : V} {T : String} (h : TyOf7 H v T) (k : XT H H') : TyOf7 H' v T := by
  cases h with
  | non => exact .non
  | bl b => exact .bl b
  | int i => exact .int i
  | str z => exact .str z
  | lst h => exact .lst (k _ _ h)
  | tup h => exact .tup (k _ _ h)
  | dct h => exact .dct (k _ _ h)
theorem XT.refl {H : Hp} : XT H H := fun _ _ h => h
theorem kit_seq {K : PySem.W.Frag} : ∀ T ∈ kinds7, PySem.W.kitAny K (.type T) [.type "list", .type "tuple"] = some (decide (T = "list" ∨ T = "tuple")) := by
  intro T h
  unfold kinds7 at h
  simp only [List.mem_cons, List.not_mem_nil, or_false] at h
  rcases h with rfl | rfl | rfl | rfl | rfl | rfl | rfl
  · exact kitAny_cons (b := false) (kit_ty (by decide +kernel)) (fun _ => kitAny_cons (b := false) (kit_ty (by decide +kernel)) (fun _ => rfl) (fun z => nomatch z)) (fun z => nomatch z)
  · exact kitAny_cons (b := false) (kit_ty (by decide +kernel)) (fun _ => kitAny_cons (b := false) (kit_ty (by decide +kernel)) (fun _ => rfl) (fun z => nomatch z)) (fun z => nomatch z)
  · exact kitAny_cons (b := false) (kit_ty (by decide +kernel)) (fun _ => kitAny_cons (b := false) (kit_ty (by decide +kernel)) (fun _ => rfl) (fun z => nomatch z)) (fun z => nomatch z)
  · exact kitAny_cons (b := false) (kit_ty (by decide +kernel)) (fun _ => kitAny_cons (b := false) (kit_ty (by decide +kernel)) (fun _ => rfl) (fun z => nomatch z)) (fun z => nomatch z)
  · exact kitAny_cons (b := true) (kit_ty (by decide +kernel)) (fun z => nomatch z) (fun _ => by decide)
  · exact kitAny_cons (b := false) (kit_ty (by decide +kernel)) (fun _ => kitAny_cons (b := true) (kit_ty (by decide +kernel)) (fun z => nomatch z) (fun _ => by decide)) (fun z => nomatch z)
  · exact kitAny_cons (b := false) (kit_ty (by decide +kernel)) (fun _ => kitAny_cons (b := false) (kit_ty (by decide +kernel)) (fun _ => rfl) (fun z => nomatch z)) (fun z => nomatch z)
def spSeqX (K : PySem.W.Frag) : Sp := fun vs H Q _ => ∃ v Tn, vs = [v] ∧ Tn ∈ kinds7 ∧ (∀ H', XT H H' → TyX K H' v (.type Tn)) ∧ ∀ H', XT H H' → Q (.bl (decide (Tn = "list" ∨ Tn = "tuple"))) H'
section
variable {P : Program} {w : World} {K : PySem.W.Frag} {mg : Str → Option Value} {base : Heap}
theorem ok_is_sequence (T : TxtW w K mg) : Def P w K mg base 1 "is_sequence" ["thing"] (spSeqX K) := by
  obtain ⟨f, fd, h⟩ := T.d_is_sequence
  refine h.def (Fun.okM h.fn sc_is_sequence (fun vs H Q E h => ?_) (fun cdv A outer s H vs Q E hr h => ?_))
  · obtain ⟨v, Tn, rfl, _⟩ := h
    rfl
  · obtain ⟨v, Tn, rfl, hT, ty, k⟩ := h
    refine ⟨_, (pss_one (ps_ret (pe_callB call_isiT (by rfl) T.h_isinstance (by decide +kernel) (pa_cons (pv 0) (pa_cons (pe_tup (pa_cons (pe_bltn (v := .ty "list") (by rfl) T.h_list (by decide +kernel) rfl) (pa_cons (pe_bltn (v := .ty "tuple") (by rfl) T.h_tuple (by decide +kernel) rfl) pa_nil))) pa_nil))))), ?_⟩
    walk_at "g"
    refine ⟨by show 2 ≤ sizeLine; decide, fun t ht => ?_⟩
    walk_at "g"
    have kt : XT H (upd H t (.tup [.ty "list", .ty "tuple"])) := fun q o h => by rw [upd_ne (ne_of_none h ht)]; exact h
    refine ⟨v, t, _, _, _, _, rfl, upd_same, .cons (.ty "list") (.cons (.ty "tuple") .nil), ty _ kt, kit_seq Tn hT, ?_⟩
    walk_at "g"
    exact k _ kt
end
/-! shapes without checks and keys -/
def spShort (K : PySem.W.Frag) : Sp := fun vs H Q _ => ∃ (v : V) (a b : Int), vs = [v, .int a, .int b] ∧
  ((∃ Tn, Tn ∈ kinds7 ∧ TyOf7 H v Tn ∧ Tn ≠ "list" ∧ Tn ≠ "tuple" ∧ ∀ H', XT H H' → Q (.bl false) H') ∨
   (∃ p xs, v = .ref p ∧ (H p = some (.lst xs) ∨ SqT K H p xs) ∧ ∀ H', XT H H' → Q (.bl (decide (a ≤ (xs.length : Int)) && decide ((xs.length : Int) ≤ b))) H'))
theorem xtT {K : PySem.W.Frag} {H H' : Hp} {a : Addr} {xs : List V} (h : SqT K H a xs) (k : XT H H') : SqT K H' a xs := by
  rcases h with h | h
  · rcases h with h | ⟨o, h⟩
    · exact .inl (.inl (k _ _ h))
    · exact .inl (.inr ⟨o, k _ _ h⟩)
  · exact .inr h
def keysP (kvs : List (Key × V)) (S : List Str) : Prop := ∀ z : Str, (valV kvs (Sum.inr z)).isSome = decide (z ∈ S)
theorem keysP.nil : keysP [] [] := fun z => rfl
theorem keysP.put {kvs : List (Key × V)} {S : List Str} {c : Str} {v : V} (h : keysP kvs S) : keysP (putK kvs (Sum.inr c) v) (S ++ [c]) := fun z => by
  rw [valV_put]
  by_cases e : z = c
  · rw [if_pos (by rw [e]), e]
    exact (decide_eq_true (List.mem_append.mpr (.inr (List.mem_singleton.mpr rfl)))).symm
  · rw [if_neg (fun h => e (by injection h)), h z]
    exact decide_eq_decide.mpr ⟨fun h => List.mem_append.mpr (.inl h), fun h => (List.mem_append.mp h).elim id fun h => absurd (List.mem_singleton.mp h) e⟩
structure ColsOk (cs : List Col) : Prop where
  ne : 1 ≤ cs.length
  le : cs.length ≤ 12
  nm : ∀ c ∈ cs, nameP c.1
  nd : (cs.map (·.1)).Nodup
/-- the columns by their names -/
def SpotsAt (H : Hp) (kvs : List (Key × V)) (cs : List Col) : Prop := ∀ (j : Nat) c, cs[j]? = some c → ∃ q, valV kvs (Sum.inr c.1) = some (.ref q) ∧ H q = some (.tup (ct c))
theorem SpotsAt.keep {H H' : Hp} {kvs : List (Key × V)} {cs : List Col} (h : SpotsAt H kvs cs) (k : XT H H') : SpotsAt H' kvs cs := fun j c hc => by
  obtain ⟨q, h1, h2⟩ := h j c hc
  exact ⟨q, h1, k _ _ h2⟩
theorem SpotsAt.keepN {H H' : Hp} {x : Addr} {o : HO} {kvs : List (Key × V)} {cs : List Col} (h : SpotsAt H kvs cs) (hx : H x = some o) (no : ∀ l, o ≠ .tup l) (k : ∀ q o, q ≠ x → H q = some o → H' q = some o) : SpotsAt H' kvs cs := fun j c hc => by
  obtain ⟨q, h1, h2⟩ := h j c hc
  exact ⟨q, h1, k _ _ (fun z => by rw [z, hx] at h2; exact no _ (by injection h2)) h2⟩
/-- a shape made of the columns cs -/
def ShapeAt (C : Addr) (H : Hp) (cs : List Col) (x : Addr) : Prop := ∃ dx fs D kvs, H x = some (.ins C dx fs) ∧ fs.lookup ("spots" : Str) = some (V.ref D) ∧ H D = some (.dK kvs) ∧ keysP kvs (cs.map (·.1)) ∧ SpotsAt H kvs cs
theorem ShapeAt.keep {C x : Addr} {H H' : Hp} {cs : List Col} (h : ShapeAt C H cs x) (k : XT H H') : ShapeAt C H' cs x := by
  obtain ⟨dx, fs, D, kvs, h1, h2, h3, h4, h5⟩ := h
  exact ⟨dx, fs, D, kvs, k _ _ h1, h2, k _ _ h3, h4, h5.keep k⟩
theorem g_dput {σ : L2.St} {H : Hp} {D : Ends} {td ty tv : TE} (q : tv σ H fun v H1 => td σ H1 fun x H2 => ty σ H2 fun y H3 => ∃ a H4, x = .ref a ∧ DPut H3 a y v H4 ∧ D.nx σ H4) : sDPut td ty tv D σ H := q
section
variable {P : Program} {w : World} {K : PySem.W.Frag} {mg : Str → Option Value} {base : Heap}
theorem ok_is_short (T : TxtW w K mg) : Def P w K mg base 2 "is_short" ["thing", "least", "most"] (spShort K) := by
  obtain ⟨f, fd, h⟩ := T.d_is_short
  refine h.def (Fun.okM h.fn sc_is_short (fun vs H Q E h => ?_) (fun cdv A outer s H vs Q E hr h => ?_))
  · obtain ⟨v, a, b, rfl, _⟩ := h
    rfl
  · obtain ⟨v, a, b, rfl, h⟩ := h
    refine ⟨_, (pss_one (ps_ret (pe_and (pe_def (ok_is_sequence T) hr rfl (pa_cons (pv 0) pa_nil)) (pe_and (pe_cmpR op_leG (pv 1) (pe_callB (call_lenG (K := K) rfl) (by rfl) T.h_len (by decide +kernel) (pa_cons (pv 0) pa_nil)) (nomark _)) (pe_one (pe_cmpR op_leG (pe_callB (call_lenG (K := K) rfl) (by rfl) T.h_len (by decide +kernel) (pa_cons (pv 0) pa_nil)) (pv 2) (nomark _))))))), ?_⟩
    rcases h with ⟨Tn, hT, ty, n1, n2, k⟩ | ⟨p, xs, rfl, hp, k⟩
    · walk_at "g"
      refine ⟨v, Tn, rfl, hT, fun H' x => (ty.keep x).x K, fun H' x => ?_⟩
      rw [decide_eq_false (fun h => h.elim n1 n2)]
      walk_at "g"
      exact k _ x
    · rcases hp with hp | hp
      · walk_at "g"
        refine ⟨.ref p, "list", rfl, by decide, fun H' x => .base (.lst (x _ _ hp)), fun H' x => ?_⟩
        rw [show decide ("list" = "list" ∨ "list" = "tuple") = true by decide]
        walk_at "g"
        refine g_lenL (SqL.of (x _ _ hp)) ?_
        walk_at "g"
        by_cases ha : a ≤ (xs.length : Int)
        · rw [decide_eq_true ha]
          walk_at "g"
          refine g_lenL (SqL.of (x _ _ hp)) ?_
          walk_at "g"
          have := k _ x
          rw [decide_eq_true ha, Bool.true_and] at this
          exact this
        · rw [decide_eq_false ha]
          walk_at "g"
          have := k _ x
          rw [decide_eq_false ha, Bool.false_and] at this
          exact this
      · walk_at "g"
        refine ⟨.ref p, "tuple", rfl, by decide, fun H' x => tyx_t (xtT hp x), fun H' x => ?_⟩
        rw [show decide ("tuple" = "list" ∨ "tuple" = "tuple") = true by decide]
        walk_at "g"
        refine g_lenT (xtT hp x) ?_
        walk_at "g"
        by_cases ha : a ≤ (xs.length : Int)
        · rw [decide_eq_true ha]
          walk_at "g"
          refine g_lenT (xtT hp x) ?_
          walk_at "g"
          have := k _ x
          rw [decide_eq_true ha, Bool.true_and] at this
          exact this
        · rw [decide_eq_false ha]
          walk_at "g"
          have := k _ x
          rw [decide_eq_false ha, Bool.false_and] at this
          exact this
end
/-! orders -/
inductive PtAt (H : Hp) : V → Option (Str × Bool) → Prop
  | nos {v : V} {T : String} (hT : T ∈ kinds7) (h : TyOf7 H v T) (n : T ≠ "list") (m : T ≠ "tuple") : PtAt H v none
  | len {p : Addr} {xs : List V} (h : H p = some (.lst xs) ∨ H p = some (.tup xs)) (n : xs.length ≠ 2) : PtAt H (.ref p) none
  | nam {p : Addr} {x y : V} (h : H p = some (.tup [x, y])) (hx : thing H x) (n : nameB x = false) : PtAt H (.ref p) none
  | dir {p : Addr} {z : Str} {y : V} (h : H p = some (.tup [.str z, y])) (hz : nameP z) (hy : (∃ b, y = .bl b) ∨ ∃ s : Str, y = .str s ∧ s ≠ "up" ∧ s ≠ "down") : PtAt H (.ref p) none
  | ok {p : Addr} {c : Str × Bool} (h : H p = some (.tup (pt c))) (hz : nameP c.1) : PtAt H (.ref p) (some c)
theorem PtAt.keep {H H' : Hp} {v : V} {r : Option (Str × Bool)} (h : PtAt H v r) (k : XT H H') : PtAt H' v r := by
  cases h with
  | nos hT h n m => exact .nos hT (h.keep k) n m
  | len h n => exact .len (h.elim (fun h => .inl (k _ _ h)) fun h => .inr (k _ _ h)) n
  | nam h hx n => exact .nam (k _ _ h) (hx.keep k) n
  | dir h hz hy => exact .dir (k _ _ h) hz hy
  | ok h hz => exact .ok (k _ _ h) hz
/-- the first wrong part -/
def bad : List Str → Nat → List (Option (Str × Bool)) → Option Nat
  | _, _, [] => none
  | _, i, none :: _ => some i
  | S, i, some c :: r => if c.1 ∈ S then some i else bad (S ++ [c.1]) (i + 1) r
def dueF : Option (List (Option (Str × Bool))) → Option Int
  | none => some (-1)
  | some rs => if rs.length < 1 ∨ 3 < rs.length then some (-1) else (bad [] 0 rs).map Int.ofNat
/-- a thing that is given as an order -/
inductive ThAt (H : Hp) : V → Option (List (Option (Str × Bool))) → Prop
  | nos {v : V} {T : String} (hT : T ∈ kinds7) (h : TyOf7 H v T) (n : T ≠ "list") (m : T ≠ "tuple") : ThAt H v none
  | seq {p : Addr} {xs : List V} {rs : List (Option (Str × Bool))} (h : H p = some (.lst xs) ∨ H p = some (.tup xs)) (hl : xs.length = rs.length) (hs : ∀ (i : Nat) x r, xs[i]? = some x → rs[i]? = some r → PtAt H x r) : ThAt H (.ref p) (some rs)
theorem ThAt.keep {H H' : Hp} {v : V} {d : Option (List (Option (Str × Bool)))} (h : ThAt H v d) (k : XT H H') : ThAt H' v d := by
  cases h with
  | nos hT h n m => exact .nos hT (h.keep k) n m
  | seq h hl hs => exact .seq (h.elim (fun h => .inl (k _ _ h)) fun h => .inr (k _ _ h)) hl fun i x r hx hr => (hs i x r hx hr).keep k
theorem seq_t {K : PySem.W.Frag} {H : Hp} {p : Addr} {xs : List V} (h : H p = some (.lst xs) ∨ H p = some (.tup xs)) : H p = some (.lst xs) ∨ SqT K H p xs := h.elim .inl fun h => .inr (SqT.of h)
theorem seq_a {K : PySem.W.Frag} {H : Hp} {p : Addr} {xs : List V} (h : H p = some (.lst xs) ∨ H p = some (.tup xs)) : SqA K H p xs := h.elim (fun h => .inl (SqL.of h)) fun h => .inr (SqT.of h)
theorem g_ixA {K : PySem.W.Frag} {H : Hp} {p : Addr} {xs : List V} {i : Int} {v : V} {Q : VK} (h : H p = some (.lst xs) ∨ H p = some (.tup xs)) (e : atI xs i = some v) (q : Q v H) : rIx K (.ref p) (.int i) H Q := by
  rcases h with h | h
  · exact g_ixL (SqL.of h) e q
  · exact g_ixT (SqT.of h) e q
theorem seq_keep {H H' : Hp} {p : Addr} {xs : List V} (h : H p = some (.lst xs) ∨ H p = some (.tup xs)) (k : XT H H') : H' p = some (.lst xs) ∨ H' p = some (.tup xs) := h.elim (fun h => .inl (k _ _ h)) fun h => .inr (k _ _ h)
theorem dS_in {u : Bool} : decide (dS u ∈ [Str.ofString "up", Str.ofString "down"]) = true := by cases u <;> decide +kernel
/-- the order made -/
def OT (H : Hp) (a : Addr) (ps : List (Str × Bool)) : Prop := ∃ qs : List Addr, H a = some (.tup (qs.map V.ref)) ∧ qs.length = ps.length ∧ ∀ (i : Nat) (q : Addr) (c : Str × Bool), qs[i]? = some q → ps[i]? = some c → H q = some (.tup (pt c))
theorem OT.keep {H H' : Hp} {a : Addr} {ps : List (Str × Bool)} (h : OT H a ps) (k : XT H H') : OT H' a ps := by
  obtain ⟨qs, h1, h2, h3⟩ := h
  exact ⟨qs, k _ _ h1, h2, fun i q c hq hc => k _ _ (h3 i q c hq hc)⟩
def xat (i : Int) : HO := .xd [(("at" : Str), .int i)]
def spNeedO (CB : Addr) : Sp := fun vs H Q E => ∃ (v : V) (d : Option (List (Option (Str × Bool)))), vs = [v] ∧ ThAt H v d ∧
  (∀ i, dueF d = some i → ∀ e H', XT H H' → H' e = some (xat i) → E (.ref CB) (some e) H') ∧
  (∀ rs cs, d = some rs → rs = cs.map some → dueF d = none → ∀ t H', XT H H' → OT H' t cs → Q (.ref t) H')
theorem bad_none : ∀ {rs : List (Option (Str × Bool))} {S : List Str} {i : Nat}, bad S i rs = none → ∃ cs : List (Str × Bool), rs = cs.map some
  | [], _, _, _ => ⟨[], rfl⟩
  | none :: _, _, _, h => by cases h
  | some c :: r, S, i, h => by
    unfold bad at h
    by_cases hm : c.1 ∈ S
    · rw [if_pos hm] at h; cases h
    · rw [if_neg hm] at h
      obtain ⟨cs, e⟩ := bad_none h
      exact ⟨c :: cs, by rw [e]; rfl⟩
section
variable {P : Program} {w : World} {K : PySem.W.Frag} {mg : Str → Option Value} {base : Heap}
theorem ok_is_part (T : TxtW w K mg) : Def P w K mg base 3 "is_part" ["thing"] (fun vs H Q _ => ∃ (v : V) (r : Option (Str × Bool)), vs = [v] ∧ PtAt H v r ∧ ∀ H', XT H H' → Q (.bl r.isSome) H') := by
  obtain ⟨f, fd, h⟩ := T.d_is_part
  obtain ⟨t_DIRECTIONS, G_DIRECTIONS, Q_DIRECTIONS⟩ := T.k_DIRECTIONS
  refine h.def (Fun.okM h.fn sc_is_part (fun vs H Q E h => ?_) (fun cdv A outer s H vs Q E hr h => ?_))
  · obtain ⟨v, r, rfl, _⟩ := h
    rfl
  · obtain ⟨v, r, rfl, hp, k⟩ := h
    refine ⟨_, (pss_cons (ps_if (PW.pt (pw_or (pt_not (pt_val (pe_def (ok_is_short T) hr rfl (pa_cons (pv 0) (pa_cons pe_int (pa_cons pe_int pa_nil)))))) (pw_or1 (pt_not (pt_val (pe_def (ok_is_name T) hr rfl (pa_cons (pe_ix (ix_seqG (K := K) rfl) (pv 0) pe_int (fun _ _ => rfl)) pa_nil)))))))
  (pss_one (ps_ret pe_bl))
  pss_nil)
  (pss_one (ps_ret (pe_and (pe_callB (call_isiG (K := K) rfl) (by rfl) T.h_isinstance (by decide +kernel) (pa_cons (pe_ix (ix_seqG (K := K) rfl) (pv 0) pe_int (fun _ _ => rfl)) (pa_cons (pe_bltn (v := .ty "str") (by rfl) T.h_str (by decide +kernel) rfl) pa_nil))) (pe_one (pe_cmpR (op_inG (K := K) rfl) (pe_ix (ix_seqG (K := K) rfl) (pv 0) pe_int (fun _ _ => rfl)) (pe_glob (v := .ref t_DIRECTIONS) rfl G_DIRECTIONS rfl) (by rfl))))))), ?_⟩
    have two : (decide ((2 : Int) ≤ ((2 : Nat) : Int)) && decide (((2 : Nat) : Int) ≤ 2)) = true := by decide
    cases hp with
    | nos hT ty n m =>
      walk_at "g"
      refine ⟨v, _, _, rfl, .inl ⟨_, hT, ty, n, m, fun H1 x1 => ?_⟩⟩
      walk_at "g"
      exact k _ x1
    | len hp n =>
      rename_i p xs
      walk_at "g"
      refine ⟨_, _, _, rfl, .inr ⟨p, xs, rfl, seq_t hp, fun H1 x1 => ?_⟩⟩
      have : (decide ((2 : Int) ≤ (xs.length : Int)) && decide ((xs.length : Int) ≤ 2)) = false := by
        by_cases h2 : (2 : Int) ≤ (xs.length : Int)
        · rw [decide_eq_true h2, decide_eq_false (by omega)]; rfl
        · rw [decide_eq_false h2]; rfl
      rw [this]
      walk_at "g"
      exact k _ x1
    | nam hp hx n =>
      rename_i p x y
      walk_at "g"
      refine ⟨_, _, _, rfl, .inr ⟨p, [x, y], rfl, .inr (SqT.of hp), fun H1 x1 => ?_⟩⟩
      rw [show (decide ((2 : Int) ≤ (([x, y] : List V).length : Int)) && decide ((([x, y] : List V).length : Int) ≤ 2)) = true from two]
      walk_at "g"
      refine g_ixT (SqT.of (x1 _ _ hp)) (v := x) (by rfl) ?_
      walk_at "g"
      refine ⟨_, rfl, hx.keep x1, fun H2 x2 => ?_⟩
      rw [n]
      walk_at "g"
      exact k _ (x1.trans x2)
    | dir hp hz hy =>
      rename_i p z y
      walk_at "g"
      refine ⟨_, _, _, rfl, .inr ⟨p, [.str z, y], rfl, .inr (SqT.of hp), fun H1 x1 => ?_⟩⟩
      rw [show (decide ((2 : Int) ≤ (([.str z, y] : List V).length : Int)) && decide ((([.str z, y] : List V).length : Int) ≤ 2)) = true from two]
      walk_at "g"
      refine g_ixT (SqT.of (x1 _ _ hp)) (v := .str z) (by rfl) ?_
      walk_at "g"
      refine ⟨_, rfl, .inr (.inr (.inr (.inl ⟨_, rfl, by have := hz.2.1; omega⟩))), fun H2 x2 => ?_⟩
      rw [nameB_str.mpr hz]
      have hp2 := x2 _ _ (x1 _ _ hp)
      walk_at "g"
      rcases hy with ⟨b, rfl⟩ | ⟨s', rfl, n1, n2⟩
      · refine g_ixT (SqT.of hp2) (v := .bl b) (by rfl) ?_
        walk_at "g"
        exact k _ (x1.trans x2)
      · refine g_ixT (SqT.of hp2) (v := .str s') (by rfl) ?_
        walk_at "g"
        refine g_ixT (SqT.of hp2) (v := .str s') (by rfl) ?_
        walk_at "g"
        refine .inr ⟨_, [Str.ofString "up", Str.ofString "down"].map V.str, rfl, .inr (Q_DIRECTIONS _), rfl, Tw.flat_strs _, ?_⟩
        rw [if_neg Bool.false_ne_true, inV_strs, decide_eq_false (fun h => by
          rcases List.mem_cons.mp h with h | h
          · exact n1 h
          · exact n2 (List.mem_singleton.mp h))]
        walk_at "g"
        exact k _ (x1.trans x2)
    | ok hp hz =>
      rename_i p c
      walk_at "g"
      refine ⟨_, _, _, rfl, .inr ⟨p, pt c, rfl, .inr (SqT.of hp), fun H1 x1 => ?_⟩⟩
      rw [show (decide ((2 : Int) ≤ ((pt c).length : Int)) && decide (((pt c).length : Int) ≤ 2)) = true from two]
      walk_at "g"
      refine g_ixT (SqT.of (x1 _ _ hp)) (v := .str c.1) (by rfl) ?_
      walk_at "g"
      refine ⟨_, rfl, .inr (.inr (.inr (.inl ⟨_, rfl, by have := hz.2.1; omega⟩))), fun H2 x2 => ?_⟩
      rw [nameB_str.mpr hz]
      have hp2 := x2 _ _ (x1 _ _ hp)
      walk_at "g"
      refine g_ixT (SqT.of hp2) (v := .str (dS c.2)) (by rfl) ?_
      walk_at "g"
      refine g_ixT (SqT.of hp2) (v := .str (dS c.2)) (by rfl) ?_
      walk_at "g"
      refine .inr ⟨_, [Str.ofString "up", Str.ofString "down"].map V.str, rfl, .inr (Q_DIRECTIONS _), rfl, Tw.flat_strs _, ?_⟩
      rw [if_neg Bool.false_ne_true, inV_strs, dS_in]
      walk_at "g"
      exact k _ (x1.trans x2)
end
section
variable {P : Program} {w : World} {K : PySem.W.Frag} {mg : Str → Option Value} {base : Heap}
theorem g_raiseBO {C : Addr} {W : WX} {ta : TA} {D : Ends} {σ : L2.St} {H : Hp} (q : ta σ H fun vs H1 => ∃ v, vs = [v] ∧ ∀ d, H1 d = none → W (.ref C) (some d) σ (upd H1 d (.xd [(("at" : Str), v)]))) : tRaiseBadOrder C W ta D σ H := q
theorem due_len {rs : List (Option (Str × Bool))} (h : ¬ (rs.length < 1 ∨ 3 < rs.length)) : dueF (some rs) = (bad [] 0 rs).map Int.ofNat := by
  show (if rs.length < 1 ∨ 3 < rs.length then some (-1) else (bad [] 0 rs).map Int.ofNat) = _
  rw [if_neg h]
theorem due_bad {rs : List (Option (Str × Bool))} (h : rs.length < 1 ∨ 3 < rs.length) : dueF (some rs) = some (-1) := by
  show (if rs.length < 1 ∨ 3 < rs.length then some (-1) else (bad [] 0 rs).map Int.ofNat) = _
  rw [if_pos h]
theorem bad_in {S : List Str} {i : Nat} {c : Str × Bool} {r : List (Option (Str × Bool))} (h : c.1 ∈ S) : bad S i (some c :: r) = some i := by
  show (if c.1 ∈ S then some i else bad (S ++ [c.1]) (i + 1) r) = _
  rw [if_pos h]
theorem bad_step {S : List Str} {i : Nat} {c : Str × Bool} {r : List (Option (Str × Bool))} (h : c.1 ∉ S) : bad S i (some c :: r) = bad (S ++ [c.1]) (i + 1) r := by
  show (if c.1 ∈ S then some i else bad (S ++ [c.1]) (i + 1) r) = _
  rw [if_neg h]
theorem ok_need_order (T : TxtW w K mg) : DefX P w K mg base 4 "need_order" ["thing"] (spNeedO (cadr mg "BadOrder")) := by
  obtain ⟨f, fd, h⟩ := T.d_need_order
  obtain ⟨t_MOST_PARTS, G_MOST_PARTS⟩ := T.k_MOST_PARTS
  obtain ⟨fE_BadOrder, EB_BadOrder⟩ := T.x_BadOrder
  refine h.defX (Fun.okMX h.fn sc_need_order (fun vs H Q E h => ?_) (fun cdv A outer s H vs Q E hr h => ?_))
  · obtain ⟨v, d, rfl, _⟩ := h
    rfl
  · obtain ⟨v, d, rfl, hT, kE, kQ⟩ := h
    refine ⟨_, (pss_cons (ps_if (pt_not (pt_val (pe_def (ok_is_short T) hr rfl (pa_cons (pv 0) (pa_cons pe_int (pa_cons (pe_glob (v := .int 3) rfl G_MOST_PARTS ⟨_, rfl⟩) pa_nil))))))
  (pss_one (ps_raiseBadOrder rfl EB_BadOrder hr (takes_of rfl rfl rfl rfl) (pa_cons (pe_un un_negG pe_int) pa_nil)))
  pss_nil)
  (pss_cons (ps_set (i := 1) sc_need_order.nd rfl (Or.inl rfl) pe_dnewK)
  (pss_cons (ps_for (passes_of rfl) rfl (pi_enumG (K := K) rfl (by rfl) T.h_enumerate (pa_cons (pv 0) pa_nil)) (pg_tupG (K := K) (n := 2) rfl rfl (pgs_cons (pg_name (i := 2) sc_need_order.nd rfl (Or.inl rfl)) (pgs_cons (pg_name (i := 3) sc_need_order.nd rfl (Or.inl rfl)) pgs_nil)))
  (pss_cons (ps_if (PW.pt (pw_or (pt_not (pt_val (pe_def (ok_is_part T) hr rfl (pa_cons (pv 3) pa_nil)))) (pw_or1 (pt_cmp (pc_din (hu_of hr) (pe_ix (ix_seqG (K := K) rfl) (pv 3) pe_int (fun _ _ => rfl)) (pv 1))))))
  (pss_one (ps_raiseBadOrder rfl EB_BadOrder hr (takes_of rfl rfl rfl rfl) (pa_cons (pv 2) pa_nil)))
  pss_nil)
  (pss_one (ps_dput (hu_of hr) (pv 1) (pe_ix (ix_seqG (K := K) rfl) (pv 3) pe_int (fun _ _ => rfl)) pe_bl rfl))))
  (pss_one (ps_ret (pe_callTy (call_tupleG (K := K) rfl) (by rfl) T.h_tuple (by decide +kernel) (pa_cons (pe_lc (own := [("part", 3)]) rfl sc_need_order.nd (pi_seqG (K := K) rfl (pv 0)) (blkOk_by (N := N_need_order) (sc := defScope S_need_order) (by decide +kernel)) (fun _ _ _ _ _ => pg_name (i := 3) sc_need_order.nd rfl (Or.inl rfl)) (fun _ _ _ _ _ => pts_nil) (fun _ _ _ _ _ => (pe_callTy (call_tupleG (K := K) rfl) (by rfl) T.h_tuple (by decide +kernel) (pa_cons (pv 3) pa_nil)))) pa_nil))))))), ?_⟩
    cases hT with
    | nos hT ty n m =>
      walk_at "g"
      refine ⟨v, _, _, rfl, .inl ⟨_, hT, ty, n, m, fun H1 x1 => ?_⟩⟩
      walk_at "g"
      refine g_raiseBO ?_
      walk_at "g"
      exact ⟨_, rfl, fun d hd => kE (-1) rfl d _ (x1.new hd) upd_same⟩
    | seq hp hl hs =>
      rename_i p xs rs
      walk_at "g"
      refine ⟨_, _, _, rfl, .inr ⟨p, xs, rfl, seq_t hp, fun H1 x1 => ?_⟩⟩
      by_cases hlen : xs.length < 1 ∨ 3 < xs.length
      · have : (decide ((1 : Int) ≤ (xs.length : Int)) && decide ((xs.length : Int) ≤ 3)) = false := by
          by_cases h2 : (1 : Int) ≤ (xs.length : Int)
          · rw [decide_eq_true h2, decide_eq_false (by omega)]; rfl
          · rw [decide_eq_false h2]; rfl
        rw [this]
        walk_at "g"
        refine g_raiseBO ?_
        walk_at "g"
        exact ⟨_, rfl, fun d hd => kE (-1) (due_bad (by omega)) d _ (x1.new hd) upd_same⟩
      · rw [show (decide ((1 : Int) ≤ (xs.length : Int)) && decide ((xs.length : Int) ≤ 3)) = true by
          rw [decide_eq_true (by omega), decide_eq_true (by omega)]; rfl]
        have hd : dueF (some rs) = (bad [] 0 rs).map Int.ofNat := due_len (by omega)
        walk_at "g"
        intro r hr
        have x2 := x1.new (o := .dK []) hr
        have e2 : (upd H1 r (.dK [])) r = some (.dK []) := upd_same
        generalize upd H1 r (.dK []) = H2 at x2 e2
        have hHr : H r = none := by
          cases e : H r with
          | none => rfl
          | some o => rw [x1 _ _ e] at hr; cases hr
        have nr : p ≠ r := fun z => by rw [z, hHr] at hp; rcases hp with h | h <;> cases h
        walk_at "g"
        refine g_enumG ?_
        walk_at "g"
        refine ⟨p, xs, rfl, seq_a (seq_keep hp x2), fun J hJ => ?_⟩
        refine for_enumA (xs := xs) (fun i σ' H' => ∃ (s2 s3 : Option V) (kvs : List (Key × V)) (cs : List (Str × Bool)), σ' = [some (.ref p), some (.ref r), s2, s3] ∧ XT H H' ∧ H' r = some (.dK kvs) ∧ keysP kvs (cs.map (·.1)) ∧ kvs.length ≤ i ∧ rs.take i = cs.map some ∧ bad [] 0 rs = bad (cs.map (·.1)) i (rs.drop i)) ⟨none, none, [], [], rfl, x2, e2, keysP.nil, Nat.le_refl _, rfl, rfl⟩ ?_ ?_ ?_
        · rintro i σ' H' hi ⟨s2, s3, kvs, cs, rfl, x3, _⟩
          refine hJ H' ?_
          rcases hp with h | h
          · rw [x3 _ _ h, x2 _ _ h]
          · rw [x3 _ _ h, x2 _ _ h]
        · rintro i v t σ' H3 D' hv ⟨s2, s3, kvs, cs, rfl, x3, e3, hk, hkl, htk, hbad⟩ ht hnx hct hbk hrt
          have hil : i < xs.length := (List.getElem?_eq_some_iff.mp hv).1
          obtain ⟨ro, hro⟩ : ∃ ro, rs[i]? = some ro := ⟨_, List.getElem?_eq_getElem (by omega)⟩
          have hpt := hs i v ro hv hro
          have edr : rs.drop i = ro :: rs.drop (i + 1) := by
            rw [List.drop_eq_getElem_cons (by omega)]
            congr 1
            exact Option.some.inj (by rw [← hro, List.getElem?_eq_getElem (by omega)])
          have x4 := x3.new (o := .tup [.int (i : Nat), v]) ht
          have nrt : r ≠ t := ne_of_none e3 ht
          have e4 : (upd H3 t (.tup [.int (i : Nat), v])) r = some (.dK kvs) := by rw [upd_ne nrt]; exact e3
          refine g_gtup upd_same rfl ?_
          refine g_gcons ?_
          walk_at "g"
          refine g_gcons ?_
          walk_at "g"
          refine g_gnil ?_
          generalize upd H3 t (.tup [.int (i : Nat), v]) = H4 at x4 e4
          walk_at "g"
          refine ⟨_, _, rfl, hpt.keep x4, fun H5 x5 => ?_⟩
          have x45 := x4.trans x5
          cases ro with
          | none =>
            rw [show (none : Option (Str × Bool)).isSome = false from rfl]
            walk_at "g"
            refine g_raiseBO ?_
            walk_at "g"
            exact ⟨_, rfl, fun d hdn => kE i (by rw [hd, hbad, edr]; rfl) d _ (x45.new hdn) upd_same⟩
          | some c =>
            cases hpt with
            | ok hq hz =>
            rename_i q
            have eq5 := x45 _ _ hq
            have e5 := x5 _ _ e4
            rw [show (some c).isSome = true from rfl]
            walk_at "g"
            refine g_ixT (SqT.of eq5) (v := .str c.1) (show atI (pt c) 0 = some (.str c.1) from rfl) ?_
            walk_at "g"
            refine ⟨_, _, rfl, DGet.k (k := Sum.inr c.1) e5, ?_⟩
            rw [hk]
            walk_at "g"
            refine g_dec (fun hm => ?_) (fun hm => ?_)
            · walk_at "g"
              refine g_raiseBO ?_
              walk_at "g"
              exact ⟨_, rfl, fun d hdn => kE i (by rw [hd, hbad, edr, bad_in hm]; rfl) d _ (x45.new hdn) upd_same⟩
            · walk_at "g"
              refine g_dput ?_
              walk_at "g"
              refine g_ixT (SqT.of eq5) (v := .str c.1) (by rfl) ?_
              refine ⟨r, _, rfl, DPut.k (k := Sum.inr c.1) e5 (by rw [sizeLine_eq]; omega), ?_⟩
              refine hnx _ _ ⟨_, _, _, cs ++ [c], rfl, fun q o h => ?_, upd_same, by rw [List.map_append]; exact hk.put, Nat.le_trans (length_putK _ _ _) (by omega), ?_, ?_⟩
              · rw [upd_ne (fun z => by rw [z, hHr] at h; cases h)]
                exact x45 _ _ h
              · rw [List.take_succ, hro, htk, List.map_append]
                rfl
              · rw [hbad, edr, bad_step hm, List.map_append]
                rfl
        · rintro σ' H3 ⟨s2, s3, kvs, cs, rfl, x3, e3, hk, hkl, htk, hbad⟩
          have hrs : rs = cs.map some := by rw [← htk, List.take_of_length_le (by omega)]
          have hnone : dueF (some rs) = none := by
            rw [hd, hbad, List.drop_of_length_le (by omega)]
            rfl
          walk_at "g"
          refine g_seqG ?_
          walk_at "g"
          refine ⟨p, xs, rfl, seq_a (seq_keep hp x3), fun J hJ D hD => ?_⟩
          refine lc_new xs (fun i y H' => ∃ q c, y = .ref q ∧ cs[i]? = some c ∧ H' q = some (.tup (pt c))) hD (fun H2 k2 => hJ H2 (by
            rcases seq_keep hp x3 with h | h
            · rw [k2 _ _ h, h]
            · rw [k2 _ _ h, h])) (by omega) ?_ ?_ ?_
          · rintro i y Ha Hb ⟨zs, hz⟩ ⟨q, c, rfl, h1, h2⟩ hk
            exact ⟨q, c, rfl, h1, hk _ _ (fun z => by rw [z, hz] at h2; cases h2) h2⟩
          · intro i y Hh R S hy kh _ hR
            have hil : i < xs.length := (List.getElem?_eq_some_iff.mp hy).1
            have hcl : cs.length = xs.length := by rw [hl, hrs, List.length_map]
            obtain ⟨c, hc⟩ : ∃ c, cs[i]? = some c := ⟨_, List.getElem?_eq_getElem (by omega)⟩
            have hpt := (hs i y (some c) hy (by rw [hrs, List.getElem?_map, hc]; rfl)).keep (x3.trans kh)
            cases hpt with
            | ok hq hz =>
            rename_i q
            walk_at "g"
            refine ⟨rfl, ?_⟩
            walk_at "g"
            refine g_tupT (SqT.of hq) ?_
            exact hR _ _ (fun q o h => h) ⟨q, c, rfl, hc, hq⟩
          · intro HA ys xA hW hyl hys
            have hcl : cs.length = xs.length := by rw [hl, hrs, List.length_map]
            walk_at "g"
            refine g_tupL (SqL.of hW) fun t ht => ?_
            obtain ⟨qs, rfl, hqs⟩ : ∃ qs : List Addr, ys = qs.map V.ref ∧ ∀ (i : Nat) (q : Addr), qs[i]? = some q → ∃ c, cs[i]? = some c ∧ HA q = some (.tup (pt c)) := by
              have key : ∀ (ys : List V), (∀ y ∈ ys, ∃ q, y = .ref q) → ∃ qs : List Addr, ys = qs.map V.ref := by
                intro ys
                induction ys with
                | nil => exact fun _ => ⟨[], rfl⟩
                | cons y r ih =>
                  intro h
                  obtain ⟨q, rfl⟩ := h y List.mem_cons_self
                  obtain ⟨qs, rfl⟩ := ih fun z hz => h z (List.mem_cons_of_mem _ hz)
                  exact ⟨q :: qs, rfl⟩
              obtain ⟨qs, rfl⟩ := key ys fun y hy => by
                obtain ⟨i, hi⟩ := List.getElem?_of_mem hy
                obtain ⟨q, c, e, _⟩ := hys i y hi
                exact ⟨q, e⟩
              refine ⟨qs, rfl, fun i q hq => ?_⟩
              obtain ⟨q2, c, e, h1, h2⟩ := hys i (.ref q) (by rw [List.getElem?_map, hq]; rfl)
              injection e with e
              exact ⟨c, h1, by rw [e]; exact h2⟩
            have xB : XT HA (upd HA t (.tup (qs.map V.ref))) := fun q o h => by rw [upd_ne (ne_of_none h ht)]; exact h
            refine kQ rs cs rfl hrs hnone t _ (fun q o h => xB _ _ (xA _ _ (x3 _ _ h))) ⟨qs, upd_same, by rw [hcl, ← hyl, List.length_map], fun i q c hq hc => ?_⟩
            obtain ⟨c2, h1, h2⟩ := hqs i q hq
            rw [hc] at h1
            injection h1 with h1
            rw [h1]
            exact xB _ _ h2
end
structure OOk (o : List (Str × Bool)) : Prop where
  ne : 1 ≤ o.length
  le : o.length ≤ 3
  nm : ∀ c ∈ o, nameP c.1
  nd : (o.map (·.1)).Nodup
theorem dS_inj {a b : Bool} (h : dS a = dS b) : a = b := by
  revert h
  cases a <;> cases b <;> decide +kernel
theorem ext_newO {H : Hp} {p : Addr} {o : HO} (hp : H p = none) : ∀ q u, H q = some u → (upd H p o) q = some u := fun q u h => by rw [upd_ne (ne_of_none h hp)]; exact h
theorem nodup_len {xs zs : List Str} (h : zs.Nodup) (m : ∀ k, k ∈ zs ↔ k ∈ xs) (n : xs.Nodup) : zs.length = xs.length :=
  ((List.perm_ext_iff_of_nodup h n).mpr m).length_eq
theorem bad_some : ∀ {cs : List (Str × Bool)} {S : List Str} {i : Nat}, (cs.map (·.1)).Nodup → (∀ c ∈ cs, c.1 ∉ S) → bad S i (cs.map some) = none
  | [], _, _, _, _ => rfl
  | c :: r, S, i, hn, hs => by
    rw [List.map_cons, bad_step (hs c List.mem_cons_self)]
    rw [List.map_cons] at hn
    obtain ⟨h1, h2⟩ := List.nodup_cons.mp hn
    refine bad_some h2 fun d hd hm => ?_
    rcases List.mem_append.mp hm with hm | hm
    · exact hs d (List.mem_cons_of_mem _ hd) hm
    · exact h1 (by rw [← List.mem_singleton.mp hm]; exact List.mem_map.mpr ⟨d, hd, rfl⟩)
theorem OOk.due {o : List (Str × Bool)} (h : OOk o) : dueF (some (o.map some)) = none := by
  have h1 := h.ne
  have h2 := h.le
  rw [due_len (by rw [List.length_map]; omega), bad_some h.nd (fun c _ => List.not_mem_nil)]
  rfl
def Ts.cols (t : Ts) : List Str := t.atoms.flatMap Ts.flds
def spNames (C : Addr) (n : Nat) : Sp := fun vs H Q _ => ∃ (p : Addr) (t : Ts), vs = [.ref p] ∧ TestAt C H t p ∧ t.depth ≤ n ∧ t.size ≤ 1000 ∧ t.cols.length ≤ 1000 ∧
  ∀ zs L H', H L = none → (∀ q o, H q = some o → H' q = some o) → H' L = some (.lst (zs.map V.str)) → PyProof.Rows.sortedS zs = true → zs.Nodup → (∀ k, k ∈ zs ↔ k ∈ t.cols) → Q (.ref L) H'
section
variable {P : Program} {w : World} {K : PySem.W.Frag} {mg : Str → Option Value} {base : Heap}
end
def isI (v : V) : Prop := ∃ i, v = .int i
def isS (v : V) : Prop := ∃ z : Str, v = .str z ∧ z.length ≤ 100 ∧ ∀ c ∈ z.cps.toList, c ∈ signs.cps.toList
/-! the forms of tests -/
inductive At where
  | always
  | never
  | empty (c : Str)
  | among (c : Str) (vs : List V)
  | begins (c z : Str)
  | compare (c op : Str) (v : V)
  | against (c op d : Str) (n : Int)
namespace At
def word : At → Str
  | .always => "always"
  | .never => "never"
  | .empty _ => "empty"
  | .among _ _ => "among"
  | .begins _ _ => "begins"
  | .compare _ _ _ => "compare"
  | .against _ _ _ _ => "against"
def flds : At → List Str
  | .always => []
  | .never => []
  | .empty c => [c]
  | .among c _ => [c]
  | .begins c _ => [c]
  | .compare c _ _ => [c]
  | .against c _ d _ => [c, d]
def trms : At → List V
  | .always => []
  | .never => []
  | .empty _ => []
  | .among _ vs => vs
  | .begins _ z => [.str z]
  | .compare _ op v => [.str op, v]
  | .against _ op _ n => [.str op, .int n]
def ts (a : At) : Ts := .at a.word a.flds a.trms
end At
inductive Fm where
  | at (a : At)
  | un (w : Str) (f : Fm)
  | bi (w : Str) (f g : Fm)
namespace Fm
def ts : Fm → Ts
  | .at a => a.ts
  | .un w f => .un w f.ts
  | .bi w f g => .bi w f.ts g.ts
def cols : Fm → List Str
  | .at a => a.flds
  | .un _ f => f.cols
  | .bi _ f g => f.cols ++ g.cols
theorem ts_cols : ∀ f : Fm, f.ts.cols = f.cols
  | .at a => by simp [ts, cols, Ts.cols, Ts.atoms, At.ts, Ts.flds]
  | .un w f => by
    have := ts_cols f
    simpa [ts, cols, Ts.cols, Ts.atoms] using this
  | .bi w f g => by
    have h1 := ts_cols f
    have h2 := ts_cols g
    simp only [ts, cols, Ts.cols, Ts.atoms, List.flatMap_append] at h1 h2 ⊢
    rw [h1, h2]
def size (f : Fm) : Nat := f.ts.size
def depth (f : Fm) : Nat := f.ts.depth
end Fm
def opsL : List Str := ["<", "<=", "==", "!=", ">", ">="]
/-- a value of a kind: number, text -/
def isV : Bool → V → Prop
  | false, v => isI v
  | true, v => isS v
def At.Wf (κ : List (Str × Bool)) : At → Prop
  | .always => True
  | .never => True
  | .empty c => nameP c ∧ ∃ k, (c, k) ∈ κ
  | .among c vs => nameP c ∧ vs ≠ [] ∧ vs.length ≤ 8 ∧ ∃ k, (c, k) ∈ κ ∧ ∀ v ∈ vs, isV k v
  | .begins c z => nameP c ∧ (c, true) ∈ κ ∧ isS (.str z)
  | .compare c op v => nameP c ∧ op ∈ opsL ∧ ∃ k, (c, k) ∈ κ ∧ isV k v
  | .against c op d n => nameP c ∧ nameP d ∧ d ≠ c ∧ op ∈ opsL ∧ ∃ k, (c, k) ∈ κ ∧ (d, k) ∈ κ ∧ (k = true → n = 0)
def Fm.Wf (κ : List (Str × Bool)) : Fm → Prop
  | .at a => a.Wf κ
  | .un w f => (w = "not" ∨ w = "sure") ∧ f.Wf κ
  | .bi w f g => (w = "and" ∨ w = "or") ∧ f.Wf κ ∧ g.Wf κ
theorem isV.thing {H : Hp} {k : Bool} {v : V} (h : isV k v) : thing H v := by
  cases k with
  | false => obtain ⟨i, rfl⟩ := h; exact .inr (.inr (.inl ⟨i, rfl⟩))
  | true => obtain ⟨z, rfl, l, _⟩ := h; exact .inr (.inr (.inr (.inl ⟨z, rfl, l⟩)))
theorem isS.txt {z : Str} (h : isS (.str z)) : txtB z = true := by
  obtain ⟨y, e, _, hc⟩ := h
  cases e
  unfold txtB
  rw [List.all_eq_true]
  intro c m
  exact decide_eq_true (hc c m)
theorem isV.kind {k : Bool} {v : V} (h : isV k v) : ∃ s, kindV v = .str s := by
  cases k with
  | false => obtain ⟨i, rfl⟩ := h; exact ⟨_, rfl⟩
  | true =>
    obtain ⟨z, rfl, hz⟩ := h
    have e : txtB z = true := isS.txt ⟨z, rfl, hz⟩
    refine ⟨"text", ?_⟩
    show (if txtB z = true then V.str (Str.ofString "text") else V.non) = _
    rw [if_pos e]
/-! things that are handed in: sequences, none of them a list of S -/
def Lq (S : List Addr) (H : Hp) (p : Addr) (xs : List V) : Prop := (H p = some (.lst xs) ∧ p ∉ S) ∨ H p = some (.tup xs)
/-- what is no list stays -/
def KT (H H' : Hp) : Prop := ∀ q o, (∀ xs, o ≠ .lst xs) → H q = some o → H' q = some o
/-- all but the lists of S stays -/
def KeepS (S : List Addr) (H H' : Hp) : Prop := ∀ q o, q ∉ S → H q = some o → H' q = some o
def ListsAt (S : List Addr) (H : Hp) : Prop := ∀ a ∈ S, ∃ xs, H a = some (.lst xs)
section
variable {S S' : List Addr} {H H' : Hp} {p l : Addr} {xs : List V}
theorem ListsAt.kt (h : ListsAt S H) (k : KeepS S H H') : KT H H' := fun q o n e => k q o (fun m => by obtain ⟨ys, e2⟩ := h q m; rw [e] at e2; injection e2 with e2; exact n _ e2) e
theorem KT.of (k : XT H H') : KT H H' := fun q o _ e => k q o e
theorem KeepS.of (k : XT H H') : KeepS S H H' := fun q o _ e => k q o e
theorem KeepS.one {H1 : Hp} (k : XT H H1) (K : Keep p H1 H') : KeepS [p] H H' := fun q o n e => K q o (fun z => n (by rw [z]; exact List.mem_cons_self)) (k q o e)
theorem KeepS.upd {o : HO} : KeepS [p] H (upd H p o) := fun q u n e => by rw [upd_ne (fun z => n (by rw [z]; exact List.mem_cons_self))]; exact e
theorem Lq.sq (h : Lq S H p xs) : H p = some (.lst xs) ∨ H p = some (.tup xs) := h.elim (fun h => .inl h.1) .inr
theorem Lq.keepS (h : Lq S H p xs) (hS : ListsAt S H) (k : KeepS S H H') : Lq S H' p xs := by
  rcases h with ⟨h, n⟩ | h
  · exact .inl ⟨k _ _ n h, n⟩
  · exact .inr (hS.kt k _ _ (fun xs e => nomatch e) h)
theorem Lq.keep (h : Lq S H p xs) (k : XT H H') : Lq S H' p xs := h.elim (fun h => .inl ⟨k _ _ h.1, h.2⟩) fun h => .inr (k _ _ h)
theorem Lq.mono (h : Lq S H p xs) (hs : ∀ a ∈ S', a ∈ S) : Lq S' H p xs := h.elim (fun h => .inl ⟨h.1, fun m => h.2 (hs _ m)⟩) .inr
theorem Lq.add (h : Lq S H p xs) (hl : H l = none) : Lq (l :: S) H p xs := h.elim (fun h => .inl ⟨h.1, fun m => (List.mem_cons.mp m).elim (ne_of_none h.1 hl) h.2⟩) .inr
end
theorem TestAt.keepT {C : Addr} {H H' : Hp} (k : KT H H') : ∀ {t : Ts} {p : Addr}, TestAt C H t p → TestAt C H' t p
  | .at _ _ _, _, h => by
    obtain ⟨dx, i, f, t, a, b, c, d⟩ := AtomAt.ex h
    exact ⟨dx, i, f, t, k _ _ (fun xs e => nomatch e) a, k _ _ (fun xs e => nomatch e) b, k _ _ (fun xs e => nomatch e) c, k _ _ (fun xs e => nomatch e) d⟩
  | .un _ a, _, ⟨dx, i, f, t, q, h1, h2, h3, h4, h5⟩ =>
    ⟨dx, i, f, t, q, k _ _ (fun xs e => nomatch e) h1, k _ _ (fun xs e => nomatch e) h2, k _ _ (fun xs e => nomatch e) h3, k _ _ (fun xs e => nomatch e) h4, TestAt.keepT k h5⟩
  | .bi _ a b, _, ⟨dx, i, f, t, q, r, h1, h2, h3, h4, h5, h6⟩ =>
    ⟨dx, i, f, t, q, r, k _ _ (fun xs e => nomatch e) h1, k _ _ (fun xs e => nomatch e) h2, k _ _ (fun xs e => nomatch e) h3, k _ _ (fun xs e => nomatch e) h4, TestAt.keepT k h5, TestAt.keepT k h6⟩
/-- a step; a keep tells where its test stands -/
inductive Sx where
  | keep (t : Addr) (a : At)
  | sort (o : List (Str × Bool))
  | dist (ns : List Str)
  | first
  | flip
def Sx.word : Sx → Str
  | .keep _ _ => "keep"
  | .sort _ => "sort"
  | .dist _ => "distinct"
  | .first => "first"
  | .flip => "flip"
def XOk : Sx → Prop
  | .keep _ a => ∃ κ, a.Wf κ
  | .sort o => OOk o
  | .dist ns => (∀ n ∈ ns, nameP n) ∧ ns.Nodup ∧ ns.length ≤ 3
  | _ => True
def OIn (S : List Addr) (H : Hp) (l : Addr) (o : List (Str × Bool)) : Prop := ∃ qs : List Addr, Lq S H l (qs.map V.ref) ∧ qs.length = o.length ∧ ∀ (i : Nat) (q : Addr) (c : Str × Bool), qs[i]? = some q → o[i]? = some c → H q = some (.tup (pt c))
/-- a step as it is handed in -/
def SIn (C : Addr) (S : List Addr) (H : Hp) (q : Addr) : Sx → Prop
  | .keep t a => Lq S H q [.str "keep", .ref t] ∧ TestAt C H a.ts t
  | .sort o => ∃ l, Lq S H q [.str "sort", .ref l] ∧ OIn S H l o
  | .dist ns => ∃ l, Lq S H q [.str "distinct", .ref l] ∧ Lq S H l (ns.map V.str)
  | .first => Lq S H q [.str "first"]
  | .flip => Lq S H q [.str "flip"]
/-- a step as it is kept -/
def SC (C : Addr) (H : Hp) (q : Addr) : Sx → Prop
  | .keep t a => H q = some (.tup [.str "keep", .ref t]) ∧ TestAt C H a.ts t
  | .sort o => ∃ t, H q = some (.tup [.str "sort", .ref t]) ∧ OT H t o
  | .dist ns => ∃ t, H q = some (.tup [.str "distinct", .ref t]) ∧ H t = some (.tup (ns.map V.str))
  | .first => H q = some (.tup [.str "first"])
  | .flip => H q = some (.tup [.str "flip"])
section
variable {C : Addr} {S S' : List Addr} {H H' : Hp} {p l q : Addr} {s : Sx} {o : List (Str × Bool)}
theorem OIn.keepS (h : OIn S H l o) (hS : ListsAt S H) (k : KeepS S H H') : OIn S H' l o := by
  obtain ⟨qs, h1, h2, h3⟩ := h
  exact ⟨qs, h1.keepS hS k, h2, fun i q c hq hc => hS.kt k _ _ (fun xs e => nomatch e) (h3 i q c hq hc)⟩
theorem OIn.mono (h : OIn S H l o) (hs : ∀ a ∈ S', a ∈ S) : OIn S' H l o := by
  obtain ⟨qs, h1, h2, h3⟩ := h
  exact ⟨qs, h1.mono hs, h2, h3⟩
theorem OIn.add {m : Addr} (h : OIn S H l o) (hl : H m = none) : OIn (m :: S) H l o := by
  obtain ⟨qs, h1, h2, h3⟩ := h
  exact ⟨qs, h1.add hl, h2, h3⟩
theorem SIn.keepS (h : SIn C S H q s) (hS : ListsAt S H) (k : KeepS S H H') : SIn C S H' q s := by
  cases s with
  | keep t a => exact ⟨h.1.keepS hS k, h.2.keepT (hS.kt k)⟩
  | sort o => obtain ⟨l, a, b⟩ := h; exact ⟨l, a.keepS hS k, b.keepS hS k⟩
  | dist ns => obtain ⟨l, a, b⟩ := h; exact ⟨l, a.keepS hS k, b.keepS hS k⟩
  | first => exact Lq.keepS h hS k
  | flip => exact Lq.keepS h hS k
theorem SIn.mono (h : SIn C S H q s) (hs : ∀ a ∈ S', a ∈ S) : SIn C S' H q s := by
  cases s with
  | keep t a => exact ⟨h.1.mono hs, h.2⟩
  | sort o => obtain ⟨l, a, b⟩ := h; exact ⟨l, a.mono hs, b.mono hs⟩
  | dist ns => obtain ⟨l, a, b⟩ := h; exact ⟨l, a.mono hs, b.mono hs⟩
  | first => exact Lq.mono h hs
  | flip => exact Lq.mono h hs
theorem SIn.add {m : Addr} (h : SIn C S H q s) (hl : H m = none) : SIn C (m :: S) H q s := by
  cases s with
  | keep t a => exact ⟨h.1.add hl, h.2⟩
  | sort o => obtain ⟨l, a, b⟩ := h; exact ⟨l, a.add hl, b.add hl⟩
  | dist ns => obtain ⟨l, a, b⟩ := h; exact ⟨l, a.add hl, b.add hl⟩
  | first => exact Lq.add h hl
  | flip => exact Lq.add h hl
theorem ListsAt.nil : ListsAt [] H := fun a m => nomatch m
theorem SIn.keep (h : SIn C S H q s) (k : XT H H') : SIn C S H' q s := by
  cases s with
  | keep t a => exact ⟨h.1.keep k, h.2.keep k⟩
  | sort o => obtain ⟨l, a, qs, h1, h2, h3⟩ := h; exact ⟨l, a.keep k, qs, h1.keep k, h2, fun i q c hq hc => k _ _ (h3 i q c hq hc)⟩
  | dist ns => obtain ⟨l, a, b⟩ := h; exact ⟨l, a.keep k, b.keep k⟩
  | first => exact Lq.keep h k
  | flip => exact Lq.keep h k
theorem OT.keepT {a : Addr} {ps : List (Str × Bool)} (h : OT H a ps) (k : KT H H') : OT H' a ps := by
  obtain ⟨qs, h1, h2, h3⟩ := h
  exact ⟨qs, k _ _ (fun xs e => nomatch e) h1, h2, fun i q c hq hc => k _ _ (fun xs e => nomatch e) (h3 i q c hq hc)⟩
theorem SC.keepT (h : SC C H q s) (k : KT H H') : SC C H' q s := by
  cases s with
  | keep t a => exact ⟨k _ _ (fun xs e => nomatch e) h.1, h.2.keepT k⟩
  | sort o => obtain ⟨t, a, b⟩ := h; exact ⟨t, k _ _ (fun xs e => nomatch e) a, b.keepT k⟩
  | dist ns => obtain ⟨t, a, b⟩ := h; exact ⟨t, k _ _ (fun xs e => nomatch e) a, k _ _ (fun xs e => nomatch e) b⟩
  | first => exact k _ _ (fun xs e => nomatch e) h
  | flip => exact k _ _ (fun xs e => nomatch e) h
theorem SC.sin (h : SC C H q s) : SIn C S H q s := by
  cases s with
  | keep t a => exact ⟨.inr h.1, h.2⟩
  | sort o => obtain ⟨t, a, qs, h1, h2, h3⟩ := h; exact ⟨t, .inr a, qs, .inr h1, h2, h3⟩
  | dist ns => obtain ⟨t, a, b⟩ := h; exact ⟨t, .inr a, .inr b⟩
  | first => exact .inr h
  | flip => exact .inr h
end
/-- an order as it is handed in, as p43order reads it -/
theorem OIn.th {S : List Addr} {H : Hp} {l : Addr} {o : List (Str × Bool)} (h : OIn S H l o) (hk : OOk o) : ThAt H (.ref l) (some (o.map some)) := by
  obtain ⟨qs, h1, h2, h3⟩ := h
  refine .seq h1.sq (by rw [List.length_map, List.length_map, h2]) fun i x r hx hr => ?_
  rw [List.getElem?_map] at hx hr
  obtain ⟨q, hq, rfl⟩ := Option.map_eq_some_iff.mp hx
  obtain ⟨c, hc, rfl⟩ := Option.map_eq_some_iff.mp hr
  exact .ok (h3 i q c hq hc) (hk.nm c (List.mem_of_getElem? hc))
/-- a wrong part of an order: a text, or a right one -/
def PtT (H : Hp) (v : V) (r : Option (Str × Bool)) : Prop := (∃ z, v = .str z ∧ r = none) ∨ ∃ q c, v = .ref q ∧ H q = some (.tup (pt c)) ∧ nameP c.1 ∧ r = some c
/-- a wrong order -/
def ThS (S : List Addr) (H : Hp) (y : V) (d : Option (List (Option (Str × Bool)))) : Prop := (y = .non ∧ d = none) ∨ ∃ l vs rs, y = .ref l ∧ Lq S H l vs ∧ d = some rs ∧ vs.length = rs.length ∧ ∀ (i : Nat) v r, vs[i]? = some v → rs[i]? = some r → PtT H v r
theorem ThS.th {S : List Addr} {H : Hp} {y : V} {d : Option (List (Option (Str × Bool)))} (h : ThS S H y d) : ThAt H y d := by
  rcases h with ⟨rfl, rfl⟩ | ⟨l, vs, rs, rfl, h1, rfl, h2, h3⟩
  · exact .nos (by decide) .non (by decide) (by decide)
  · refine .seq h1.sq h2 fun i v r hv hr => ?_
    rcases h3 i v r hv hr with ⟨z, rfl, rfl⟩ | ⟨q, c, rfl, h, hn, rfl⟩
    · exact .nos (by decide) (.str z) (by decide) (by decide)
    · exact .ok h hn
/-- names that are not right, a sequence or a text -/
def DsS (S : List Addr) (H : Hp) (y : V) : Prop := (∃ z, y = .str z) ∨ ∃ (l : Addr) (ns : List Str), y = .ref l ∧ Lq S H l (ns.map V.str) ∧ ns.length ≤ 10 ∧ (∀ z ∈ ns, z.length ≤ 100) ∧ ¬ ((∀ n ∈ ns, nameP n) ∧ ns.Nodup ∧ ns.length ≤ 3)
abbrev kws : List (Str × Int) := [("keep", 2), ("sort", 2), ("distinct", 2), ("first", 1), ("flip", 1)]
/-- what is no step -/
inductive NoStep (S : List Addr) (H : Hp) : V → Prop
  | nos {v : V} {T : String} (hT : T ∈ kinds7) (h : TyOf7 H v T) (n : T ≠ "list") (m : T ≠ "tuple") : NoStep S H v
  | nil {p : Addr} (h : Lq S H p []) : NoStep S H (.ref p)
  | wd0 {p l : Addr} {r : List V} (h : Lq S H p (.ref l :: r)) (hl : H l = some (.lst [])) (hr : r.length ≤ 5) (n : l ∉ S) : NoStep S H (.ref p)
  | word {p : Addr} {z : Str} {r : List V} (h : Lq S H p (.str z :: r)) (hr : r.length ≤ 5) (n : z ∉ kws.map (·.1)) : NoStep S H (.ref p)
  | size {p : Addr} {z : Str} {r : List V} {n : Int} (h : Lq S H p (.str z :: r)) (hr : r.length ≤ 5) (hz : (z, n) ∈ kws) (hn : (r.length : Int) + 1 ≠ n) : NoStep S H (.ref p)
  | keep {p : Addr} {y : V} (h : Lq S H p [.str "keep", y]) (hy : y = .non ∨ ∃ z, y = .str z) : NoStep S H (.ref p)
  | sort {p : Addr} {y : V} {d : Option (List (Option (Str × Bool)))} {i : Int} (h : Lq S H p [.str "sort", y]) (hy : ThS S H y d) (hd : dueF d = some i) : NoStep S H (.ref p)
  | dist {p : Addr} {y : V} (h : Lq S H p [.str "distinct", y]) (hy : DsS S H y) : NoStep S H (.ref p)
section
variable {S S' : List Addr} {H H' : Hp} {v : V}
theorem ThS.keepS {d : Option (List (Option (Str × Bool)))} (h : ThS S H v d) (hS : ListsAt S H) (k : KeepS S H H') : ThS S H' v d := by
  rcases h with h | ⟨l, vs, rs, rfl, h1, rfl, h2, h3⟩
  · exact .inl h
  · refine .inr ⟨l, vs, rs, rfl, h1.keepS hS k, rfl, h2, fun i v r hv hr => ?_⟩
    rcases h3 i v r hv hr with h | ⟨q, c, rfl, h, hn, rfl⟩
    · exact .inl h
    · exact .inr ⟨q, c, rfl, hS.kt k _ _ (fun xs e => nomatch e) h, hn, rfl⟩
theorem TyOf7.keepT {T : String} (h : TyOf7 H v T) (n : T ≠ "list") (k : KT H H') : TyOf7 H' v T := by
  cases h with
  | non => exact .non
  | bl b => exact .bl b
  | int i => exact .int i
  | str z => exact .str z
  | lst h => exact absurd rfl n
  | tup h => exact .tup (k _ _ (fun xs e => nomatch e) h)
  | dct h => exact .dct (k _ _ (fun xs e => nomatch e) h)
theorem NoStep.keepS (h : NoStep S H v) (hS : ListsAt S H) (k : KeepS S H H') : NoStep S H' v := by
  cases h with
  | nos hT h n m => exact .nos hT (h.keepT n (hS.kt k)) n m
  | nil h => exact .nil (h.keepS hS k)
  | wd0 h hl hr n => exact .wd0 (h.keepS hS k) (k _ _ n hl) hr n
  | word h hr n => exact .word (h.keepS hS k) hr n
  | size h hr hz hn => exact .size (h.keepS hS k) hr hz hn
  | keep h hy => exact .keep (h.keepS hS k) hy
  | sort h hy hd => exact .sort (h.keepS hS k) (hy.keepS hS k) hd
  | dist h hy =>
    refine .dist (h.keepS hS k) ?_
    rcases hy with hy | ⟨l, ns, rfl, h1, h2⟩
    · exact .inl hy
    · exact .inr ⟨l, ns, rfl, h1.keepS hS k, h2⟩
theorem NoStep.mono (h : NoStep S H v) (hs : ∀ a ∈ S', a ∈ S) : NoStep S' H v := by
  cases h with
  | nos hT h n m => exact .nos hT h n m
  | nil h => exact .nil (h.mono hs)
  | wd0 h hl hr n => exact .wd0 (h.mono hs) hl hr fun m => n (hs _ m)
  | word h hr n => exact .word (h.mono hs) hr n
  | size h hr hz hn => exact .size (h.mono hs) hr hz hn
  | keep h hy => exact .keep (h.mono hs) hy
  | sort h hy hd =>
    refine .sort (h.mono hs) ?_ hd
    rcases hy with hy | ⟨l, vs, rs, e, h1, h2⟩
    · exact .inl hy
    · exact .inr ⟨l, vs, rs, e, h1.mono hs, h2⟩
  | dist h hy =>
    refine .dist (h.mono hs) ?_
    rcases hy with hy | ⟨l, ns, rfl, h1, h2⟩
    · exact .inl hy
    · exact .inr ⟨l, ns, rfl, h1.mono hs, h2⟩
theorem NoStep.add {m : Addr} (h : NoStep S H v) (hl : H m = none) : NoStep (m :: S) H v := by
  cases h with
  | nos hT h n m => exact .nos hT h n m
  | nil h => exact .nil (h.add hl)
  | wd0 h hl' hr n => exact .wd0 (h.add hl) hl' hr fun m => (List.mem_cons.mp m).elim (ne_of_none hl' hl) n
  | word h hr n => exact .word (h.add hl) hr n
  | size h hr hz hn => exact .size (h.add hl) hr hz hn
  | keep h hy => exact .keep (h.add hl) hy
  | sort h hy hd =>
    refine .sort (h.add hl) ?_ hd
    rcases hy with hy | ⟨l, vs, rs, e, h1, h2⟩
    · exact .inl hy
    · exact .inr ⟨l, vs, rs, e, h1.add hl, h2⟩
  | dist h hy =>
    refine .dist (h.add hl) ?_
    rcases hy with hy | ⟨l, ns, rfl, h1, h2⟩
    · exact .inl hy
    · exact .inr ⟨l, ns, rfl, h1.add hl, h2⟩
end
/-- a thing that is given as a step -/
def ItAt (C : Addr) (S : List Addr) (H : Hp) (v : V) : Option Sx → Prop
  | some s => ∃ q, v = .ref q ∧ SIn C S H q s ∧ XOk s
  | none => NoStep S H v
section
variable {C : Addr} {S S' : List Addr} {H H' : Hp} {v : V} {r : Option Sx}
theorem ItAt.keepS (h : ItAt C S H v r) (hS : ListsAt S H) (k : KeepS S H H') : ItAt C S H' v r := by
  cases r with
  | none => exact NoStep.keepS h hS k
  | some s => obtain ⟨q, e, h1, h2⟩ := h; exact ⟨q, e, h1.keepS hS k, h2⟩
theorem ItAt.mono (h : ItAt C S H v r) (hs : ∀ a ∈ S', a ∈ S) : ItAt C S' H v r := by
  cases r with
  | none => exact NoStep.mono h hs
  | some s => obtain ⟨q, e, h1, h2⟩ := h; exact ⟨q, e, h1.mono hs, h2⟩
theorem ItAt.add {m : Addr} (h : ItAt C S H v r) (hl : H m = none) : ItAt C (m :: S) H v r := by
  cases r with
  | none => exact NoStep.add h hl
  | some s => obtain ⟨q, e, h1, h2⟩ := h; exact ⟨q, e, h1.add hl, h2⟩
theorem ItAt.nil (h : ItAt C S H v r) : ItAt C [] H v r := h.mono fun a m => nomatch m
theorem ItAt.keep (h : ItAt C [] H v r) (k : XT H H') : ItAt C [] H' v r := h.keepS .nil (.of k)
end
/-! names from a pool -/
theorem log_small {m : Int} (h : m.natAbs < 2 ^ 64) : m.natAbs.log2 < 1920 := Nat.lt_of_lt_of_le (PySem.Flt.log2_lt_of (by decide) h) (by decide)
theorem nodup_le {α : Type} [DecidableEq α] : ∀ {ys xs : List α}, ys.Nodup → (∀ y ∈ ys, y ∈ xs) → ys.length ≤ xs.length
  | [], _, _, _ => Nat.zero_le _
  | y :: ys, xs, nd, h => by
    obtain ⟨n1, n2⟩ := List.nodup_cons.mp nd
    have hy := h y List.mem_cons_self
    have h2 : ys.length ≤ (xs.erase y).length := nodup_le n2 fun z hz => (List.mem_erase_of_ne (fun e : z = y => n1 (by rw [← e]; exact hz))).mpr (h z (List.mem_cons_of_mem _ hz))
    rw [List.length_erase_of_mem hy] at h2
    have := List.length_pos_of_mem hy
    simp
    omega
def digS (k : Nat) : Str := Str.ofString (toString (k : Int))
theorem dig_inj : ((List.range 60).map digS).Nodup := by decide +kernel
theorem dig_ok : ∀ k ∈ List.range 60, (digS k).length ≤ 2 ∧ (digS k).length ≠ 0 ∧ (∀ c ∈ (digS k).cps.toList, c ∈ nameSigns ∧ c < 97) := by decide +kernel
theorem kept_big : ∀ z ∈ keptWords, ∀ c ∈ z.cps.toList, 97 ≤ c := by decide +kernel
theorem app_inj {z a b : Str} (h : z ++ a = z ++ b) : a = b := by
  refine str_ext ?_
  have h2 := congrArg (fun s : Str => s.cps.toList) h
  simp only [PySem.W.KT.app_list] at h2
  exact List.append_cancel_left h2
theorem pick_at {ws : List Nat} {m : Nat} (hw : ws.length = m) {r : Int} (r0 : 0 ≤ r) (r1 : r < (m : Int)) : ∃ c, c ∈ ws ∧ atI ws r = some c := by
  obtain ⟨k4, rfl⟩ := Int.eq_ofNat_of_zero_le r0
  have hk : k4 < ws.length := by omega
  exact ⟨_, List.getElem_mem hk, atI_nat (List.getElem?_eq_getElem hk)⟩
/-- a name but for the words that are kept -/
def preP (z : Str) : Prop := z.length ≠ 0 ∧ z.length ≤ 8 ∧ (∀ c r, z.cps.toList = c :: r → c ∈ letters) ∧ ∀ c ∈ z.cps.toList, c ∈ nameSigns

theorem cut6 {z : Str} : (cutS z none (some 6)).cps.toList = z.cps.toList.take 6 := by
  show ((z.cps.toList.drop 0).take (HT.sIx z.length z.length (some ((6 : Nat) : Int)) - 0)) = _
  rw [HT.sIx_nat]
  have : z.cps.toList.length = z.length := Array.length_toList
  rw [List.drop_zero, Nat.sub_zero]
  by_cases h : 6 ≤ z.length
  · rw [Nat.min_eq_left h]
  · rw [Nat.min_eq_right (by omega), ← this, List.take_length, List.take_of_length_le (by omega)]
theorem cut6_len {z : Str} : (cutS z none (some 6)).length = min 6 z.length := by
  show (cutS z none (some 6)).cps.size = _
  have : z.cps.toList.length = z.length := Array.length_toList
  rw [← Array.length_toList, cut6, List.length_take, this]
theorem cut_name {z : Str} (hp : preP z) {i : Nat} (hi : i < 60) : nameP (cutS z none (some 6) ++ digS i) := by
  obtain ⟨d1, d2, d3⟩ := dig_ok i (List.mem_range.mpr hi)
  have hlen : (cutS z none (some 6) ++ digS i).length = min 6 z.length + (digS i).length := by rw [PySem.Str.length_append, cut6_len]
  have hz0 := hp.1
  have hcp : (cutS z none (some 6) ++ digS i).cps.toList = z.cps.toList.take 6 ++ (digS i).cps.toList := by rw [PySem.W.KT.app_list, cut6]
  refine ⟨by omega, by omega, fun c r h => ?_, fun hk => ?_, fun c h => ?_⟩
  · rw [hcp] at h
    cases e : z.cps.toList with
    | nil =>
      have : z.cps.toList.length = z.length := Array.length_toList
      rw [e] at this; simp at this; omega
    | cons b s =>
      rw [e] at h
      injection h with h1 _
      rw [← h1]
      exact hp.2.2.1 b s e
  · have hdl : (digS i).cps.toList.length = (digS i).length := Array.length_toList
    obtain ⟨c, hc⟩ : ∃ c, c ∈ (digS i).cps.toList := by
      cases e : (digS i).cps.toList with
      | nil => rw [e] at hdl; simp at hdl; omega
      | cons c r => exact ⟨c, List.mem_cons_self⟩
    have h1 := kept_big _ hk c (by rw [hcp]; exact List.mem_append.mpr (.inr hc))
    have h2 := (d3 c hc).2
    omega
  · rw [hcp] at h
    rcases List.mem_append.mp h with h | h
    · exact hp.2.2.2 c (List.mem_of_mem_take h)
    · exact (d3 c h).1
theorem preP.of {z : Str} (h : nameP z) : preP z := ⟨h.1, h.2.1, h.2.2.1, h.2.2.2.2⟩
theorem dig_one : ∀ k : Nat, k < 9 → (digS k).cps.toList = [48 + k] := by decide +kernel
theorem last_cut {z : Str} {k : Nat} (hk : k < 9) : (cutS z none (some 6) ++ digS k).cps.toList.getLast? = some (48 + k) := by
  rw [PySem.W.KT.app_list, dig_one k hk, List.getLast?_append]
  rfl
/-- names met so far, each among xs, no two alike -/
structure Chain (xs : List Str) (i : Nat) (z : Str) (ys : List Str) : Prop where
  nd : ys.Nodup
  len : ys.length = i - 1
  mem : ∀ y ∈ ys, y ∈ xs ∧ ∃ j, j + 1 < i ∧ y.cps.toList.getLast? = some (48 + j)
  last : 0 < i → z.cps.toList.getLast? = some (48 + (i - 1))
theorem Chain.zero {xs : List Str} {z : Str} : Chain xs 0 z [] := ⟨List.nodup_nil, rfl, fun y h => (nomatch h), fun h => absurd h (Nat.lt_irrefl 0)⟩
theorem Chain.next {xs ys : List Str} {i : Nat} {z : Str} (h : Chain xs i z ys) (hz : z ∈ xs) (hi : i < 9) : ∃ ys', Chain xs (i + 1) (cutS z none (some 6) ++ digS i) ys' := by
  cases i with
  | zero => exact ⟨[], List.nodup_nil, rfl, fun y h => (nomatch h), fun _ => last_cut hi⟩
  | succ i =>
    have hl := h.last (Nat.succ_pos i)
    refine ⟨z :: ys, List.nodup_cons.mpr ⟨fun hm => ?_, h.nd⟩, ?_, fun y hy => ?_, fun _ => last_cut hi⟩
    · obtain ⟨_, j, hj, e⟩ := h.mem z hm
      rw [hl] at e
      injection e with e
      simp at e
      omega
    · rw [List.length_cons, h.len]
      omega
    · rcases List.mem_cons.mp hy with rfl | hy
      · exact ⟨hz, i, by omega, by simpa using hl⟩
      · obtain ⟨h1, j, hj, e⟩ := h.mem y hy
        exact ⟨h1, j, by omega, e⟩
theorem Chain.end {xs ys : List Str} {z : Str} (h : Chain xs 9 z ys) (hx : xs.length ≤ 8) : z ∉ xs := fun hz => by
  obtain ⟨ys', h'⟩ : ∃ ys' : List Str, ys'.Nodup ∧ ys'.length = 9 ∧ ∀ y ∈ ys', y ∈ xs := by
    have hl := h.last (by omega)
    refine ⟨z :: ys, List.nodup_cons.mpr ⟨fun hm => ?_, h.nd⟩, by rw [List.length_cons, h.len], fun y hy => ?_⟩
    · obtain ⟨_, j, hj, e⟩ := h.mem z hm
      rw [hl] at e
      injection e with e
      simp at e
      omega
    · rcases List.mem_cons.mp hy with rfl | hy
      · exact hz
      · exact (h.mem y hy).1
  have := nodup_le h'.1 h'.2.2
  omega
def spNameN : Sp := fun vs H Q _ => ∃ (p L : Addr) (xs : List Str) (n : Nat), vs = [.ref p, .ref L] ∧ PD H p n ∧ n ≤ 900000 ∧ L ≠ p ∧ H L = some (.lst (xs.map V.str)) ∧ xs.length ≤ 8 ∧ ∀ z H', nameP z → z ∉ xs → PD H' p (n + 20) → Keep p H H' → Q (.str z) H'
section
variable {P : Program} {w : World} {K : PySem.W.Frag} {mg : Str → Option Value} {base : Heap}
theorem ok__law_name (T : TxtW w K mg) : Def P w K mg base 2 "_law_name" ["_law_pool_here", "_law_taken"] spNameN := by
  obtain ⟨f, fd, h⟩ := T.d__law_name
  refine h.def (Fun.okM h.fn sc__law_name (fun vs H Q E h => ?_) (fun cdv A outer s H vs Q E hr h => ?_))
  · obtain ⟨p, L, xs, n, rfl, _⟩ := h
    rfl
  · obtain ⟨p, L, xs, n, rfl, hD, hn, hLp, hL, hx8, k⟩ := h
    refine ⟨_, (pss_cons (ps_set (i := 2) sc__law_name.nd rfl (Or.inl rfl) pe_str)
  (pss_cons (ps_set (i := 3) sc__law_name.nd rfl (Or.inl rfl) (pe_ix (ix_seqG (K := K) rfl) (pv 2) (pe_def (ok__law_draw T) hr rfl (pa_cons (pv 0) (pa_cons pe_int pa_nil))) (fun _ _ => rfl)))
  (pss_cons (ps_set (i := 4) sc__law_name.nd rfl (Or.inl rfl) (pe_ix (ix_seqG (K := K) rfl) (pe_lst (pa_cons pe_int (pa_cons pe_int (pa_cons pe_int (pa_cons pe_int (pa_cons pe_int pa_nil)))))) (pe_def (ok__law_draw T) hr rfl (pa_cons (pv 0) (pa_cons pe_int pa_nil))) (fun _ _ => rfl)))
  (pss_cons (ps_for PassesOwn.never rfl (pi_range1 rfl T.h_range (pa_cons (pv 4) pa_nil)) (pg_name (i := 5) sc__law_name.nd rfl (Or.inl rfl))
  (pss_one (ps_set (i := 3) sc__law_name.nd rfl (Or.inl rfl) (pe_op op_addG (pv 3) (pe_ix (ix_seqG (K := K) rfl) (pv 2) (pe_def (ok__law_draw T) hr rfl (pa_cons (pv 0) (pa_cons pe_int pa_nil))) (fun _ _ => rfl))))))
  (Evl.pss_cut (ps_if (pt_cmpR (op_inG (K := K) rfl) (pv 3) (pe_lst (pa_cons pe_str (pa_cons pe_str (pa_cons pe_str (pa_cons pe_str (pa_cons pe_str (pa_cons pe_str (pa_cons pe_str (pa_cons pe_str (pa_cons pe_str (pa_cons pe_str pa_nil))))))))))) (by rfl))
  (pss_one (ps_set (i := 3) sc__law_name.nd rfl (Or.inl rfl) (pe_op op_addG (pe_slice (sl_G (K := K) rfl) (pv 3) po_none (po_some pe_int)) pe_str)))
  pss_nil)
  (pss_cons (ps_for PassesOwn.never rfl (pi_range1 rfl T.h_range (pa_cons pe_int pa_nil)) (pg_name (i := 5) sc__law_name.nd rfl (Or.inl rfl))
  (pss_one (ps_if (pt_cmpR (op_inG (K := K) rfl) (pv 3) (pv 1) (by rfl))
  (pss_one (ps_set (i := 3) sc__law_name.nd rfl (Or.inl rfl) (pe_op op_addG (pe_slice (sl_G (K := K) rfl) (pv 3) po_none (po_some pe_int)) (pe_callTy call_str_int (by rfl) T.h_str (by decide +kernel) (pa_cons (pv 5) pa_nil)))))
  pss_nil)))
  (pss_one (ps_ret (pv 3))))))))), ?_⟩
    walk_at "g"
    have hz1 : (Str.ofString "abcdefghijklmnopqrstuvwxyz0123456789").cps.toList = nameSigns := rfl
    generalize hz0 : Str.ofString "abcdefghijklmnopqrstuvwxyz0123456789" = zc at hz1 ⊢
    have hzc : zc.length = 36 := by rw [← hz0]; decide +kernel
    have hfst : ∀ k : Nat, k < 26 → ∃ c, nameSigns[k]? = some c ∧ c ∈ letters := by decide +kernel
    have hlt : ∀ c ∈ letters, c ∈ nameSigns := by decide +kernel
    have hnl : nameSigns.length = 36 := by decide +kernel
    clear hz0
    refine ⟨_, _, _, rfl, hD, by omega, by decide, by decide +kernel, fun r H1 r0 r1 D1 K1 => ?_⟩
    obtain ⟨r, rfl⟩ := Int.eq_ofNat_of_zero_le r0
    obtain ⟨c, hc, hcl⟩ := hfst r (by omega)
    refine g_ixS (n := c) (by rw [hzc]; decide) (by rw [hz1]; exact atI_nat hc) ?_
    walk_at "g"
    refine ⟨by show 5 ≤ sizeLine; decide, fun q hq => ?_⟩
    have nq := D1.ne hq
    have D2 := D1.new (o := .lst [.int 0, .int 0, .int 1, .int 2, .int 6]) hq
    have K2 := K1.new (o := .lst [.int 0, .int 0, .int 1, .int 2, .int 6]) (K1.back nq hq)
    have e2 : (upd H1 q (.lst [.int 0, .int 0, .int 1, .int 2, .int 6])) q = some (.lst [.int 0, .int 0, .int 1, .int 2, .int 6]) := upd_same
    generalize upd H1 q (.lst [.int 0, .int 0, .int 1, .int 2, .int 6]) = H2 at D2 K2 e2
    walk_at "g"
    refine ⟨_, _, _, rfl, D2, by omega, by decide, by decide +kernel, fun r3 H3 r30 r31 D3 K3 => ?_⟩
    obtain ⟨m, hm, m0, m1⟩ : ∃ m : Int, atI [V.int 0, V.int 0, V.int 1, V.int 2, V.int 6] r3 = some (.int m) ∧ 0 ≤ m ∧ m ≤ 6 := by
      have : r3 = 0 ∨ r3 = 1 ∨ r3 = 2 ∨ r3 = 3 ∨ r3 = 4 := by omega
      rcases this with rfl | rfl | rfl | rfl | rfl
      · exact ⟨0, rfl, by decide, by decide⟩
      · exact ⟨0, rfl, by decide, by decide⟩
      · exact ⟨1, rfl, by decide, by decide⟩
      · exact ⟨2, rfl, by decide, by decide⟩
      · exact ⟨6, rfl, by decide, by decide⟩
    refine g_ixL (SqL.of (K3 _ _ nq e2)) hm ?_
    have K03 := K2.trans K3
    walk_at "g"
    refine ⟨_, rfl, by omega, by omega, ?_⟩
    refine for_rangeA (fun i σ' H' => ∃ (z : Str) (s5 : Option V), σ' = [some (.ref p), some (.ref L), some (.str zc), some (.str z), some (.int m), s5] ∧ z.length = i + 1 ∧ preP z ∧ PD H' p (n + 2 + i) ∧ Keep p H H') ⟨_, none, rfl, rfl, ⟨by show 1 ≠ 0; omega, by show 1 ≤ 8; omega, fun a r h => ?_, fun a h => ?_⟩, D3.mono (by omega), K03⟩ ?_ ?_
    · have h' : [c] = a :: r := h
      injection h' with h1 _
      rw [← h1]; exact hcl
    · have : a = c := by simpa using h
      rw [this]; exact hlt c hcl
    · rintro i σ' H4 D' hi ⟨z, s5, rfl, hz, hp, D4, K4⟩ hnx hct hbk hrt
      walk_at "g"
      refine ⟨_, _, _, rfl, D4, by omega, by decide, by decide +kernel, fun r5 H5 r50 r51 D5 K5 => ?_⟩
      obtain ⟨c, hc, hat⟩ := pick_at (ws := nameSigns) hnl r50 r51
      refine g_ixS (n := c) (by rw [hzc]; decide) (by rw [hz1]; exact hat) ?_
      have hl1 : (z ++ (⟨#[c]⟩ : Str)).length = i + 1 + 1 := by rw [PySem.Str.length_append, hz]; rfl
      refine g_addS (by rw [sizeLine_eq]; show z.length + 1 ≤ _; omega) ?_
      walk_at "g"
      refine hnx _ _ ⟨_, _, rfl, hl1, ⟨by omega, by omega, fun a r h => ?_, fun a h => ?_⟩, D5, K4.trans K5⟩
      · rw [PySem.W.KT.app_list] at h
        cases e : z.cps.toList with
        | nil =>
          have : z.cps.toList.length = z.length := Array.length_toList
          rw [e, hz] at this; simp at this
        | cons b s =>
          rw [e] at h
          injection h with h1 _
          rw [← h1]
          exact hp.2.2.1 b s e
      · rw [PySem.W.KT.app_list] at h
        rcases List.mem_append.mp h with h | h
        · exact hp.2.2.2 a h
        · have : a = c := by simpa using h
          rw [this]; exact hc
    · rintro σ' H4 ⟨z, s5, rfl, hz, hp, D4, K4⟩
      refine g_seq ?_
      refine g_cutA (M := fun σ' H' => ∃ (z : Str) (s5 : Option V), σ' = [some (.ref p), some (.ref L), some (.str zc), some (.str z), some (.int m), s5] ∧ nameP z ∧ PD H' p (n + 20) ∧ Keep p H H') (fun D' hn1 hrt _ _ => ?_) ?_
      · walk_at "g"
        refine ⟨by show 10 ≤ sizeLine; decide, fun q hq => ?_⟩
        have hfl : (keptWords.map V.str) = [V.str (Str.ofString "and"), V.str (Str.ofString "or"), V.str (Str.ofString "not"), V.str (Str.ofString "sure"), V.str (Str.ofString "in"), V.str (Str.ofString "is"), V.str (Str.ofString "empty"), V.str (Str.ofString "begins"), V.str (Str.ofString "always"), V.str (Str.ofString "never")] := rfl
        rw [← hfl]
        refine .inr ⟨_, keptWords.map V.str, rfl, .inl (SqL.of upd_same), rfl, Tw.flat_strs _, ?_⟩
        rw [if_neg Bool.false_ne_true, inV_strs]
        walk_at "g"
        have nq := D4.ne hq
        have D5 := (D4.mono (m := n + 20) (by omega)).new (o := .lst (keptWords.map V.str)) hq
        have K5 := K4.new (o := .lst (keptWords.map V.str)) (K4.back nq hq)
        refine g_dec (fun hk => ?_) (fun hk => ?_)
        · walk_at "g"
          have h8 := hp.2.1
          refine g_slS (by rw [sizeLine_eq]; omega) ?_
          walk_at "g"
          refine g_addS (by rw [cut6_len, sizeLine_eq]; show min 6 z.length + 1 ≤ _; omega) ?_
          walk_at "g"
          exact hn1 _ _ ⟨_, _, rfl, cut_name hp (i := 0) (by omega), D5, K5⟩
        · walk_at "g"
          exact hn1 _ _ ⟨_, _, rfl, ⟨hp.1, hp.2.1, hp.2.2.1, hk, hp.2.2.2⟩, D5, K5⟩
      · rintro σ' H5 ⟨z, s5, rfl, hz, D5, K5⟩
        have hL5 := K5 _ _ hLp hL
        walk_at "g"
        refine ⟨_, rfl, by decide, by decide, ?_⟩
        refine for_rangeA (fun i σ' H' => ∃ (z : Str) (s5 : Option V), σ' = [some (.ref p), some (.ref L), some (.str zc), some (.str z), some (.int m), s5] ∧ nameP z ∧ (z ∉ xs ∨ ∃ ys, Chain xs i z ys) ∧ H' = H5) ⟨_, _, rfl, hz, .inr ⟨_, Chain.zero⟩, rfl⟩ ?_ ?_
        · rintro i σ' H6 D' hi ⟨z, s5, rfl, hz, hch, rfl⟩ hnx hct hbk hrt
          have hi9 : i < 9 := by simpa using hi
          walk_at "g"
          refine .inr ⟨_, xs.map V.str, rfl, .inl (SqL.of hL5), rfl, Tw.flat_strs _, ?_⟩
          rw [if_neg Bool.false_ne_true, inV_strs]
          walk_at "g"
          refine g_dec (fun hm => ?_) (fun hm => ?_)
          · walk_at "g"
            have h8 := hz.2.1
            refine g_slS (by rw [sizeLine_eq]; omega) ?_
            walk_at "g"
            refine ⟨_, rfl, log_small (by omega), ?_⟩
            have hds : Str.ofString (toString (0 + (i : Int))) = digS i := by unfold digS; rw [Int.zero_add]
            rw [hds]
            refine g_addS (by rw [cut6_len, sizeLine_eq]; have := (dig_ok i (List.mem_range.mpr (by omega))).1; omega) ?_
            walk_at "g"
            refine hnx _ _ ⟨_, _, rfl, cut_name (preP.of hz) (by omega), .inr ?_, rfl⟩
            rcases hch with h | ⟨ys, h⟩
            · exact absurd hm h
            · exact h.next hm hi9
          · walk_at "g"
            exact hnx _ _ ⟨_, _, rfl, hz, .inl hm, rfl⟩
        · rintro σ' H6 ⟨z, s5, rfl, hz, hch, rfl⟩
          walk_at "g"
          refine k _ _ hz ?_ D5 K5
          rcases hch with h | ⟨ys, h⟩
          · exact h
          · exact h.end hx8
end
theorem sg_app {z : Str} {c : Nat} (h : ∀ c ∈ z.cps.toList, c ∈ signs.cps.toList) (hc : c ∈ signs.cps.toList) : ∀ d ∈ (z ++ (⟨#[c]⟩ : Str)).cps.toList, d ∈ signs.cps.toList := fun d hd => by
  rw [PySem.W.KT.app_list] at hd
  rcases List.mem_append.mp hd with hd | hd
  · exact h d hd
  · have : d = c := by simpa using hd
    rw [this]; exact hc
theorem sg_three : ∀ c ∈ (Str.ofString " a~").cps.toList, c ∈ signs.cps.toList := by decide +kernel
theorem sign_in {z : Str} {m : Nat} (h : z.length = m) {r : Int} (r0 : 0 ≤ r) (r1 : r < (m : Int)) : ∃ c, c ∈ z.cps.toList ∧ atI z.cps.toList r = some c := by
  obtain ⟨k4, rfl⟩ := Int.eq_ofNat_of_zero_le r0
  have e : z.cps.toList.length = z.length := Array.length_toList
  exact ⟨_, List.getElem_mem (by omega), atI_nat (List.getElem?_eq_getElem (by omega))⟩
section
variable {P : Program} {w : World} {K : PySem.W.Frag} {mg : Str → Option Value} {base : Heap}
def spValueV : Sp := fun vs H Q _ => ∃ (p : Addr) (kd : Bool) (n : Nat), vs = [.ref p, .str (kS kd)] ∧ PD H p n ∧ n ≤ 900000 ∧ ∀ v H', isV kd v → PD H' p (n + 60) → Keep p H H' → Q v H'
theorem ok__law_value (T : TxtW w K mg) : Def P w K mg base 2 "_law_value" ["_law_pool_here", "_law_kind"] spValueV := by
  obtain ⟨f, fd, h⟩ := T.d__law_value
  refine h.def (Fun.okM h.fn sc__law_value (fun vs H Q E h => ?_) (fun cdv A outer s H vs Q E hr h => ?_))
  · obtain ⟨p, kd, n, rfl, _⟩ := h
    rfl
  · obtain ⟨p, kd, n, rfl, hD, hn, k⟩ := h
    refine ⟨_, (pss_cons (ps_set (i := 2) sc__law_value.nd rfl (Or.inl rfl) (pe_cmpR op_eq (pe_def (ok__law_draw T) hr rfl (pa_cons (pv 0) (pa_cons pe_int pa_nil))) pe_int (nomark _)))
  (pss_cons (ps_if (pt_cmpR op_eq (pv 1) pe_str (nomark _))
  (Evl.pss_cut (ps_if (pt_val (pv 2))
  (pss_one (ps_ret (pe_op op_addG (pe_op op_subG (pe_def (ok__law_draw T) hr rfl (pa_cons (pv 0) (pa_cons (pe_op op_subG (pe_op op_mulG pe_int (pe_op op_powG' pe_int pe_int)) pe_int) pa_nil))) (pe_op op_powG' pe_int pe_int)) pe_int)))
  pss_nil)
  (pss_one (ps_ret (pe_op op_subG (pe_def (ok__law_draw T) hr rfl (pa_cons (pv 0) (pa_cons pe_int pa_nil))) pe_int))))
  pss_nil)
  (pss_cons (ps_set (i := 3) sc__law_value.nd rfl (Or.inl rfl) pe_str)
  (pss_cons (ps_set (i := 4) sc__law_value.nd rfl (Or.inl rfl) (pe_def (ok__law_draw T) hr rfl (pa_cons (pv 0) (pa_cons pe_int pa_nil))))
  (Evl.pss_cut (ps_if (pt_val (pv 2))
  (pss_one (ps_set (i := 4) sc__law_value.nd rfl (Or.inl rfl) (pe_def (ok__law_draw T) hr rfl (pa_cons (pv 0) (pa_cons pe_int pa_nil)))))
  pss_nil)
  (pss_cons (ps_set (i := 5) sc__law_value.nd rfl (Or.inl rfl) pe_str)
  (pss_cons (ps_for PassesOwn.never rfl (pi_range1 rfl T.h_range (pa_cons (pv 4) pa_nil)) (pg_name (i := 6) sc__law_value.nd rfl (Or.inl rfl))
  (pss_one (ps_if (pt_val (pv 2))
  (pss_one (ps_set (i := 5) sc__law_value.nd rfl (Or.inl rfl) (pe_op op_addG (pv 5) (pe_ix (ix_seqG (K := K) rfl) (pv 3) (pe_def (ok__law_draw T) hr rfl (pa_cons (pv 0) (pa_cons pe_int pa_nil))) (fun _ _ => rfl)))))
  (pss_one (ps_set (i := 5) sc__law_value.nd rfl (Or.inl rfl) (pe_op op_addG (pv 5) (pe_ix (ix_seqG (K := K) rfl) pe_str (pe_def (ok__law_draw T) hr rfl (pa_cons (pv 0) (pa_cons pe_int pa_nil))) (fun _ _ => rfl))))))))
  (pss_one (ps_ret (pv 5)))))))))), ?_⟩
    walk_at "g"
    refine ⟨_, _, _, rfl, hD, by omega, by decide, by decide +kernel, fun r H1 r0 r1 D1 K1 => ?_⟩
    walk_at "g"
    generalize decide (r = 5) = wd
    cases kd with
    | false =>
      refine g_dec (fun _ => ?_) (fun h => absurd rfl h)
      refine g_cutA (M := fun σ' H' => σ' = [some (.ref p), some (.str (kS false)), some (.bl wd), none, none, none, none] ∧ H' = H1) (fun D' hn1 hrt _ _ => ?_) ?_
      · walk_at "g"
        refine g_split (fun _ => ?_) (fun _ => ?_)
        · walk_at "g"
          refine ⟨_, _, _, rfl, D1, by omega, by decide, by decide +kernel, fun r2 H2 r20 r21 D2 K2 => ?_⟩
          walk_at "g"
          rw [hrt]
          exact k _ _ ⟨_, rfl⟩ (D2.mono (by omega)) (K1.trans K2)
        · walk_at "g"
          exact hn1 _ _ ⟨rfl, rfl⟩
      · rintro σ' H' ⟨rfl, rfl⟩
        walk_at "g"
        refine ⟨_, _, _, rfl, D1, by omega, by decide, by decide +kernel, fun r2 H2 r20 r21 D2 K2 => ?_⟩
        walk_at "g"
        exact k _ _ ⟨_, rfl⟩ (D2.mono (by omega)) (K1.trans K2)
    | true =>
      refine g_dec (fun h => absurd h (show ("text" : Str) ≠ "number" by decide +kernel)) (fun _ => ?_)
      walk_at "g"
      generalize hz0 : Str.ofString " !\"#$&'()*+,-./0123456789:;<=>?@ABCDEFGHIJKLMNOPQRSTUVWXYZ[\\]^_`abcdefghijklmnopqrstuvwxyz{|}~" = zc
      have hzc : zc.length = 94 := by rw [← hz0]; decide +kernel
      have hzs : ∀ c ∈ zc.cps.toList, c ∈ signs.cps.toList := by rw [← hz0]; exact fun c h => h
      clear hz0
      refine ⟨_, _, _, rfl, D1, by omega, by decide, by decide +kernel, fun r2 H2 r20 r21 D2 K2 => ?_⟩
      have K02 := K1.trans K2
      refine g_cutA (M := fun σ' H' => ∃ m : Int, σ' = [some (.ref p), some (.str (kS true)), some (.bl wd), some (.str zc), some (.int m), none, none] ∧ 0 ≤ m ∧ m < 41 ∧ PD H' p (n + 3) ∧ Keep p H H') (fun D' hn1 hrt _ _ => ?_) ?_
      · walk_at "g"
        refine g_split (fun _ => ?_) (fun _ => ?_)
        · walk_at "g"
          refine ⟨_, _, _, rfl, D2, by omega, by decide, by decide +kernel, fun r3 H3 r30 r31 D3 K3 => ?_⟩
          walk_at "g"
          exact hn1 _ _ ⟨_, rfl, r30, r31, D3.mono (by omega), K02.trans K3⟩
        · walk_at "g"
          exact hn1 _ _ ⟨_, rfl, r20, by omega, D2.mono (by omega), K02⟩
      · rintro σ' H3 ⟨m, rfl, m0, m1, D3, K3⟩
        walk_at "g"
        refine ⟨_, rfl, by omega, by omega, ?_⟩
        refine for_rangeA (fun i σ' H' => ∃ (z : Str) (s6 : Option V), σ' = [some (.ref p), some (.str (kS true)), some (.bl wd), some (.str zc), some (.int m), some (.str z), s6] ∧ z.length ≤ i ∧ (∀ c ∈ z.cps.toList, c ∈ signs.cps.toList) ∧ PD H' p (n + 3 + i) ∧ Keep p H H') ⟨_, none, rfl, Nat.le_refl _, fun c h => absurd h (by simp [show (Str.ofString "").cps.toList = [] from rfl]), D3, K3⟩ ?_ ?_
        · rintro i σ' H4 D' hi ⟨z, s6, rfl, hz, hsg, D4, K4⟩ hnx hct hbk hrt
          have hi41 : i < 41 := by omega
          walk_at "g"
          refine g_split (fun _ => ?_) (fun _ => ?_)
          · walk_at "g"
            refine ⟨_, _, _, rfl, D4, by omega, by decide, by decide +kernel, fun r5 H5 r50 r51 D5 K5 => ?_⟩
            obtain ⟨c, hcm, hc⟩ := sign_in hzc r50 r51
            refine g_ixS (n := c) (by rw [hzc]; decide) hc ?_
            have hl1 : (z ++ (⟨#[c]⟩ : Str)).length = z.length + 1 := by rw [PySem.Str.length_append]; rfl
            refine g_addS (by rw [sizeLine_eq]; show z.length + 1 ≤ _; omega) ?_
            walk_at "g"
            exact hnx _ _ ⟨_, _, rfl, by omega, sg_app hsg (hzs _ hcm), D5, K4.trans K5⟩
          · walk_at "g"
            refine ⟨_, _, _, rfl, D4, by omega, by decide, by decide +kernel, fun r5 H5 r50 r51 D5 K5 => ?_⟩
            obtain ⟨c, hcm, hc⟩ := sign_in (z := Str.ofString " a~") (m := 3) (by decide +kernel) r50 r51
            refine g_ixS (n := c) (by decide +kernel) hc ?_
            have hl1 : (z ++ (⟨#[c]⟩ : Str)).length = z.length + 1 := by rw [PySem.Str.length_append]; rfl
            refine g_addS (by rw [sizeLine_eq]; show z.length + 1 ≤ _; omega) ?_
            walk_at "g"
            exact hnx _ _ ⟨_, _, rfl, by omega, sg_app hsg (sg_three _ hcm), D5, K4.trans K5⟩
        · rintro σ' H4 ⟨z, s6, rfl, hz, hsg, D4, K4⟩
          walk_at "g"
          exact k _ _ ⟨z, rfl, by omega, hsg⟩ (D4.mono (by omega)) K4
end
section
variable {P : Program} {w : World} {K : PySem.W.Frag} {mg : Str → Option Value} {base : Heap}
def spColsN : Sp := fun vs H Q _ => ∃ (p : Addr) (m : Int) (n : Nat), vs = [.ref p, .int m] ∧ PD H p n ∧ n ≤ 800000 ∧ 0 < m ∧ m ≤ 8 ∧ ∀ (L : Addr) (cs : List Col) (H' : Hp), ColsOk cs → LAt H' L (cs.map ct) → H L = none → Keep p H H' → Q (.ref L) H'
theorem ok__law_columns (T : TxtW w K mg) : Def P w K mg base 3 "_law_columns" ["_law_pool_here", "_law_most"] spColsN := by
  obtain ⟨f, fd, h⟩ := T.d__law_columns
  refine h.def (Fun.okM h.fn sc__law_columns (fun vs H Q E h => ?_) (fun cdv A outer s H vs Q E hr h => ?_))
  · obtain ⟨p, m, n, rfl, _⟩ := h
    rfl
  · obtain ⟨p, m, n, rfl, hD, hn, hm0, hm, k⟩ := h
    refine ⟨_, (pss_cons (ps_set (i := 2) sc__law_columns.nd rfl (Or.inl rfl) (pe_lst pa_nil))
  (pss_cons (ps_for PassesOwn.never rfl (pi_range1 rfl T.h_range (pa_cons (pe_op op_addG pe_int (pe_def (ok__law_draw T) hr rfl (pa_cons (pv 0) (pa_cons (pv 1) pa_nil)))) pa_nil)) (pg_name (i := 3) sc__law_columns.nd rfl (Or.inl rfl))
  (pss_cons (ps_set (i := 4) sc__law_columns.nd rfl (Or.inl rfl) (pe_def (ok__law_name T) hr rfl (pa_cons (pv 0) (pa_cons (pe_lc (own := [("_law_column", 5)]) rfl sc__law_columns.nd (pi_list (pv 2)) (blkOk_by (N := N__law_columns) (sc := defScope S__law_columns) (by decide +kernel)) (fun _ _ _ _ _ => pg_name (i := 5) sc__law_columns.nd rfl (Or.inl rfl)) (fun _ _ _ _ _ => pts_nil) (fun _ _ _ _ _ => (pe_ix (ix_seqG (K := K) rfl) (pv 5) pe_int (fun _ _ => rfl)))) pa_nil))))
  (pss_one (ps_expr (pe_bm PySem.F.plainAttrs_list PySem.F.slot_list_append PySem.F.type_list_append mt_append (pv 2) (pa_cons (pe_tup (pa_cons (pv 4) (pa_cons (pe_ix (ix_seqG (K := K) rfl) (pe_lst (pa_cons pe_str (pa_cons pe_str (pa_cons pe_str pa_nil)))) (pe_def (ok__law_draw T) hr rfl (pa_cons (pv 0) (pa_cons pe_int pa_nil))) (fun _ _ => rfl)) (pa_cons (pe_cmpR op_eq (pe_def (ok__law_draw T) hr rfl (pa_cons (pv 0) (pa_cons pe_int pa_nil))) pe_int (nomark _)) pa_nil)))) pa_nil))))))
  (pss_one (ps_ret (pv 2))))), ?_⟩
    walk_at "g"
    refine ⟨Nat.zero_le _, fun L hL => ?_⟩
    have nL := hD.ne hL
    have D1 := hD.new (o := .lst []) hL
    have K1 := (Keep.refl p H).new (o := .lst []) hL
    have e1 : LAt (upd H L (.lst [])) L (([] : List Col).map ct) := ⟨[], upd_same, rfl, fun i q t h => by simp at h⟩
    generalize upd H L (.lst []) = H1 at D1 K1 e1
    walk_at "g"
    refine ⟨_, _, _, rfl, D1, by omega, hm0, Nat.lt_of_lt_of_le (log_small (by omega)) (by decide), fun r H2 r0 r1 D2 K2 => ?_⟩
    walk_at "g"
    refine ⟨_, rfl, by omega, by omega, ?_⟩
    refine for_rangeA (fun i σ' H' => ∃ (s3 s4 s5 : Option V) (cs : List Col), σ' = [some (.ref p), some (.int m), some (.ref L), s3, s4, s5] ∧ PD H' p (n + 1 + 30 * i) ∧ Keep p H H' ∧ LAt H' L (cs.map ct) ∧ cs.length = i ∧ (∀ c ∈ cs, nameP c.1) ∧ (cs.map (·.1)).Nodup) ⟨none, none, none, [], rfl, D2, K1.trans K2, e1.keepP nL D1.at K2, rfl, fun c hc => (nomatch hc), List.nodup_nil⟩ ?_ ?_
    · rintro i σ' H4 D' hi ⟨s3, s4, s5, cs, rfl, D4, K4, hC4, rfl, hcsk, hnd⟩ hnx hct hbk hrt
      have hi12 : cs.length < 12 := by omega
      obtain ⟨qs, hq4, hlen, hcol⟩ := id hC4
      rw [List.length_map] at hlen
      walk_at "g"
      refine ⟨L, rfl, ⟨_, SqL.of hq4⟩, fun Do hDo => ?_⟩
      refine lc_new (qs.map V.ref) (fun i y _ => ∃ x, cs[i]? = some x ∧ y = .str x.1) hDo (fun H2 k2 => fits_l (SqL.of (k2 _ _ hq4))) (by rw [List.length_map]; omega) (fun i y Ha Hb _ h _ => h) (fun i y Hh R S hy kh _ hR => ?_) (fun H5 ys k5 h5' hyl hys => ?_)
      · rw [List.getElem?_map] at hy
        obtain ⟨q5, hq5, rfl⟩ := Option.map_eq_some_iff.mp hy
        obtain ⟨x, hx⟩ : ∃ x, cs[i]? = some x := ⟨_, List.getElem?_eq_getElem (by have := (List.getElem?_eq_some_iff.mp hq5).1; omega)⟩
        have e5 := kh _ _ (hcol i q5 (ct x) hq5 (by rw [List.getElem?_map, hx]; rfl))
        walk_at "g"
        refine ⟨rfl, ?_⟩
        walk_at "g"
        refine g_ixT (SqT.of e5) (v := .str x.1) (show atI (ct x) 0 = some (.str x.1) from rfl) ?_
        exact hR _ _ (fun _ _ h => h) ⟨x, hx, rfl⟩
      · obtain rfl : ys = (cs.map (·.1)).map V.str := by
          refine List.ext_getElem (by rw [hyl, List.length_map, List.length_map, List.length_map, hlen]) fun i g1 g2 => ?_
          obtain ⟨x, hx, e⟩ := hys i _ (List.getElem?_eq_getElem g1)
          rw [e, List.getElem_map, List.getElem_map]
          obtain ⟨h3, h4⟩ := List.getElem?_eq_some_iff.mp hx
          rw [h4]
        have D5 : PD H5 p (n + 1 + 30 * cs.length) := by
          obtain ⟨a, b, c, e, r⟩ := D4
          exact ⟨a, b, c, k5 _ _ e, r⟩
        have hDp : Do ≠ p := D4.ne hDo
        have K5 : Keep p H H5 := fun q o nq h => k5 _ _ (K4 q o nq h)
        have hC5 := hC4.keep k5
        walk_at "g"
        refine ⟨_, _, cs.map (·.1), _, rfl, D5, by omega, hDp, h5', by rw [List.length_map]; omega, fun z H6 hzk hzn D6 K6 => ?_⟩
        have hC6 := hC5.keepP nL D5.at K6
        have K06 := K5.trans K6
        obtain ⟨qs6, hq6, _⟩ := id hC6
        walk_at "g"
        refine ⟨by show 3 ≤ sizeLine; decide, fun l hl => ?_⟩
        have nl := D6.ne hl
        have D7 := D6.new (o := .lst [.str (kS false), .str (kS true), .str (kS false)]) hl
        have K7 := K06.new (o := .lst [.str (kS false), .str (kS true), .str (kS false)]) (K06.back nl hl)
        have hC7 := hC6.keep (H' := upd H6 l (.lst [.str (kS false), .str (kS true), .str (kS false)])) (fun q o h => by rw [upd_ne (ne_of_none h hl)]; exact h)
        have e7 : (upd H6 l (.lst [.str (kS false), .str (kS true), .str (kS false)])) l = some (.lst [.str (kS false), .str (kS true), .str (kS false)]) := upd_same
        have e0 : upd H6 l (.lst [.str (Str.ofString "number"), .str (Str.ofString "text"), .str (Str.ofString "number")]) = upd H6 l (.lst [.str (kS false), .str (kS true), .str (kS false)]) := rfl
        rw [e0]
        generalize upd H6 l (.lst [.str (kS false), .str (kS true), .str (kS false)]) = H7 at D7 K7 hC7 e7
        walk_at "g"
        refine ⟨_, _, _, rfl, D7, by omega, by decide, by decide +kernel, fun r2 H8 r20 r21 D8 K8 => ?_⟩
        obtain ⟨kd, ek⟩ : ∃ kd : Bool, atI [V.str (kS false), V.str (kS true), V.str (kS false)] r2 = some (.str (kS kd)) := by
          have : r2 = 0 ∨ r2 = 1 ∨ r2 = 2 := by omega
          rcases this with rfl | rfl | rfl
          · exact ⟨false, rfl⟩
          · exact ⟨true, rfl⟩
          · exact ⟨false, rfl⟩
        refine g_ixL (SqL.of (K8 _ _ nl e7)) ek ?_
        have hC8 := hC7.keepP nL D7.at K8
        walk_at "g"
        refine ⟨_, _, _, rfl, D8, by omega, by decide, by decide +kernel, fun r3 H9 r30 r31 D9 K9 => ?_⟩
        have hC9 := hC8.keepP nL D8.at K9
        have K09 := (K7.trans K8).trans K9
        walk_at "g"
        refine ⟨by show 3 ≤ sizeLine; decide, fun t ht => ?_⟩
        obtain ⟨qs9, hq9, hlen9, _⟩ := id hC9
        rw [List.length_map] at hlen9
        have nt : L ≠ t := ne_of_none hq9 ht
        walk_at "g"
        refine hnx _ _ ⟨_, _, _, cs ++ [(z, kd, decide (r3 = 1))], rfl, ((D9.new ht).other nL).mono ?_, (K09.new (K09.back (D9.ne ht) ht)).new ?_, ?_, by rw [List.length_append]; rfl, fun c hc => (List.mem_append.mp hc).elim (hcsk c) fun hc => by rw [List.mem_singleton.mp hc]; exact hzk, by
          rw [List.map_append]
          exact List.nodup_append.mpr ⟨hnd, List.nodup_cons.mpr ⟨fun h => (nomatch h), List.nodup_nil⟩, fun u hu v hv e => hzn (by
            rw [List.mem_singleton.mp hv] at e
            have e2 : u = z := e
            rw [← e2]; exact hu)⟩⟩
        · omega
        · exact hL
        · have := hC9.app (x := ct (z, kd, decide (r3 = 1))) hq9 ht
          rw [List.map_append]
          exact this
    · rintro σ' H4 ⟨s3, s4, s5, cs, rfl, D4, K4, hC4, hlen, hcsk, hnd⟩
      walk_at "g"
      exact k L cs H4 ⟨by omega, by omega, hcsk, hnd⟩ hC4 hL K4
end
section
variable {P : Program} {w : World} {K : PySem.W.Frag} {mg : Str → Option Value} {base : Heap}
def spOrderN : Sp := fun vs H Q _ => ∃ (p L : Addr) (cs : List Col) (n : Nat), vs = [.ref p, .ref L] ∧ PD H p n ∧ n ≤ 800000 ∧ LAt H L (cs.map ct) ∧ ColsOk cs ∧ L ≠ p ∧ ∀ (O : Addr) (ps : List (Str × Bool)) (H' : Hp), OOk ps → LAt H' O (ps.map pt) → H O = none → LAt H' L (cs.map ct) → Keep p H H' → PD H' p (n + 100) → Q (.ref O) H'
theorem ok__law_order (T : TxtW w K mg) : Def P w K mg base 2 "_law_order" ["_law_pool_here", "_law_columns_here"] spOrderN := by
  obtain ⟨f, fd, h⟩ := T.d__law_order
  refine h.def (Fun.okM h.fn sc__law_order (fun vs H Q E h => ?_) (fun cdv A outer s H vs Q E hr h => ?_))
  · obtain ⟨p, L, cs, n, rfl, _⟩ := h
    rfl
  · obtain ⟨p, L, cs, n, rfl, hD, hn, hC, hcs, hLp, k⟩ := h
    refine ⟨_, (pss_cons (ps_set (i := 2) sc__law_order.nd rfl (Or.inl rfl) (pe_lst pa_nil))
  (pss_cons (ps_for PassesOwn.never rfl (pi_range1 rfl T.h_range (pa_cons (pe_op op_addG pe_int (pe_def (ok__law_draw T) hr rfl (pa_cons (pv 0) (pa_cons pe_int pa_nil)))) pa_nil)) (pg_name (i := 3) sc__law_order.nd rfl (Or.inl rfl))
  (pss_cons (ps_set (i := 4) sc__law_order.nd rfl (Or.inl rfl) (pe_ix (ix_seqG (K := K) rfl) (pe_ix (ix_seqG (K := K) rfl) (pv 1) (pe_def (ok__law_draw T) hr rfl (pa_cons (pv 0) (pa_cons (pe_callB (call_lenG (K := K) rfl) (by rfl) T.h_len (by decide +kernel) (pa_cons (pv 1) pa_nil)) pa_nil))) (fun _ _ => rfl)) pe_int (fun _ _ => rfl)))
  (pss_one (ps_if (pt_cmpR (op_notInG (K := K) rfl) (pv 4) (pe_lc (own := [("_law_part", 5)]) rfl sc__law_order.nd (pi_list (pv 2)) (blkOk_by (N := N__law_order) (sc := defScope S__law_order) (by decide +kernel)) (fun _ _ _ _ _ => pg_name (i := 5) sc__law_order.nd rfl (Or.inl rfl)) (fun _ _ _ _ _ => pts_nil) (fun _ _ _ _ _ => (pe_ix (ix_seqG (K := K) rfl) (pv 5) pe_int (fun _ _ => rfl)))) (by rfl))
  (pss_one (ps_expr (pe_bm PySem.F.plainAttrs_list PySem.F.slot_list_append PySem.F.type_list_append mt_append (pv 2) (pa_cons (pe_tup (pa_cons (pv 4) (pa_cons (pe_ix (ix_seqG (K := K) rfl) (pe_lst (pa_cons pe_str (pa_cons pe_str pa_nil))) (pe_def (ok__law_draw T) hr rfl (pa_cons (pv 0) (pa_cons pe_int pa_nil))) (fun _ _ => rfl)) pa_nil))) pa_nil))))
  pss_nil))))
  (pss_one (ps_ret (pv 2))))), ?_⟩
    walk_at "g"
    refine ⟨Nat.zero_le _, fun O hO => ?_⟩
    have nO := hD.ne hO
    have D1 := hD.new (o := .lst []) hO
    have K1 := (Keep.refl p H).new (o := .lst []) hO
    have e1 : LAt (upd H O (.lst [])) O (([] : List (Str × Bool)).map pt) := ⟨[], upd_same, rfl, fun i q t h => by simp at h⟩
    have hC1 := hC.keep (H' := upd H O (.lst [])) (fun q o h => by rw [upd_ne (ne_of_none h hO)]; exact h)
    have hLO : L ≠ O := by obtain ⟨qs, h1, _⟩ := hC; exact ne_of_none h1 hO
    generalize upd H O (.lst []) = H1 at D1 K1 e1 hC1
    walk_at "g"
    refine ⟨_, _, _, rfl, D1, by omega, by decide, by decide +kernel, fun r H2 r0 r1 D2 K2 => ?_⟩
    have hpos : 0 < cs.length := hcs.ne
    have hcl := hcs.le
    walk_at "g"
    refine ⟨_, rfl, by omega, by omega, ?_⟩
    refine for_rangeA (fun i σ' H' => ∃ (s3 s4 s5 : Option V) (ps : List (Str × Bool)), σ' = [some (.ref p), some (.ref L), some (.ref O), s3, s4, s5] ∧ PD H' p (n + 1 + 30 * i) ∧ Keep p H H' ∧ LAt H' O (ps.map pt) ∧ LAt H' L (cs.map ct) ∧ ps.length ≤ i ∧ (0 < i → 1 ≤ ps.length) ∧ (∀ c ∈ ps, nameP c.1) ∧ (ps.map (·.1)).Nodup) ⟨none, none, none, [], rfl, D2, K1.trans K2, e1.keepP nO D1.at K2, hC1.keepP hLp D1.at K2, Nat.le_refl _, fun h => absurd h (Nat.lt_irrefl 0), (fun c hc => nomatch hc), List.nodup_nil⟩ ?_ ?_
    · rintro i σ' H4 D' hi ⟨s3, s4, s5, ps, rfl, D4, K4, hO4, hC4, hpl, hp1, hpk, hpd⟩ hnx hct hbk hrt
      have hi2 : i < 2 := by omega
      obtain ⟨qs, hq4, hlen, hcol⟩ := id hC4
      rw [List.length_map] at hlen
      walk_at "g"
      refine ⟨_, _, _, rfl, D4, by omega, by rw [List.length_map]; omega, Nat.lt_of_lt_of_le (log_small (by rw [List.length_map]; omega)) (by decide), fun r5 H5 r50 r51 D5 K5 => ?_⟩
      rw [List.length_map] at r51
      obtain ⟨j, rfl⟩ := Int.eq_ofNat_of_zero_le r50
      have hj : j < cs.length := by omega
      have hq5 := K5 _ _ hLp hq4
      have hC5 := hC4.keepP hLp D4.at K5
      have hO5 := hO4.keepP nO D4.at K5
      refine g_ixL (SqL.of hq5) (v := .ref qs[j]) (atI_nat (j := j) (by rw [List.getElem?_map, List.getElem?_eq_getElem (by omega)]; rfl)) ?_
      walk_at "g"
      have et : H5 qs[j] = some (.tup (ct cs[j])) := (hC5.get hq5).2 j _ _ (List.getElem?_eq_getElem (by omega)) (by rw [List.getElem?_map, List.getElem?_eq_getElem hj]; rfl)
      refine g_ixT (SqT.of et) (v := .str cs[j].1) (by rfl) ?_
      walk_at "g"
      obtain ⟨ks, ho5, hol, hop⟩ := id hO5
      rw [List.length_map] at hol
      refine ⟨O, rfl, ⟨_, SqL.of ho5⟩, fun Do hDo => ?_⟩
      refine lc_new (ks.map V.ref) (fun i y _ => ∃ x, ps[i]? = some x ∧ y = .str x.1) hDo (fun H2 k2 => fits_l (SqL.of (k2 _ _ ho5))) (by rw [List.length_map]; omega) (fun i y Ha Hb _ h _ => h) (fun i y Hh R S hy kh _ hR => ?_) (fun H6 ys k6 h6' hyl hys => ?_)
      · rw [List.getElem?_map] at hy
        obtain ⟨q5, hq5, rfl⟩ := Option.map_eq_some_iff.mp hy
        obtain ⟨x, hx⟩ : ∃ x, ps[i]? = some x := ⟨_, List.getElem?_eq_getElem (by have := (List.getElem?_eq_some_iff.mp hq5).1; omega)⟩
        have e5 := kh _ _ (hop i q5 (pt x) hq5 (by rw [List.getElem?_map, hx]; rfl))
        walk_at "g"
        refine ⟨rfl, ?_⟩
        walk_at "g"
        refine g_ixT (SqT.of e5) (v := .str x.1) (show atI (pt x) 0 = some (.str x.1) from rfl) ?_
        exact hR _ _ (fun _ _ h => h) ⟨x, hx, rfl⟩
      · obtain rfl : ys = (ps.map (·.1)).map V.str := by
          refine List.ext_getElem (by rw [hyl, List.length_map, List.length_map, List.length_map, hol]) fun i g1 g2 => ?_
          obtain ⟨x, hx, e⟩ := hys i _ (List.getElem?_eq_getElem g1)
          rw [e, List.getElem_map, List.getElem_map]
          obtain ⟨h3, h4⟩ := List.getElem?_eq_some_iff.mp hx
          rw [h4]
        have D6 : PD H6 p (n + 1 + 30 * i + 1) := by
          obtain ⟨a, b, c, e, r⟩ := D5
          exact ⟨a, b, c, k6 _ _ e, r⟩
        have K05 := K4.trans K5
        have K6 : Keep p H H6 := fun q o nq h => k6 _ _ (K05 q o nq h)
        have hC6 := hC5.keep k6
        have hO6 := hO5.keep k6
        refine .inr ⟨_, (ps.map (·.1)).map V.str, rfl, .inl (SqL.of h6'), rfl, Tw.flat_strs _, ?_⟩
        rw [if_pos rfl, inV_strs]
        walk_at "g"
        refine g_ndec (fun hnew => ?_) (fun hnew => ?_)
        · obtain ⟨ks6, hs6, _⟩ := id hO6
          walk_at "g"
          refine ⟨by show 2 ≤ sizeLine; decide, fun l hl => ?_⟩
          have nl := D6.ne hl
          have D7 := D6.new (o := .lst [.str (dS true), .str (dS false)]) hl
          have K7 := K6.new (o := .lst [.str (dS true), .str (dS false)]) (K6.back nl hl)
          have x7 : ∀ q o, H6 q = some o → (upd H6 l (.lst [.str (dS true), .str (dS false)])) q = some o := fun q o h => by rw [upd_ne (ne_of_none h hl)]; exact h
          have hC7 := hC6.keep x7
          have hO7 := hO6.keep x7
          have e7 : (upd H6 l (.lst [.str (dS true), .str (dS false)])) l = some (.lst [.str (dS true), .str (dS false)]) := upd_same
          have e0 : upd H6 l (.lst [.str (Str.ofString "up"), .str (Str.ofString "down")]) = upd H6 l (.lst [.str (dS true), .str (dS false)]) := rfl
          rw [e0]
          generalize upd H6 l (.lst [.str (dS true), .str (dS false)]) = H7 at D7 K7 hC7 hO7 e7 x7
          walk_at "g"
          refine ⟨_, _, _, rfl, D7, by omega, by decide, by decide +kernel, fun r2 H8 r20 r21 D8 K8 => ?_⟩
          obtain ⟨up, ek⟩ : ∃ up : Bool, atI [V.str (dS true), V.str (dS false)] r2 = some (.str (dS up)) := by
            have : r2 = 0 ∨ r2 = 1 := by omega
            rcases this with rfl | rfl
            · exact ⟨true, rfl⟩
            · exact ⟨false, rfl⟩
          refine g_ixL (SqL.of (K8 _ _ nl e7)) ek ?_
          have hC8 := hC7.keepP hLp D7.at K8
          have hO8 := hO7.keepP nO D7.at K8
          have K08 := K7.trans K8
          walk_at "g"
          refine ⟨by show 2 ≤ sizeLine; decide, fun t ht => ?_⟩
          obtain ⟨qs9, hq9, hlen9, _⟩ := id hO8
          rw [List.length_map] at hlen9
          have nt : O ≠ t := ne_of_none hq9 ht
          walk_at "g"
          refine hnx _ _ ⟨_, _, _, ps ++ [(cs[j].1, up)], rfl, ((D8.new ht).other nO).mono (by omega), (K08.new (K08.back (D8.ne ht) ht)).new hO, ?_, ?_, by rw [List.length_append]; show _ + 1 ≤ _; omega, (fun _ => by rw [List.length_append]; show 1 ≤ _ + 1; omega), fun c hc => ?_, ?_⟩
          · have := hO8.app (x := pt (cs[j].1, up)) hq9 ht
            rw [List.map_append]
            exact this
          · have a1 := hC8.keep (H' := upd H8 t (.tup [.str cs[j].1, .str (dS up)])) (fun q o h => by rw [upd_ne (ne_of_none h ht)]; exact h)
            refine a1.keepP hLO ⟨qs9.map V.ref, by rw [upd_ne nt]; exact hq9⟩ fun q o nq h => by rw [upd_ne nq]; exact h
          · rcases List.mem_append.mp hc with hc | hc
            · exact hpk c hc
            · rw [List.mem_singleton.mp hc]
              exact hcs.nm _ (List.getElem_mem hj)
          · rw [List.map_append]
            exact List.nodup_append.mpr ⟨hpd, List.nodup_cons.mpr ⟨fun h => (nomatch h), List.nodup_nil⟩, fun u hu v hv e => hnew (by
              rw [List.mem_singleton.mp hv] at e
              have e2 : u = cs[j].1 := e
              rw [← e2]; exact hu)⟩
        · walk_at "g"
          refine hnx _ _ ⟨_, _, _, ps, rfl, D6.mono (by omega), K6, hO6, hC6, by omega, (fun _ => ?_), hpk, hpd⟩
          rcases Nat.eq_zero_or_pos ps.length with h | h
          · have : ps = [] := List.length_eq_zero_iff.mp h
            rw [this] at hnew
            cases hnew
          · exact h
    · rintro σ' H4 ⟨s3, s4, s5, ps, rfl, D4, K4, hO4, hC4, hpl, hp1, hpk, hpd⟩
      walk_at "g"
      exact k O ps H4 ⟨hp1 (by omega), by omega, hpk, hpd⟩ hO4 hO hC4 K4 (D4.mono (by omega))
end
section
variable {P : Program} {w : World} {K : PySem.W.Frag} {mg : Str → Option Value} {base : Heap}
theorem ok_need_op (T : TxtW w K mg) : Def P w K mg base 1 "need_op" ["thing"] (spNeed fun v => ∃ c, v = .str c ∧ c ∈ opsL) := by
  obtain ⟨f, fd, h⟩ := T.d_need_op
  obtain ⟨t_OPS, G_OPS, Q_OPS⟩ := T.k_OPS
  refine h.def (Fun.okM h.fn sc_need_op (fun vs H Q E h => ?_) (fun cdv A outer s H vs Q E hr h => ?_))
  · obtain ⟨v, rfl, _⟩ := h
    rfl
  · obtain ⟨v, rfl, ⟨c, rfl, hc⟩, k⟩ := h
    refine ⟨_, (pss_one (ps_if (PW.pt (pw_or (pt_not (pt_val (pe_callB (call_isiG (K := K) rfl) (by rfl) T.h_isinstance (by decide +kernel) (pa_cons (pv 0) (pa_cons (pe_bltn (v := .ty "str") (by rfl) T.h_str (by decide +kernel) rfl) pa_nil))))) (pw_or1 (pt_cmpR (op_notInG (K := K) rfl) (pv 0) (pe_glob (v := .ref t_OPS) rfl G_OPS rfl) (by rfl)))))
  (pss_one ps_never)
  pss_nil)), ?_⟩
    walk_at "g"
    refine .inr ⟨_, opsL.map V.str, rfl, .inr (Q_OPS _), rfl, Tw.flat_strs _, ?_⟩
    rw [if_pos rfl, inV_strs]
    walk_at "g"
    refine g_ndec (fun h => absurd hc h) (fun _ => ?_)
    walk_at "g"
    exact k _ fun _ _ h => h
theorem ok_need_values (T : TxtW w K mg) : Def P w K mg base 3 "need_values" ["thing"] (fun vs H Q _ => ∃ (l : Addr) (xs : List V) (k : Bool), vs = [.ref l] ∧ H l = some (.lst xs) ∧ xs ≠ [] ∧ xs.length ≤ 8 ∧ (∀ v ∈ xs, isV k v) ∧ ∀ H', (∀ q o, H q = some o → H' q = some o) → Q .non H') := by
  obtain ⟨f, fd, h⟩ := T.d_need_values
  obtain ⟨t_MOST_VALUES, G_MOST_VALUES⟩ := T.k_MOST_VALUES
  refine h.def (Fun.okM h.fn sc_need_values (fun vs H Q E h => ?_) (fun cdv A outer s H vs Q E hr h => ?_))
  · obtain ⟨l, xs, kd, rfl, _⟩ := h
    rfl
  · obtain ⟨l, xs, kd, rfl, hl, hne, h8, hv, k⟩ := h
    refine ⟨_, (pss_cons (ps_if (PW.pt (pw_or (pt_not (pt_val (pe_def (ok_is_sequence T) hr rfl (pa_cons (pv 0) pa_nil)))) (pw_or (pt_cmpR op_eq (pe_callB (call_lenG (K := K) rfl) (by rfl) T.h_len (by decide +kernel) (pa_cons (pv 0) pa_nil)) pe_int (nomark _)) (pw_or1 (pt_cmpR op_gtG (pe_callB (call_lenG (K := K) rfl) (by rfl) T.h_len (by decide +kernel) (pa_cons (pv 0) pa_nil)) (pe_glob (v := .int 8) rfl G_MOST_VALUES ⟨_, rfl⟩) (nomark _))))))
  (pss_one ps_never)
  pss_nil)
  (pss_one (ps_for PassesOwn.never rfl (pi_list (pv 0)) (pg_name (i := 1) sc_need_values.nd rfl (Or.inl rfl))
  (pss_one (ps_if (pt_cmpR op_isNG (pe_def (ok_kind_of T) hr rfl (pa_cons (pv 1) pa_nil)) pe_non (nomark _))
  (pss_one ps_never)
  pss_nil))))), ?_⟩
    have hpos : 0 < xs.length := List.length_pos_iff.mpr hne
    walk_at "g"
    refine ⟨_, "list", rfl, by decide, fun H2 x2 => .base (.lst (x2 _ _ hl)), fun H1 k1 => ?_⟩
    have hl1 := k1 _ _ hl
    rw [show decide (("list" : String) = "list" ∨ ("list" : String) = "tuple") = true by decide]
    walk_at "g"
    refine g_dec (fun h => absurd h (by omega)) (fun _ => ?_)
    walk_at "g"
    refine g_dec (fun h => absurd h (by omega)) (fun _ => ?_)
    walk_at "g"
    refine ⟨l, rfl, ⟨_, SqL.of hl1⟩, for_listA (xs := xs) (fun j σ' H' => (∃ v, σ' = [some (.ref l), v]) ∧ ∀ q o, H q = some o → H' q = some o) ⟨⟨none, rfl⟩, k1⟩ (fun _ _ _ _ e => SqL.of (e.2 _ _ hl)) ?_ ?_⟩
    · rintro j x σ' H2 D' hj ⟨⟨v, rfl⟩, k2⟩ hnx hct hbk hrt
      have hx := hv x (List.mem_of_getElem? hj)
      obtain ⟨s, es⟩ := hx.kind
      walk_at "g"
      refine ⟨_, rfl, hx.thing, fun H3 k3 => ?_⟩
      rw [es]
      walk_at "g"
      exact hnx _ _ ⟨⟨_, rfl⟩, fun q o h => k3 _ _ (k2 _ _ h)⟩
    · rintro σ' H2 ⟨⟨v, rfl⟩, k2⟩
      walk_at "g"
      exact k _ k2
theorem ok_always (T : TxtW w K mg) : Def P w K mg base 4 "always" [] (fun vs H Q _ => vs = [] ∧ ∀ t H', (∀ q o, H q = some o → H' q = some o) → TestAt (cadr mg "Test") H' At.always.ts t → Q (.ref t) H') := by
  obtain ⟨f, fd, h⟩ := T.d_always
  refine h.def (Fun.okM h.fn sc_always (fun vs H Q E h => ?_) (fun cdv A outer s H vs Q E hr h => ?_))
  · obtain ⟨rfl, _⟩ := h
    rfl
  · obtain ⟨rfl, k⟩ := h
    refine ⟨_, (pss_one (ps_ret (pe_new (ok_Test_init T) hr rfl T.e_Test (pa_cons pe_str (pa_cons (pe_tup pa_nil) (pa_cons (pe_tup pa_nil) (pa_cons (pe_tup pa_nil) pa_nil))))))), ?_⟩
    walk_at "g"
    refine ⟨Nat.zero_le _, fun i hi => ?_⟩
    walk_at "g"
    refine ⟨by show 0 ≤ sizeLine; decide, fun f hf => ?_⟩
    walk_at "g"
    refine ⟨by show 0 ≤ sizeLine; decide, fun u hu => ?_⟩
    walk_at "g"
    intro x dx hx hdx hne
    have hi2 : ∀ y0 : HO, (upd (upd (upd (upd (upd H i (.tup [])) f (.tup [])) u (.tup [])) dx (.own x)) x y0) i = some (.tup []) := fun y0 => by
      have h1 : (upd (upd (upd H i (.tup [])) f (.tup [])) u (.tup [])) i = some (.tup []) := by rw [upd_ne (ne_of_none (by rw [upd_ne (ne_of_none upd_same hf)]; exact upd_same) hu), upd_ne (ne_of_none upd_same hf)]; exact upd_same
      rw [upd_ne (ne_of_none h1 hx), upd_ne (ne_of_none h1 hdx)]; exact h1
    refine ⟨x, dx, i, f, u, _, [], [], rfl, upd_same, hi2 _, .nil, Nat.zero_le _, fun H9 k9 h9 => ⟨rfl, ?_⟩⟩
    obtain ⟨e1, e2⟩ := atom_made (At.always.flds) (At.always.trms) hi hf hu hx hdx k9 h9
    walk_at "g"
    exact k x H9 (fun q o h => e1 _ _ (h)) e2
theorem ok_never (T : TxtW w K mg) : Def P w K mg base 4 "never" [] (fun vs H Q _ => vs = [] ∧ ∀ t H', (∀ q o, H q = some o → H' q = some o) → TestAt (cadr mg "Test") H' At.never.ts t → Q (.ref t) H') := by
  obtain ⟨f, fd, h⟩ := T.d_never
  refine h.def (Fun.okM h.fn sc_never (fun vs H Q E h => ?_) (fun cdv A outer s H vs Q E hr h => ?_))
  · obtain ⟨rfl, _⟩ := h
    rfl
  · obtain ⟨rfl, k⟩ := h
    refine ⟨_, (pss_one (ps_ret (pe_new (ok_Test_init T) hr rfl T.e_Test (pa_cons pe_str (pa_cons (pe_tup pa_nil) (pa_cons (pe_tup pa_nil) (pa_cons (pe_tup pa_nil) pa_nil))))))), ?_⟩
    walk_at "g"
    refine ⟨Nat.zero_le _, fun i hi => ?_⟩
    walk_at "g"
    refine ⟨by show 0 ≤ sizeLine; decide, fun f hf => ?_⟩
    walk_at "g"
    refine ⟨by show 0 ≤ sizeLine; decide, fun u hu => ?_⟩
    walk_at "g"
    intro x dx hx hdx hne
    have hi2 : ∀ y0 : HO, (upd (upd (upd (upd (upd H i (.tup [])) f (.tup [])) u (.tup [])) dx (.own x)) x y0) i = some (.tup []) := fun y0 => by
      have h1 : (upd (upd (upd H i (.tup [])) f (.tup [])) u (.tup [])) i = some (.tup []) := by rw [upd_ne (ne_of_none (by rw [upd_ne (ne_of_none upd_same hf)]; exact upd_same) hu), upd_ne (ne_of_none upd_same hf)]; exact upd_same
      rw [upd_ne (ne_of_none h1 hx), upd_ne (ne_of_none h1 hdx)]; exact h1
    refine ⟨x, dx, i, f, u, _, [], [], rfl, upd_same, hi2 _, .nil, Nat.zero_le _, fun H9 k9 h9 => ⟨rfl, ?_⟩⟩
    obtain ⟨e1, e2⟩ := atom_made (At.never.flds) (At.never.trms) hi hf hu hx hdx k9 h9
    walk_at "g"
    exact k x H9 (fun q o h => e1 _ _ (h)) e2
theorem ok_empty (T : TxtW w K mg) : Def P w K mg base 4 "empty" ["column"] (fun vs H Q _ => ∃ c, vs = [.str c] ∧ nameP c ∧ ∀ t H', (∀ q o, H q = some o → H' q = some o) → TestAt (cadr mg "Test") H' (At.empty c).ts t → Q (.ref t) H') := by
  obtain ⟨f, fd, h⟩ := T.d_empty
  refine h.def (Fun.okM h.fn sc_empty (fun vs H Q E h => ?_) (fun cdv A outer s H vs Q E hr h => ?_))
  · obtain ⟨c, rfl, _⟩ := h
    rfl
  · obtain ⟨c, rfl, hc, k⟩ := h
    refine ⟨_, (pss_cons (ps_expr (pe_def (ok_need_column T) hr rfl (pa_cons (pv 0) pa_nil)))
  (pss_one (ps_ret (pe_new (ok_Test_init T) hr rfl T.e_Test (pa_cons pe_str (pa_cons (pe_tup pa_nil) (pa_cons (pe_tup (pa_cons (pv 0) pa_nil)) (pa_cons (pe_tup pa_nil) pa_nil)))))))), ?_⟩
    walk_at "g"
    refine ⟨_, rfl, ⟨c, rfl, hc⟩, fun H1 k1 => ?_⟩
    walk_at "g"
    refine ⟨Nat.zero_le _, fun i hi => ?_⟩
    walk_at "g"
    refine ⟨by show 1 ≤ sizeLine; decide, fun f hf => ?_⟩
    walk_at "g"
    refine ⟨by show 0 ≤ sizeLine; decide, fun u hu => ?_⟩
    walk_at "g"
    intro x dx hx hdx hne
    have hi2 : ∀ y0 : HO, (upd (upd (upd (upd (upd H1 i (.tup [])) f (.tup [V.str c])) u (.tup [])) dx (.own x)) x y0) i = some (.tup []) := fun y0 => by
      have h1 : (upd (upd (upd H1 i (.tup [])) f (.tup [V.str c])) u (.tup [])) i = some (.tup []) := by rw [upd_ne (ne_of_none (by rw [upd_ne (ne_of_none upd_same hf)]; exact upd_same) hu), upd_ne (ne_of_none upd_same hf)]; exact upd_same
      rw [upd_ne (ne_of_none h1 hx), upd_ne (ne_of_none h1 hdx)]; exact h1
    refine ⟨x, dx, i, f, u, _, [], [], rfl, upd_same, hi2 _, .nil, Nat.zero_le _, fun H9 k9 h9 => ⟨rfl, ?_⟩⟩
    obtain ⟨e1, e2⟩ := atom_made ((At.empty c).flds) ((At.empty c).trms) hi hf hu hx hdx k9 h9
    walk_at "g"
    exact k x H9 (fun q o h => e1 _ _ (k1 _ _ h)) e2
theorem ok_begins (T : TxtW w K mg) : Def P w K mg base 4 "begins" ["column", "prefix"] (fun vs H Q _ => ∃ c z, vs = [.str c, .str z] ∧ nameP c ∧ isS (.str z) ∧ ∀ t H', (∀ q o, H q = some o → H' q = some o) → TestAt (cadr mg "Test") H' (At.begins c z).ts t → Q (.ref t) H') := by
  obtain ⟨f, fd, h⟩ := T.d_begins
  refine h.def (Fun.okM h.fn sc_begins (fun vs H Q E h => ?_) (fun cdv A outer s H vs Q E hr h => ?_))
  · obtain ⟨c, z, rfl, _⟩ := h
    rfl
  · obtain ⟨c, z, rfl, hc, hz, k⟩ := h
    refine ⟨_, (pss_cons (ps_expr (pe_def (ok_need_column T) hr rfl (pa_cons (pv 0) pa_nil)))
  (pss_cons (ps_if (pt_not (pt_val (pe_def (ok_is_text T) hr rfl (pa_cons (pv 1) pa_nil))))
  (pss_one ps_never)
  pss_nil)
  (pss_one (ps_ret (pe_new (ok_Test_init T) hr rfl T.e_Test (pa_cons pe_str (pa_cons (pe_tup pa_nil) (pa_cons (pe_tup (pa_cons (pv 0) pa_nil)) (pa_cons (pe_tup (pa_cons (pv 1) pa_nil)) pa_nil))))))))), ?_⟩
    walk_at "g"
    refine ⟨_, rfl, ⟨c, rfl, hc⟩, fun H1 k1 => ?_⟩
    walk_at "g"
    refine ⟨_, rfl, isV.thing (k := true) hz, fun H2 k2 => ?_⟩
    rw [show isTxtB (.str z) = true from isS.txt hz]
    walk_at "g"
    refine ⟨Nat.zero_le _, fun i hi => ?_⟩
    walk_at "g"
    refine ⟨by show 1 ≤ sizeLine; decide, fun f hf => ?_⟩
    walk_at "g"
    refine ⟨by show 1 ≤ sizeLine; decide, fun u hu => ?_⟩
    walk_at "g"
    intro x dx hx hdx hne
    have hi2 : ∀ y0 : HO, (upd (upd (upd (upd (upd H2 i (.tup [])) f (.tup [V.str c])) u (.tup [V.str z])) dx (.own x)) x y0) i = some (.tup []) := fun y0 => by
      have h1 : (upd (upd (upd H2 i (.tup [])) f (.tup [V.str c])) u (.tup [V.str z])) i = some (.tup []) := by rw [upd_ne (ne_of_none (by rw [upd_ne (ne_of_none upd_same hf)]; exact upd_same) hu), upd_ne (ne_of_none upd_same hf)]; exact upd_same
      rw [upd_ne (ne_of_none h1 hx), upd_ne (ne_of_none h1 hdx)]; exact h1
    refine ⟨x, dx, i, f, u, _, [], [], rfl, upd_same, hi2 _, .nil, Nat.zero_le _, fun H9 k9 h9 => ⟨rfl, ?_⟩⟩
    obtain ⟨e1, e2⟩ := atom_made ((At.begins c z).flds) ((At.begins c z).trms) hi hf hu hx hdx k9 h9
    walk_at "g"
    exact k x H9 (fun q o h => e1 _ _ (k2 _ _ (k1 _ _ h))) e2
theorem ok_compare (T : TxtW w K mg) : Def P w K mg base 4 "compare" ["column", "op", "value"] (fun vs H Q _ => ∃ c op v kd, vs = [.str c, .str op, v] ∧ nameP c ∧ op ∈ opsL ∧ isV kd v ∧ ∀ t H', (∀ q o, H q = some o → H' q = some o) → TestAt (cadr mg "Test") H' (At.compare c op v).ts t → Q (.ref t) H') := by
  obtain ⟨f, fd, h⟩ := T.d_compare
  refine h.def (Fun.okM h.fn sc_compare (fun vs H Q E h => ?_) (fun cdv A outer s H vs Q E hr h => ?_))
  · obtain ⟨c, op, v, kd, rfl, _⟩ := h
    rfl
  · obtain ⟨c, op, v, kd, rfl, hc, ho, hv, k⟩ := h
    refine ⟨_, (pss_cons (ps_expr (pe_def (ok_need_column T) hr rfl (pa_cons (pv 0) pa_nil)))
  (pss_cons (ps_expr (pe_def (ok_need_op T) hr rfl (pa_cons (pv 1) pa_nil)))
  (pss_cons (ps_if (pt_cmpR op_isNG (pe_def (ok_kind_of T) hr rfl (pa_cons (pv 2) pa_nil)) pe_non (nomark _))
  (pss_one ps_never)
  pss_nil)
  (pss_one (ps_ret (pe_new (ok_Test_init T) hr rfl T.e_Test (pa_cons pe_str (pa_cons (pe_tup pa_nil) (pa_cons (pe_tup (pa_cons (pv 0) pa_nil)) (pa_cons (pe_tup (pa_cons (pv 1) (pa_cons (pv 2) pa_nil))) pa_nil)))))))))), ?_⟩
    walk_at "g"
    refine ⟨_, rfl, ⟨c, rfl, hc⟩, fun H1 k1 => ?_⟩
    walk_at "g"
    refine ⟨_, rfl, ⟨op, rfl, ho⟩, fun H2 k2 => ?_⟩
    walk_at "g"
    obtain ⟨s0, es⟩ := hv.kind
    refine ⟨_, rfl, hv.thing, fun H3 k3 => ?_⟩
    rw [es]
    walk_at "g"
    refine ⟨Nat.zero_le _, fun i hi => ?_⟩
    walk_at "g"
    refine ⟨by show 1 ≤ sizeLine; decide, fun f hf => ?_⟩
    walk_at "g"
    refine ⟨by show 2 ≤ sizeLine; decide, fun u hu => ?_⟩
    walk_at "g"
    intro x dx hx hdx hne
    have hi2 : ∀ y0 : HO, (upd (upd (upd (upd (upd H3 i (.tup [])) f (.tup [V.str c])) u (.tup [V.str op, v])) dx (.own x)) x y0) i = some (.tup []) := fun y0 => by
      have h1 : (upd (upd (upd H3 i (.tup [])) f (.tup [V.str c])) u (.tup [V.str op, v])) i = some (.tup []) := by rw [upd_ne (ne_of_none (by rw [upd_ne (ne_of_none upd_same hf)]; exact upd_same) hu), upd_ne (ne_of_none upd_same hf)]; exact upd_same
      rw [upd_ne (ne_of_none h1 hx), upd_ne (ne_of_none h1 hdx)]; exact h1
    refine ⟨x, dx, i, f, u, _, [], [], rfl, upd_same, hi2 _, .nil, Nat.zero_le _, fun H9 k9 h9 => ⟨rfl, ?_⟩⟩
    obtain ⟨e1, e2⟩ := atom_made ((At.compare c op v).flds) ((At.compare c op v).trms) hi hf hu hx hdx k9 h9
    walk_at "g"
    exact k x H9 (fun q o h => e1 _ _ (k3 _ _ (k2 _ _ (k1 _ _ h)))) e2
theorem ok_against (T : TxtW w K mg) : DefKw P w K mg base 4 "against" ["column", "op", "other", "more"] 3 "more" (.int 0) (fun vs H Q _ => ∃ c op d n, vs = [.str c, .str op, .str d, .int n] ∧ nameP c ∧ op ∈ opsL ∧ nameP d ∧ d ≠ c ∧ ∀ t H', (∀ q o, H q = some o → H' q = some o) → TestAt (cadr mg "Test") H' (At.against c op d n).ts t → Q (.ref t) H') := by
  obtain ⟨f, fd, h⟩ := T.d_against
  refine h.def (Fun.okM h.fn sc_against (fun vs H Q E h => ?_) (fun cdv A outer s H vs Q E hr h => ?_))
  · obtain ⟨c, op, d, n, rfl, _⟩ := h
    rfl
  · obtain ⟨c, op, d, n, rfl, hc, ho, hd, hdc, k⟩ := h
    refine ⟨_, (pss_cons (ps_expr (pe_def (ok_need_column T) hr rfl (pa_cons (pv 0) pa_nil)))
  (pss_cons (ps_expr (pe_def (ok_need_op T) hr rfl (pa_cons (pv 1) pa_nil)))
  (pss_cons (ps_expr (pe_def (ok_need_column T) hr rfl (pa_cons (pv 2) pa_nil)))
  (pss_cons (ps_if (pt_cmpR op_eq (pv 2) (pv 0) (nomark _))
  (pss_one ps_never)
  pss_nil)
  (pss_cons (ps_if (pt_not (pt_val (pe_def (ok_is_integer T) hr rfl (pa_cons (pv 3) pa_nil))))
  (pss_one ps_never)
  pss_nil)
  (pss_one (ps_ret (pe_new (ok_Test_init T) hr rfl T.e_Test (pa_cons pe_str (pa_cons (pe_tup pa_nil) (pa_cons (pe_tup (pa_cons (pv 0) (pa_cons (pv 2) pa_nil))) (pa_cons (pe_tup (pa_cons (pv 1) (pa_cons (pv 3) pa_nil))) pa_nil)))))))))))), ?_⟩
    walk_at "g"
    refine ⟨_, rfl, ⟨c, rfl, hc⟩, fun H1 k1 => ?_⟩
    walk_at "g"
    refine ⟨_, rfl, ⟨op, rfl, ho⟩, fun H2 k2 => ?_⟩
    walk_at "g"
    refine ⟨_, rfl, ⟨d, rfl, hd⟩, fun H3 k3 => ?_⟩
    walk_at "g"
    refine g_dec (fun h => absurd h hdc) (fun _ => ?_)
    walk_at "g"
    refine ⟨_, rfl, .inr (.inr (.inl ⟨n, rfl⟩)), fun H4 k4 => ?_⟩
    rw [show isIntB (.int n) = true from rfl]
    walk_at "g"
    refine ⟨Nat.zero_le _, fun i hi => ?_⟩
    walk_at "g"
    refine ⟨by show 2 ≤ sizeLine; decide, fun f hf => ?_⟩
    walk_at "g"
    refine ⟨by show 2 ≤ sizeLine; decide, fun u hu => ?_⟩
    walk_at "g"
    intro x dx hx hdx hne
    have hi2 : ∀ y0 : HO, (upd (upd (upd (upd (upd H4 i (.tup [])) f (.tup [V.str c, V.str d])) u (.tup [V.str op, V.int n])) dx (.own x)) x y0) i = some (.tup []) := fun y0 => by
      have h1 : (upd (upd (upd H4 i (.tup [])) f (.tup [V.str c, V.str d])) u (.tup [V.str op, V.int n])) i = some (.tup []) := by rw [upd_ne (ne_of_none (by rw [upd_ne (ne_of_none upd_same hf)]; exact upd_same) hu), upd_ne (ne_of_none upd_same hf)]; exact upd_same
      rw [upd_ne (ne_of_none h1 hx), upd_ne (ne_of_none h1 hdx)]; exact h1
    refine ⟨x, dx, i, f, u, _, [], [], rfl, upd_same, hi2 _, .nil, Nat.zero_le _, fun H9 k9 h9 => ⟨rfl, ?_⟩⟩
    obtain ⟨e1, e2⟩ := atom_made ((At.against c op d n).flds) ((At.against c op d n).trms) hi hf hu hx hdx k9 h9
    walk_at "g"
    exact k x H9 (fun q o h => e1 _ _ (k4 _ _ (k3 _ _ (k2 _ _ (k1 _ _ h))))) e2
theorem ok_among (T : TxtW w K mg) : Def P w K mg base 4 "among" ["column", "values"] (fun vs H Q _ => ∃ c l xs kd, vs = [.str c, .ref l] ∧ nameP c ∧ H l = some (.lst xs) ∧ xs ≠ [] ∧ xs.length ≤ 8 ∧ (∀ v ∈ xs, isV kd v) ∧ ∀ t H', (∀ q o, H q = some o → H' q = some o) → TestAt (cadr mg "Test") H' (At.among c xs).ts t → Q (.ref t) H') := by
  obtain ⟨f, fd, h⟩ := T.d_among
  refine h.def (Fun.okM h.fn sc_among (fun vs H Q E h => ?_) (fun cdv A outer s H vs Q E hr h => ?_))
  · obtain ⟨c, l, xs, kd, rfl, _⟩ := h
    rfl
  · obtain ⟨c, l, xs, kd, rfl, hc, hl, hne0, h8, hv, k⟩ := h
    refine ⟨_, (pss_cons (ps_expr (pe_def (ok_need_column T) hr rfl (pa_cons (pv 0) pa_nil)))
  (pss_cons (ps_expr (pe_def (ok_need_values T) hr rfl (pa_cons (pv 1) pa_nil)))
  (pss_one (ps_ret (pe_new (ok_Test_init T) hr rfl T.e_Test (pa_cons pe_str (pa_cons (pe_tup pa_nil) (pa_cons (pe_tup (pa_cons (pv 0) pa_nil)) (pa_cons (pe_callTy (call_tupleG (K := K) rfl) (by rfl) T.h_tuple (by decide +kernel) (pa_cons (pv 1) pa_nil)) pa_nil))))))))), ?_⟩
    walk_at "g"
    refine ⟨_, rfl, ⟨c, rfl, hc⟩, fun H1 k1 => ?_⟩
    walk_at "g"
    refine ⟨l, xs, kd, rfl, k1 _ _ hl, hne0, h8, hv, fun H2 k2 => ?_⟩
    have hl2 := k2 _ _ (k1 _ _ hl)
    walk_at "g"
    refine ⟨Nat.zero_le _, fun i hi => ?_⟩
    walk_at "g"
    refine ⟨by show 1 ≤ sizeLine; decide, fun f hf => ?_⟩
    walk_at "g"
    refine ⟨l, xs, rfl, .inl ⟨SqL.of (by rw [upd_ne (ne_of_none (by rw [upd_ne (ne_of_none hl2 hi)]; exact hl2) hf), upd_ne (ne_of_none hl2 hi)]; exact hl2), fun u hu => ?_⟩⟩
    walk_at "g"
    intro x dx hx hdx hne
    have hi2 : ∀ y0 : HO, (upd (upd (upd (upd (upd H2 i (.tup [])) f (.tup [V.str c])) u (.tup xs)) dx (.own x)) x y0) i = some (.tup []) := fun y0 => by
      have h1 : (upd (upd (upd H2 i (.tup [])) f (.tup [V.str c])) u (.tup xs)) i = some (.tup []) := by rw [upd_ne (ne_of_none (by rw [upd_ne (ne_of_none upd_same hf)]; exact upd_same) hu), upd_ne (ne_of_none upd_same hf)]; exact upd_same
      rw [upd_ne (ne_of_none h1 hx), upd_ne (ne_of_none h1 hdx)]; exact h1
    refine ⟨x, dx, i, f, u, _, [], [], rfl, upd_same, hi2 _, .nil, Nat.zero_le _, fun H9 k9 h9 => ⟨rfl, ?_⟩⟩
    obtain ⟨e1, e2⟩ := atom_made ((At.among c xs).flds) ((At.among c xs).trms) hi hf hu hx hdx k9 h9
    walk_at "g"
    exact k x H9 (fun q o h => e1 _ _ (k2 _ _ (k1 _ _ h))) e2
end
theorem ext_new {H : Hp} {p : Addr} {o : HO} (hp : H p = none) : ∀ q u, H q = some u → (upd H p o) q = some u := fun q u h => by rw [upd_ne (ne_of_none h hp)]; exact h
/-- no part of a form stands there -/
def NF (o : HO) : Prop := (∀ l, o ≠ .tup l) ∧ ∀ vs k, o = .lst vs → vs ≠ [] → (∀ v ∈ vs, isV k v) → False
theorem isV_ref {k : Bool} {p : Addr} (h : isV k (.ref p)) : False := by
  cases k with
  | false => obtain ⟨i, e⟩ := h; cases e
  | true => obtain ⟨z, e, _⟩ := h; cases e
theorem NF.refs {qs : List Addr} : NF (.lst (qs.map V.ref)) := by
  refine ⟨(fun l e => nomatch e), fun vs k e hne h => ?_⟩
  injection e with e
  subst e
  cases qs with
  | nil => exact hne rfl
  | cons q r => exact isV_ref (h (.ref q) List.mem_cons_self)
theorem NF.dict {kvs : List (Key × V)} : NF (.dK kvs) := ⟨(fun l e => nomatch e), (fun vs k e => nomatch e)⟩
def AtomForm (H : Hp) (p : Addr) : At → Prop
  | .always => H p = some (.tup [.str "always"])
  | .never => H p = some (.tup [.str "never"])
  | .empty c => H p = some (.tup [.str "empty", .str c])
  | .among c vs => ∃ l k, H p = some (.tup [.str "among", .str c, .ref l]) ∧ H l = some (.lst vs) ∧ vs ≠ [] ∧ ∀ v ∈ vs, isV k v
  | .begins c z => H p = some (.tup [.str "begins", .str c, .str z])
  | .compare c op v => H p = some (.tup [.str "compare", .str c, .str op, v])
  | .against c op d n => H p = some (.tup [.str "against", .str c, .str op, .str d, .int n])
theorem AtomForm.keepN {H H' : Hp} {p q : Addr} {a : At} (h : AtomForm H q a) (k : ∀ b o, b ≠ p → H b = some o → H' b = some o) (n : ∃ o, H p = some o ∧ NF o) : AtomForm H' q a := by
  obtain ⟨o, ho, n1, n2⟩ := n
  have nt : ∀ {b : Addr} {l : List V}, H b = some (.tup l) → b ≠ p := fun h z => n1 _ (by rw [z, ho] at h; injection h)
  cases a with
  | among c vs =>
    obtain ⟨l, kd, h1, h2, h3, h4⟩ := h
    exact ⟨l, kd, k _ _ (nt h1) h1, k _ _ (fun z => n2 vs kd (by rw [z, ho] at h2; injection h2) h3 h4) h2, h3, h4⟩
  | always => exact k _ _ (nt h) h
  | never => exact k _ _ (nt h) h
  | empty c => exact k _ _ (nt h) h
  | begins c z => exact k _ _ (nt h) h
  | compare c op v => exact k _ _ (nt h) h
  | against c op d m => exact k _ _ (nt h) h
theorem AtomForm.keep {H H' : Hp} {q : Addr} {a : At} (h : AtomForm H q a) (k : ∀ b o, H b = some o → H' b = some o) : AtomForm H' q a := by
  cases a with
  | among c vs =>
    obtain ⟨l, kd, h1, h2, h3, h4⟩ := h
    exact ⟨l, kd, k _ _ h1, k _ _ h2, h3, h4⟩
  | always => exact k _ _ h
  | never => exact k _ _ h
  | empty c => exact k _ _ h
  | begins c z => exact k _ _ h
  | compare c op v => exact k _ _ h
  | against c op d m => exact k _ _ h
theorem log_len {m : Nat} (h : m ≤ 100) : (m : Int).natAbs.log2 < 9000 := by
  have : (m : Int).natAbs < 2 ^ 64 := by omega
  exact Nat.lt_of_lt_of_le (PySem.Flt.log2_lt_of (by decide) this) (by decide)
def opsP (H : Hp) (p : Addr) : Prop := H p = some (.lst (opsL.map V.str))
def spAtomP : Sp := fun vs H Q _ => ∃ (p L : Addr) (cs : List Col) (n : Nat), vs = [.ref p, .ref L] ∧ PD H p n ∧ n ≤ 700000 ∧ LAt H L (cs.map ct) ∧ ColsOk cs ∧ L ≠ p ∧ ∀ q a κ H', AtomForm H' q a → a.Wf κ → Keep p H H' → Q (.ref q) H'
def k2 (cs : List Col) : List (Str × Bool) := cs.map fun c => (c.1, c.2.1)
theorem k2_mem {cs : List Col} {c : Col} (h : c ∈ cs) : (c.1, c.2.1) ∈ k2 cs := List.mem_map.mpr ⟨c, h, rfl⟩
section
variable {P : Program} {w : World} {K : PySem.W.Frag} {mg : Str → Option Value} {base : Heap}
theorem ok__law_atom (T : TxtW w K mg) : Def P w K mg base 3 "_law_atom" ["_law_pool_here", "_law_columns_here"] spAtomP := by
  obtain ⟨f, fd, h⟩ := T.d__law_atom
  refine h.def (Fun.okM h.fn sc__law_atom (fun vs H Q E h => ?_) (fun cdv A outer s H vs Q E hr h => ?_))
  · obtain ⟨p, L, cs, n, rfl, _⟩ := h
    rfl
  · obtain ⟨p, L, cs, n, rfl, hD, hn, hC, hcs, hLp, k⟩ := h
    refine ⟨_, (pss_cons (ps_set (i := 2) sc__law_atom.nd rfl (Or.inl rfl) (pe_ix (ix_seqG (K := K) rfl) (pv 1) (pe_def (ok__law_draw T) hr rfl (pa_cons (pv 0) (pa_cons (pe_callB (call_lenG (K := K) rfl) (by rfl) T.h_len (by decide +kernel) (pa_cons (pv 1) pa_nil)) pa_nil))) (fun _ _ => rfl)))
  (pss_cons (ps_set (i := 3) sc__law_atom.nd rfl (Or.inr rfl) (pe_ix (ix_seqG (K := K) rfl) (pv 2) pe_int (fun _ _ => rfl)))
  (pss_cons (ps_set (i := 4) sc__law_atom.nd rfl (Or.inr rfl) (pe_ix (ix_seqG (K := K) rfl) (pv 2) pe_int (fun _ _ => rfl)))
  (pss_cons (ps_set (i := 5) sc__law_atom.nd rfl (Or.inl rfl) (pe_def (ok__law_draw T) hr rfl (pa_cons (pv 0) (pa_cons pe_int pa_nil))))
  (pss_cons (ps_set (i := 6) sc__law_atom.nd rfl (Or.inl rfl) (pe_ix (ix_seqG (K := K) rfl) (pe_lst (pa_cons pe_str (pa_cons pe_str (pa_cons pe_str (pa_cons pe_str (pa_cons pe_str (pa_cons pe_str pa_nil))))))) (pe_def (ok__law_draw T) hr rfl (pa_cons (pv 0) (pa_cons pe_int pa_nil))) (fun _ _ => rfl)))
  (Evl.pss_cut (ps_if (PW.pt (pw_or (pt_cmpR op_eq (pv 5) pe_int (nomark _)) (pw_or1 (pt_cmpR op_eq (pv 5) pe_int (nomark _)))))
  (pss_cons (ps_setLc (i := 7) (own := [("_law_column", 9)]) rfl sc__law_atom.nd rfl rfl (sw_true rfl rfl rfl (by decide +kernel)) (pi_list (pv 1)) (blkOk_by (N := N__law_atom) (sc := defScope S__law_atom) (by decide +kernel)) (fun _ _ _ _ _ => pg_name (i := 9) sc__law_atom.nd rfl (Or.inl rfl)) (fun _ _ _ _ _ => pts_one (PW.pt (pw_and (pt_cmpR op_eq (pe_ix (ix_seqG (K := K) rfl) (pv 9) pe_int (fun _ _ => rfl)) (pv 4) (nomark _)) (pw_and1 (pt_cmpR op_ne (pe_ix (ix_seqG (K := K) rfl) (pv 9) pe_int (fun _ _ => rfl)) (pv 3) (nomark _)))))) (fun _ _ _ _ _ => (pe_ix (ix_seqG (K := K) rfl) (pv 9) pe_int (fun _ _ => rfl))))
  (pss_one (ps_if (pt_cmpR op_gtG (pe_callB (call_lenG (K := K) rfl) (by rfl) T.h_len (by decide +kernel) (pa_cons (pv 7) pa_nil)) pe_int (nomark _))
  (pss_cons (ps_set (i := 8) sc__law_atom.nd rfl (Or.inl rfl) pe_int)
  (Evl.pss_cut (ps_if (pt_cmpR op_eq (pv 4) pe_str (nomark _))
  (pss_one (ps_set (i := 8) sc__law_atom.nd rfl (Or.inl rfl) (pe_ix (ix_seqG (K := K) rfl) (pe_lst (pa_cons pe_int (pa_cons pe_int (pa_cons pe_int (pa_cons (pe_un un_negG pe_int) (pa_cons pe_int pa_nil)))))) (pe_def (ok__law_draw T) hr rfl (pa_cons (pv 0) (pa_cons pe_int pa_nil))) (fun _ _ => rfl))))
  pss_nil)
  (pss_one (ps_ret (pe_tup (pa_cons pe_str (pa_cons (pv 3) (pa_cons (pv 6) (pa_cons (pe_ix (ix_seqG (K := K) rfl) (pv 7) (pe_def (ok__law_draw T) hr rfl (pa_cons (pv 0) (pa_cons (pe_callB (call_lenG (K := K) rfl) (by rfl) T.h_len (by decide +kernel) (pa_cons (pv 7) pa_nil)) pa_nil))) (fun _ _ => rfl)) (pa_cons (pv 8) pa_nil))))))))))
  pss_nil)))
  pss_nil)
  (pss_cons (ps_if (pt_cmpR op_eq (pv 5) pe_int (nomark _))
  (pss_one (ps_ret (pe_tup (pa_cons pe_str (pa_cons (pv 3) (pa_cons (pe_lc (own := [("_law_k", 10)]) rfl sc__law_atom.nd (pi_range1 rfl T.h_range (pa_cons (pe_op op_addG pe_int (pe_def (ok__law_draw T) hr rfl (pa_cons (pv 0) (pa_cons pe_int pa_nil)))) pa_nil)) (blkOk_by (N := N__law_atom) (sc := defScope S__law_atom) (by decide +kernel)) (fun _ _ _ _ _ => pg_name (i := 10) sc__law_atom.nd rfl (Or.inl rfl)) (fun _ _ _ _ _ => pts_nil) (fun _ _ _ _ _ => (pe_def (ok__law_value T) hr rfl (pa_cons (pv 0) (pa_cons (pv 4) pa_nil))))) pa_nil))))))
  pss_nil)
  (pss_cons (ps_if (pt_cmpR op_eq (pv 5) pe_int (nomark _))
  (pss_one (ps_ret (pe_tup (pa_cons pe_str (pa_cons (pv 3) pa_nil)))))
  pss_nil)
  (Evl.pss_cut (ps_if (PW.pt (pw_and (pt_cmpR op_eq (pv 5) pe_int (nomark _)) (pw_and1 (pt_cmpR op_eq (pv 4) pe_str (nomark _)))))
  (pss_one (ps_ret (pe_tup (pa_cons pe_str (pa_cons (pv 3) (pa_cons (pe_def (ok__law_value T) hr rfl (pa_cons (pv 0) (pa_cons pe_str pa_nil))) pa_nil))))))
  pss_nil)
  (pss_cons (ps_if (pt_cmpR op_eq (pv 5) pe_int (nomark _))
  (pss_one (ps_ret (pe_ix (ix_seqG (K := K) rfl) (pe_lst (pa_cons (pe_tup (pa_cons pe_str pa_nil)) (pa_cons (pe_tup (pa_cons pe_str pa_nil)) (pa_cons (pe_tup (pa_cons pe_str (pa_cons (pv 3) pa_nil))) pa_nil)))) (pe_def (ok__law_draw T) hr rfl (pa_cons (pv 0) (pa_cons pe_int pa_nil))) (fun _ _ => rfl))))
  pss_nil)
  (pss_one (ps_ret (pe_tup (pa_cons pe_str (pa_cons (pv 3) (pa_cons (pv 6) (pa_cons (pe_def (ok__law_value T) hr rfl (pa_cons (pv 0) (pa_cons (pv 4) pa_nil))) pa_nil))))))))))))))))), ?_⟩
    obtain ⟨qs, hL, hlen, hcol⟩ := id hC
    rw [List.length_map] at hlen
    have hpos := hcs.ne
    have hcl := hcs.le
    walk_at "g"
    refine ⟨_, _, _, rfl, hD, by omega, by rw [List.length_map]; omega, log_len (by rw [List.length_map]; omega), fun r H1 r0 r1 D1 K1 => ?_⟩
    rw [List.length_map] at r1
    obtain ⟨j, rfl⟩ := Int.eq_ofNat_of_zero_le r0
    obtain ⟨q, hq⟩ : ∃ q, qs[j]? = some q := ⟨_, List.getElem?_eq_getElem (by omega)⟩
    obtain ⟨c, hc⟩ : ∃ c, cs[j]? = some c := ⟨_, List.getElem?_eq_getElem (by omega)⟩
    have hcm := List.mem_of_getElem? hc
    have hcn := hcs.nm c hcm
    have hL1 := K1 _ _ hLp hL
    have hC1 := hC.keepP hLp hD.at K1
    have e1 := (hC1.get hL1).2 j q (ct c) hq (by rw [List.getElem?_map, hc]; rfl)
    refine g_ixL (SqL.of hL1) (v := .ref q) (atI_nat (by rw [List.getElem?_map, hq]; rfl)) ?_
    walk_at "g"
    refine g_ixT (SqT.of e1) (v := .str c.1) (show atI (ct c) 0 = some (.str c.1) from rfl) ?_
    walk_at "g"
    refine g_ixT (SqT.of e1) (v := .str (kS c.2.1)) (show atI (ct c) 1 = some (.str (kS c.2.1)) from rfl) ?_
    walk_at "g"
    refine ⟨_, _, _, rfl, D1, by omega, by decide, by decide +kernel, fun r2 H2 r20 r21 D2 K2 => ?_⟩
    have K02 := K1.trans K2
    have hC2 := hC1.keepP hLp D1.at K2
    walk_at "g"
    refine ⟨by show 6 ≤ sizeLine; decide, fun o ho => ?_⟩
    have no := D2.ne ho
    have D3 := D2.new (o := .lst (opsL.map V.str)) ho
    have K03 := K02.new (o := .lst (opsL.map V.str)) (K02.back no ho)
    have hC3 := hC2.keep (H' := upd H2 o (.lst (opsL.map V.str))) (ext_new ho)
    have e3 : (upd H2 o (.lst (opsL.map V.str))) o = some (.lst (opsL.map V.str)) := upd_same
    have e0 : upd H2 o (.lst [.str (Str.ofString "<"), .str (Str.ofString "<="), .str (Str.ofString "=="), .str (Str.ofString "!="), .str (Str.ofString ">"), .str (Str.ofString ">=")]) = upd H2 o (.lst (opsL.map V.str)) := rfl
    rw [e0]
    generalize upd H2 o (.lst (opsL.map V.str)) = H3 at D3 K03 hC3 e3
    walk_at "g"
    refine ⟨_, _, _, rfl, D3, by omega, by decide, by decide +kernel, fun r4 H4 r40 r41 D4 K4 => ?_⟩
    obtain ⟨op, hop, eop⟩ := atI_strs (ws := opsL) r40 (by show r4 < 6; exact r41)
    refine g_ixL (SqL.of (K4 _ _ no e3)) eop ?_
    have K04 := K03.trans K4
    have hC4 := hC3.keepP hLp D3.at K4
    have D4 : PD H4 p (n + 10) := D4.mono (by omega)
    clear D3 K03 hC3 hC2 D2 K02 hC1 hL1 e1 hC hL hcol
    walk_at "g"
    refine g_cutA (M := fun σ' H' => ∃ s7 : Option V, σ' = [some (.ref p), some (.ref L), some (.ref q), some (.str c.1), some (.str (kS c.2.1)), some (.int r2), some (.str op), s7, none, none, none] ∧ PD H' p (n + 10) ∧ Keep p H H') (fun D1' hn1 hr1 _ _ => ?_) ?_
    · walk_at "g"
      by_cases h34 : r2 = 3 ∨ r2 = 4
      rotate_left
      · rw [decide_eq_false (fun h => h34 (.inl h))]
        walk_at "g"
        rw [decide_eq_false (fun h => h34 (.inr h))]
        walk_at "g"
        exact hn1 _ _ ⟨_, rfl, D4, K04⟩
      obtain ⟨qs, hL, hlen, hcol⟩ := id hC4
      rw [List.length_map] at hlen
      rcases h34 with h | h
      · rw [decide_eq_true h]
        walk_at "g"
        clear h
        refine ⟨L, rfl, ⟨_, SqL.of hL⟩, fun Do hDo => ?_⟩
        refine lc_any (qs.map V.ref) (fun y => ∃ x ∈ cs, y = .str x.1 ∧ x.2.1 = c.2.1 ∧ x.1 ≠ c.1) hDo (fun H2 k2 => fits_l (SqL.of (k2 _ _ hL))) (by rw [List.length_map]; omega) (fun x Hh R S hx kh hR hS => ?_) (fun H5 ys k5 h5' hys hyl => ?_)
        · obtain ⟨q2, hq2, rfl⟩ := List.mem_map.mp hx
          obtain ⟨j2, hj2, rfl⟩ := List.mem_iff_getElem.mp hq2
          obtain ⟨y, hy⟩ : ∃ y, cs[j2]? = some y := ⟨_, List.getElem?_eq_getElem (by omega)⟩
          have e2 := kh _ _ (hcol j2 qs[j2] (ct y) (List.getElem?_eq_getElem hj2) (by rw [List.getElem?_map, hy]; rfl))
          walk_at "g"
          refine ⟨rfl, ?_⟩
          walk_at "g"
          refine g_ixT (SqT.of e2) (v := .str (kS y.2.1)) (show atI (ct y) 1 = some (.str (kS y.2.1)) from rfl) ?_
          walk_at "g"
          refine g_dec (fun h1 => ?_) (fun h1 => ?_)
          · walk_at "g"
            refine g_ixT (SqT.of e2) (v := .str y.1) (show atI (ct y) 0 = some (.str y.1) from rfl) ?_
            walk_at "g"
            refine g_ndec (fun h2 => ?_) (fun h2 => ?_)
            · walk_at "g"
              refine g_ixT (SqT.of e2) (v := .str y.1) (show atI (ct y) 0 = some (.str y.1) from rfl) ?_
              exact hR _ ⟨y, List.mem_of_getElem? hy, rfl, kS_inj h1, h2⟩
            · exact hS
          · walk_at "g"
            exact hS
        · have D5 : PD H5 p (n + 10) := by
            obtain ⟨a, b, c, e, r⟩ := D4
            exact ⟨a, b, c, k5 _ _ e, r⟩
          have K5 : Keep p H H5 := fun q o nq h => k5 _ _ (K04 q o nq h)
          have nDo := D4.ne hDo
          have hyl12 : ys.length ≤ 12 := by
            rw [List.length_map] at hyl
            omega
          walk_at "g"
          refine g_dec (fun hpos2 => ?_) (fun hpos2 => ?_)
          · walk_at "g"
            refine g_cutA (M := fun σ' H' => ∃ m : Int, (c.2.1 = true → m = 0) ∧ σ' = [some (.ref p), some (.ref L), some (.ref q), some (.str c.1), some (.str (kS c.2.1)), some (.int r2), some (.str op), some (.ref Do), some (.int m), none, none] ∧ PD H' p (n + 11) ∧ Keep p H H' ∧ H' Do = some (.lst ys)) (fun D2' hn2 hr2 _ _ => ?_) ?_
            · walk_at "g"
              refine g_dec (fun hk0 => ?_) (fun hk0 => ?_)
              · walk_at "g"
                refine ⟨by show 5 ≤ sizeLine; decide, fun l hl => ?_⟩
                have nl := D5.ne hl
                walk_at "g"
                refine ⟨_, _, _, rfl, D5.new hl, by omega, by decide, by decide +kernel, fun r7 H7 r70 r71 D7 K7 => ?_⟩
                have K6 := K5.new (o := .lst [.int 0, .int 0, .int 1, .int (-1), .int 3]) (K5.back nl hl)
                obtain ⟨m, hm⟩ : ∃ m, atI [V.int 0, V.int 0, V.int 1, V.int (-1), V.int 3] r7 = some (.int m) := by
                  have : r7 = 0 ∨ r7 = 1 ∨ r7 = 2 ∨ r7 = 3 ∨ r7 = 4 := by omega
                  rcases this with rfl | rfl | rfl | rfl | rfl <;> exact ⟨_, rfl⟩
                refine g_ixL (SqL.of (K7 _ _ nl upd_same)) hm ?_
                walk_at "g"
                have hkd : c.2.1 = false := kS_inj (b := false) hk0
                exact hn2 _ _ ⟨m, (fun e => by rw [hkd] at e; cases e), rfl, D7, K6.trans K7, K7 _ _ nDo (ext_new hl _ _ h5')⟩
              · walk_at "g"
                exact hn2 _ _ ⟨0, fun _ => rfl, rfl, D5.mono (by omega), K5, h5'⟩
            · rintro σ' H6 ⟨m, hm0, rfl, D6, K6, h6'⟩
              walk_at "g"
              refine ⟨_, _, _, rfl, D6, by omega, by omega, log_len (by omega), fun r8 H8 r80 r81 D8 K8 => ?_⟩
              have K08 := K6.trans K8
              obtain ⟨jj, rfl⟩ := Int.eq_ofNat_of_zero_le r80
              obtain ⟨y, hy⟩ : ∃ y, ys[jj]? = some y := ⟨_, List.getElem?_eq_getElem (by omega)⟩
              obtain ⟨x, hx, rfl, hxk, hxn⟩ := hys y (List.mem_of_getElem? hy)
              refine g_ixL (SqL.of (K8 _ _ nDo h6')) (v := .str x.1) (atI_nat (j := jj) hy) ?_
              walk_at "g"
              refine ⟨by show 5 ≤ sizeLine; decide, fun t ht => ?_⟩
              walk_at "g"
              rw [hr1]
              exact k t (.against c.1 op x.1 m) (k2 cs) _ upd_same ⟨hcn, hcs.nm x hx, hxn, hop, c.2.1, k2_mem hcm, by rw [← hxk]; exact k2_mem hx, hm0⟩ (K08.new (K08.back (D8.ne ht) ht))
          · walk_at "g"
            exact hn1 _ _ ⟨_, rfl, D5, K5⟩
      · rw [decide_eq_false (by omega)]
        walk_at "g"
        rw [decide_eq_true h]
        walk_at "g"
        clear h
        refine ⟨L, rfl, ⟨_, SqL.of hL⟩, fun Do hDo => ?_⟩
        refine lc_any (qs.map V.ref) (fun y => ∃ x ∈ cs, y = .str x.1 ∧ x.2.1 = c.2.1 ∧ x.1 ≠ c.1) hDo (fun H2 k2 => fits_l (SqL.of (k2 _ _ hL))) (by rw [List.length_map]; omega) (fun x Hh R S hx kh hR hS => ?_) (fun H5 ys k5 h5' hys hyl => ?_)
        · obtain ⟨q2, hq2, rfl⟩ := List.mem_map.mp hx
          obtain ⟨j2, hj2, rfl⟩ := List.mem_iff_getElem.mp hq2
          obtain ⟨y, hy⟩ : ∃ y, cs[j2]? = some y := ⟨_, List.getElem?_eq_getElem (by omega)⟩
          have e2 := kh _ _ (hcol j2 qs[j2] (ct y) (List.getElem?_eq_getElem hj2) (by rw [List.getElem?_map, hy]; rfl))
          walk_at "g"
          refine ⟨rfl, ?_⟩
          walk_at "g"
          refine g_ixT (SqT.of e2) (v := .str (kS y.2.1)) (show atI (ct y) 1 = some (.str (kS y.2.1)) from rfl) ?_
          walk_at "g"
          refine g_dec (fun h1 => ?_) (fun h1 => ?_)
          · walk_at "g"
            refine g_ixT (SqT.of e2) (v := .str y.1) (show atI (ct y) 0 = some (.str y.1) from rfl) ?_
            walk_at "g"
            refine g_ndec (fun h2 => ?_) (fun h2 => ?_)
            · walk_at "g"
              refine g_ixT (SqT.of e2) (v := .str y.1) (show atI (ct y) 0 = some (.str y.1) from rfl) ?_
              exact hR _ ⟨y, List.mem_of_getElem? hy, rfl, kS_inj h1, h2⟩
            · exact hS
          · walk_at "g"
            exact hS
        · have D5 : PD H5 p (n + 10) := by
            obtain ⟨a, b, c, e, r⟩ := D4
            exact ⟨a, b, c, k5 _ _ e, r⟩
          have K5 : Keep p H H5 := fun q o nq h => k5 _ _ (K04 q o nq h)
          have nDo := D4.ne hDo
          have hyl12 : ys.length ≤ 12 := by
            rw [List.length_map] at hyl
            omega
          walk_at "g"
          refine g_dec (fun hpos2 => ?_) (fun hpos2 => ?_)
          · walk_at "g"
            refine g_cutA (M := fun σ' H' => ∃ m : Int, (c.2.1 = true → m = 0) ∧ σ' = [some (.ref p), some (.ref L), some (.ref q), some (.str c.1), some (.str (kS c.2.1)), some (.int r2), some (.str op), some (.ref Do), some (.int m), none, none] ∧ PD H' p (n + 11) ∧ Keep p H H' ∧ H' Do = some (.lst ys)) (fun D2' hn2 hr2 _ _ => ?_) ?_
            · walk_at "g"
              refine g_dec (fun hk0 => ?_) (fun hk0 => ?_)
              · walk_at "g"
                refine ⟨by show 5 ≤ sizeLine; decide, fun l hl => ?_⟩
                have nl := D5.ne hl
                walk_at "g"
                refine ⟨_, _, _, rfl, D5.new hl, by omega, by decide, by decide +kernel, fun r7 H7 r70 r71 D7 K7 => ?_⟩
                have K6 := K5.new (o := .lst [.int 0, .int 0, .int 1, .int (-1), .int 3]) (K5.back nl hl)
                obtain ⟨m, hm⟩ : ∃ m, atI [V.int 0, V.int 0, V.int 1, V.int (-1), V.int 3] r7 = some (.int m) := by
                  have : r7 = 0 ∨ r7 = 1 ∨ r7 = 2 ∨ r7 = 3 ∨ r7 = 4 := by omega
                  rcases this with rfl | rfl | rfl | rfl | rfl <;> exact ⟨_, rfl⟩
                refine g_ixL (SqL.of (K7 _ _ nl upd_same)) hm ?_
                walk_at "g"
                have hkd : c.2.1 = false := kS_inj (b := false) hk0
                exact hn2 _ _ ⟨m, (fun e => by rw [hkd] at e; cases e), rfl, D7, K6.trans K7, K7 _ _ nDo (ext_new hl _ _ h5')⟩
              · walk_at "g"
                exact hn2 _ _ ⟨0, fun _ => rfl, rfl, D5.mono (by omega), K5, h5'⟩
            · rintro σ' H6 ⟨m, hm0, rfl, D6, K6, h6'⟩
              walk_at "g"
              refine ⟨_, _, _, rfl, D6, by omega, by omega, log_len (by omega), fun r8 H8 r80 r81 D8 K8 => ?_⟩
              have K08 := K6.trans K8
              obtain ⟨jj, rfl⟩ := Int.eq_ofNat_of_zero_le r80
              obtain ⟨y, hy⟩ : ∃ y, ys[jj]? = some y := ⟨_, List.getElem?_eq_getElem (by omega)⟩
              obtain ⟨x, hx, rfl, hxk, hxn⟩ := hys y (List.mem_of_getElem? hy)
              refine g_ixL (SqL.of (K8 _ _ nDo h6')) (v := .str x.1) (atI_nat (j := jj) hy) ?_
              walk_at "g"
              refine ⟨by show 5 ≤ sizeLine; decide, fun t ht => ?_⟩
              walk_at "g"
              rw [hr1]
              exact k t (.against c.1 op x.1 m) (k2 cs) _ upd_same ⟨hcn, hcs.nm x hx, hxn, hop, c.2.1, k2_mem hcm, by rw [← hxk]; exact k2_mem hx, hm0⟩ (K08.new (K08.back (D8.ne ht) ht))
          · walk_at "g"
            exact hn1 _ _ ⟨_, rfl, D5, K5⟩
    rintro σ' H5 ⟨s7, rfl, D5, K5⟩
    walk_at "g"
    refine g_dec (fun h5 => ?_) (fun h5 => ?_)
    · walk_at "g"
      refine ⟨_, _, _, rfl, D5, by omega, by decide, by decide +kernel, fun r6 H6 r60 r61 D6 K6 => ?_⟩
      have K06 := K5.trans K6
      walk_at "g"
      refine ⟨_, rfl, by omega, by omega, fun Da hDa => ?_⟩
      have nDa := D6.ne hDa
      have hDaH := K06.back nDa hDa
      refine lc_range (fun i Hi => PD Hi p (n + 20 + 60 * i) ∧ Keep p H Hi ∧ ∃ ys : List V, ys.length = i ∧ Hi Da = some (.lst ys) ∧ ∀ y ∈ ys, isV c.2.1 y) ?_ ?_ ?_
      · exact ⟨(D6.new hDa).mono (by omega), K06.new hDaH, [], rfl, upd_same, fun y hy => nomatch hy⟩
      · rintro i Hi hi ⟨Di, Ki, ys, rfl, hDi, hys⟩
        have hi2 : ys.length < 3 := by omega
        refine ⟨rfl, ?_⟩
        walk_at "g"
        refine ⟨p, c.2.1, _, rfl, Di, by omega, fun v H7 hv D7 K7 => ?_⟩
        refine ⟨_, K7 _ _ nDa hDi, ?_, (D7.other nDa).mono (by omega), (Ki.trans K7).new hDaH, ys ++ [v], by simp, upd_same, fun y hy => ?_⟩
        · rw [sizeLine_eq]; omega
        · rcases List.mem_append.mp hy with hy | hy
          · exact hys y hy
          · rw [List.mem_singleton.mp hy]; exact hv
      · rintro Hi ⟨Di, Ki, ys, hyl2, hDi, hys⟩
        walk_at "g"
        refine ⟨by show 3 ≤ sizeLine; decide, fun t ht => ?_⟩
        walk_at "g"
        have hne : ys ≠ [] := fun e => by rw [e] at hyl2; simp at hyl2; omega
        exact k t (.among c.1 ys) (k2 cs) _ ⟨Da, c.2.1, upd_same, ext_new ht _ _ hDi, hne, hys⟩ ⟨hcn, hne, by omega, c.2.1, k2_mem hcm, hys⟩ (Ki.new (Ki.back (Di.ne ht) ht))
    walk_at "g"
    refine g_dec (fun h6 => ?_) (fun h6 => ?_)
    · walk_at "g"
      refine ⟨by show 2 ≤ sizeLine; decide, fun t ht => ?_⟩
      walk_at "g"
      exact k t (.empty c.1) (k2 cs) _ upd_same ⟨hcn, c.2.1, k2_mem hcm⟩ (K5.new (K5.back (D5.ne ht) ht))
    walk_at "g"
    refine g_cutA (M := fun σ' H' => σ' = [some (.ref p), some (.ref L), some (.ref q), some (.str c.1), some (.str (kS c.2.1)), some (.int r2), some (.str op), s7, none, none, none] ∧ H' = H5) (fun D1' hn1 hr1 _ _ => ?_) ?_
    · walk_at "g"
      refine g_dec (fun h7 => ?_) (fun h7 => ?_)
      · walk_at "g"
        refine g_dec (fun ht7 => ?_) (fun ht7 => ?_)
        · walk_at "g"
          refine ⟨p, true, _, rfl, D5, by omega, fun v H6 hv D6 K6 => ?_⟩
          have K06 := K5.trans K6
          obtain ⟨z, rfl, hz⟩ := hv
          walk_at "g"
          refine ⟨by show 3 ≤ sizeLine; decide, fun t ht => ?_⟩
          walk_at "g"
          rw [hr1]
          have hkd : c.2.1 = true := kS_inj (b := true) ht7
          exact k t (.begins c.1 z) (k2 cs) _ upd_same ⟨hcn, by rw [← hkd]; exact k2_mem hcm, z, rfl, hz⟩ (K06.new (K06.back (D6.ne ht) ht))
        · walk_at "g"
          exact hn1 _ _ ⟨rfl, rfl⟩
      · walk_at "g"
        exact hn1 _ _ ⟨rfl, rfl⟩
    rintro σ' H6 ⟨rfl, rfl⟩
    walk_at "g"
    refine g_dec (fun h8 => ?_) (fun h8 => ?_)
    · walk_at "g"
      refine ⟨by show 1 ≤ sizeLine; decide, fun t1 ht1 => ?_⟩
      have D6 := D5.new (o := .tup [.str (Str.ofString "always")]) ht1
      have K6 := K5.new (o := .tup [.str (Str.ofString "always")]) (K5.back (D5.ne ht1) ht1)
      have e1 : (upd H6 t1 (.tup [.str (Str.ofString "always")])) t1 = some (.tup [.str (Str.ofString "always")]) := upd_same
      generalize upd H6 t1 (.tup [.str (Str.ofString "always")]) = H7 at D6 K6 e1
      walk_at "g"
      refine ⟨by show 1 ≤ sizeLine; decide, fun t2 ht2 => ?_⟩
      have D7 := D6.new (o := .tup [.str (Str.ofString "never")]) ht2
      have K7 := K6.new (o := .tup [.str (Str.ofString "never")]) (K6.back (D6.ne ht2) ht2)
      have e12 := ext_new (o := .tup [.str (Str.ofString "never")]) ht2 _ _ e1
      have e2 : (upd H7 t2 (.tup [.str (Str.ofString "never")])) t2 = some (.tup [.str (Str.ofString "never")]) := upd_same
      generalize upd H7 t2 (.tup [.str (Str.ofString "never")]) = H8 at D7 K7 e12 e2
      walk_at "g"
      refine ⟨by show 2 ≤ sizeLine; decide, fun t3 ht3 => ?_⟩
      have D8 := D7.new (o := .tup [.str (Str.ofString "empty"), .str c.1]) ht3
      have K8 := K7.new (o := .tup [.str (Str.ofString "empty"), .str c.1]) (K7.back (D7.ne ht3) ht3)
      have e13 := ext_new (o := .tup [.str (Str.ofString "empty"), .str c.1]) ht3 _ _ e12
      have e23 := ext_new (o := .tup [.str (Str.ofString "empty"), .str c.1]) ht3 _ _ e2
      have e3 : (upd H8 t3 (.tup [.str (Str.ofString "empty"), .str c.1])) t3 = some (.tup [.str (Str.ofString "empty"), .str c.1]) := upd_same
      generalize upd H8 t3 (.tup [.str (Str.ofString "empty"), .str c.1]) = H9 at D8 K8 e13 e23 e3
      walk_at "g"
      refine ⟨by show 3 ≤ sizeLine; decide, fun l hl => ?_⟩
      have nl := D8.ne hl
      have D9 := D8.new (o := .lst [.ref t1, .ref t2, .ref t3]) hl
      have K9 := K8.new (o := .lst [.ref t1, .ref t2, .ref t3]) (K8.back nl hl)
      have x9 := ext_new (o := .lst [.ref t1, .ref t2, .ref t3]) hl
      have e14 := x9 _ _ e13
      have e24 := x9 _ _ e23
      have e34 := x9 _ _ e3
      have e4 : (upd H9 l (.lst [.ref t1, .ref t2, .ref t3])) l = some (.lst [.ref t1, .ref t2, .ref t3]) := upd_same
      generalize upd H9 l (.lst [.ref t1, .ref t2, .ref t3]) = H10 at D9 K9 e14 e24 e34 e4
      walk_at "g"
      refine ⟨_, _, _, rfl, D9, by omega, by decide, by decide +kernel, fun r9 H11 r90 r91 D11 K11 => ?_⟩
      have K011 := K9.trans K11
      have tn : ∀ {b : Addr} {z : List V}, H10 b = some (.tup z) → b ≠ p := fun h z => by
        obtain ⟨xs, hx⟩ := D9.at
        rw [z, hx] at h; cases h
      have e4' := K11 _ _ nl e4
      have : r9 = 0 ∨ r9 = 1 ∨ r9 = 2 := by omega
      rcases this with rfl | rfl | rfl
      · refine g_ixL (SqL.of e4') (v := .ref t1) (by rfl) ?_
        walk_at "g"
        exact k t1 .always (k2 cs) _ (K11 _ _ (tn e14) e14) True.intro K011
      · refine g_ixL (SqL.of e4') (v := .ref t2) (by rfl) ?_
        walk_at "g"
        exact k t2 .never (k2 cs) _ (K11 _ _ (tn e24) e24) True.intro K011
      · refine g_ixL (SqL.of e4') (v := .ref t3) (by rfl) ?_
        walk_at "g"
        exact k t3 (.empty c.1) (k2 cs) _ (K11 _ _ (tn e34) e34) ⟨hcn, c.2.1, k2_mem hcm⟩ K011
    · walk_at "g"
      refine ⟨p, c.2.1, _, rfl, D5, by omega, fun v H7 hv D7 K7 => ?_⟩
      have K07 := K5.trans K7
      walk_at "g"
      refine ⟨by show 4 ≤ sizeLine; decide, fun t ht => ?_⟩
      walk_at "g"
      exact k t (.compare c.1 op v) (k2 cs) _ upd_same ⟨hcn, hop, c.2.1, k2_mem hcm, hv⟩ (K07.new (K07.back (D7.ne ht) ht))
end
section
variable {σ : L2.St} {H : Hp} {D : Ends} {n : Nat} {x z : Str} {t1 tz : TS}
/-- if x == 'z': of texts that are known -/
theorem g_skipS (hv : σ[n]? = some (some (.str x))) (hne : x ≠ z) (q : tz D σ H) : tSeq (tIfS (tTest (tOp rEq (tVar n) (tC (.str z)))) t1 tNext) tz D σ H := by
  refine g_seq (g_if (g_test (g_op (g_var hv (g_c (g_eqS (g_bl ?_)))))))
  rw [decide_eq_false hne, if_neg Bool.false_ne_true]
  exact q
theorem g_takeS (hv : σ[n]? = some (some (.str z))) (q : t1 (mkE (tz D) D.rt D.bk D.ct) σ H) : tSeq (tIfS (tTest (tOp rEq (tVar n) (tC (.str z)))) t1 tNext) tz D σ H := by
  refine g_seq (g_if (g_test (g_op (g_var hv (g_c (g_eqS (g_bl ?_)))))))
  rw [decide_eq_true rfl, if_pos rfl]
  exact q
end
def spMakeA (C : Addr) : Sp := fun vs H Q _ => ∃ (q : Addr) (a : At) (κ : List (Str × Bool)), vs = [.ref q] ∧ AtomForm H q a ∧ a.Wf κ ∧ ∀ t H', (∀ q o, H q = some o → H' q = some o) → TestAt C H' a.ts t → Q (.ref t) H'
section
variable {P : Program} {w : World} {K : PySem.W.Frag} {mg : Str → Option Value} {base : Heap}
theorem ok__law_make (T : TxtW w K mg) : Def P w K mg base 10 "_law_make" ["_law_term"] (spMakeA (cadr mg "Test")) := by
  obtain ⟨f, fd, h⟩ := T.d__law_make
  refine h.def (Fun.okM h.fn sc__law_make (fun vs H Q E h => ?_) (fun cdv A outer s H vs Q E hr h => ?_))
  · obtain ⟨q, a, κ, rfl, _⟩ := h
    rfl
  · obtain ⟨q, a, κ, rfl, hF, hw, k⟩ := h
    refine ⟨_, (pss_cons (ps_set (i := 1) sc__law_make.nd rfl (Or.inl rfl) (pe_ix (ix_seqG (K := K) rfl) (pv 0) pe_int (fun _ _ => rfl)))
  (pss_cons (ps_if (pt_cmpR op_eq (pv 1) pe_str (nomark _))
  (pss_one (ps_ret (pe_def (ok_compare T) hr rfl (pa_cons (pe_ix (ix_seqG (K := K) rfl) (pv 0) pe_int (fun _ _ => rfl)) (pa_cons (pe_ix (ix_seqG (K := K) rfl) (pv 0) pe_int (fun _ _ => rfl)) (pa_cons (pe_ix (ix_seqG (K := K) rfl) (pv 0) pe_int (fun _ _ => rfl)) pa_nil))) (hk := by omega))))
  pss_nil)
  (pss_cons (ps_if (pt_cmpR op_eq (pv 1) pe_str (nomark _))
  (pss_one (ps_ret (pe_defKw (ok_against T) hr rfl (pa_cons (pe_ix (ix_seqG (K := K) rfl) (pv 0) pe_int (fun _ _ => rfl)) (pa_cons (pe_ix (ix_seqG (K := K) rfl) (pv 0) pe_int (fun _ _ => rfl)) (pa_cons (pe_ix (ix_seqG (K := K) rfl) (pv 0) pe_int (fun _ _ => rfl)) pa_nil))) (pe_ix (ix_seqG (K := K) rfl) (pv 0) pe_int (fun _ _ => rfl)) (hk := by omega))))
  pss_nil)
  (pss_cons (ps_if (pt_cmpR op_eq (pv 1) pe_str (nomark _))
  (pss_one (ps_ret (pe_def (ok_among T) hr rfl (pa_cons (pe_ix (ix_seqG (K := K) rfl) (pv 0) pe_int (fun _ _ => rfl)) (pa_cons (pe_callTy (call_listG (K := K) rfl) (by rfl) T.h_list (by decide +kernel) (pa_cons (pe_ix (ix_seqG (K := K) rfl) (pv 0) pe_int (fun _ _ => rfl)) pa_nil)) pa_nil)) (hk := by omega))))
  pss_nil)
  (pss_cons (ps_if (pt_cmpR op_eq (pv 1) pe_str (nomark _))
  (pss_one (ps_ret (pe_def (ok_begins T) hr rfl (pa_cons (pe_ix (ix_seqG (K := K) rfl) (pv 0) pe_int (fun _ _ => rfl)) (pa_cons (pe_ix (ix_seqG (K := K) rfl) (pv 0) pe_int (fun _ _ => rfl)) pa_nil)) (hk := by omega))))
  pss_nil)
  (pss_cons (ps_if (pt_cmpR op_eq (pv 1) pe_str (nomark _))
  (pss_one (ps_ret (pe_def (ok_empty T) hr rfl (pa_cons (pe_ix (ix_seqG (K := K) rfl) (pv 0) pe_int (fun _ _ => rfl)) pa_nil) (hk := by omega))))
  pss_nil)
  (pss_cons (ps_if (pt_cmpR op_eq (pv 1) pe_str (nomark _))
  (pss_one (ps_ret (pe_def0 (ok_always T) hr rfl (hk := by omega))))
  pss_nil)
  (pss_cons (ps_if (pt_cmpR op_eq (pv 1) pe_str (nomark _))
  (pss_one (ps_ret (pe_def0 (ok_never T) hr rfl (hk := by omega))))
  pss_nil)
  (pss_cons (ps_if (pt_cmpR op_eq (pv 1) pe_str (nomark _))
  (pss_one ps_never)
  pss_nil)
  (pss_cons (ps_if (pt_cmpR op_eq (pv 1) pe_str (nomark _))
  (pss_one ps_never)
  pss_nil)
  (pss_cons (ps_if (pt_cmpR op_eq (pv 1) pe_str (nomark _))
  (pss_one ps_never)
  pss_nil)
  (pss_one ps_never)))))))))))), ?_⟩
    cases a with
    | always =>
      have hA : H q = some (.tup [.str "always"]) := hF
      walk_at "g"
      refine g_ixT (SqT.of hA) (v := .str "always") (by rfl) ?_
      refine g_nx ?_
      refine g_skipS rfl (show ("always" : Str) ≠ "compare" by decide +kernel) ?_
      refine g_skipS rfl (show ("always" : Str) ≠ "against" by decide +kernel) ?_
      refine g_skipS rfl (show ("always" : Str) ≠ "among" by decide +kernel) ?_
      refine g_skipS rfl (show ("always" : Str) ≠ "begins" by decide +kernel) ?_
      refine g_skipS rfl (show ("always" : Str) ≠ "empty" by decide +kernel) ?_
      refine g_takeS rfl ?_
      walk_at "g"
      refine ⟨rfl, fun t H9 k9 A9 => ?_⟩
      walk_at "g"
      exact k t H9 k9 A9
    | never =>
      have hA : H q = some (.tup [.str "never"]) := hF
      walk_at "g"
      refine g_ixT (SqT.of hA) (v := .str "never") (by rfl) ?_
      refine g_nx ?_
      refine g_skipS rfl (show ("never" : Str) ≠ "compare" by decide +kernel) ?_
      refine g_skipS rfl (show ("never" : Str) ≠ "against" by decide +kernel) ?_
      refine g_skipS rfl (show ("never" : Str) ≠ "among" by decide +kernel) ?_
      refine g_skipS rfl (show ("never" : Str) ≠ "begins" by decide +kernel) ?_
      refine g_skipS rfl (show ("never" : Str) ≠ "empty" by decide +kernel) ?_
      refine g_skipS rfl (show ("never" : Str) ≠ "always" by decide +kernel) ?_
      refine g_takeS rfl ?_
      walk_at "g"
      refine ⟨rfl, fun t H9 k9 A9 => ?_⟩
      walk_at "g"
      exact k t H9 k9 A9
    | empty c =>
      have hA : H q = some (.tup [.str "empty", .str c]) := hF
      obtain ⟨hc, _⟩ := hw
      walk_at "g"
      refine g_ixT (SqT.of hA) (v := .str "empty") (by rfl) ?_
      refine g_nx ?_
      refine g_skipS rfl (show ("empty" : Str) ≠ "compare" by decide +kernel) ?_
      refine g_skipS rfl (show ("empty" : Str) ≠ "against" by decide +kernel) ?_
      refine g_skipS rfl (show ("empty" : Str) ≠ "among" by decide +kernel) ?_
      refine g_skipS rfl (show ("empty" : Str) ≠ "begins" by decide +kernel) ?_
      refine g_takeS rfl ?_
      walk_at "g"
      refine g_ixT (SqT.of hA) (v := .str c) (by rfl) ?_
      walk_at "g"
      refine ⟨c, rfl, hc, fun t H9 k9 A9 => ?_⟩
      walk_at "g"
      exact k t H9 k9 A9
    | among c xs =>
      obtain ⟨l, kd0, hA, hl, _, _⟩ := hF
      obtain ⟨hc, hne, h8, kd, _, hvv⟩ := hw
      walk_at "g"
      refine g_ixT (SqT.of hA) (v := .str "among") (by rfl) ?_
      refine g_nx ?_
      refine g_skipS rfl (show ("among" : Str) ≠ "compare" by decide +kernel) ?_
      refine g_skipS rfl (show ("among" : Str) ≠ "against" by decide +kernel) ?_
      refine g_takeS rfl ?_
      walk_at "g"
      refine g_ixT (SqT.of hA) (v := .str c) (by rfl) ?_
      walk_at "g"
      refine g_ixT (SqT.of hA) (v := .ref l) (by rfl) ?_
      walk_at "g"
      refine ⟨l, xs, rfl, .inl (SqL.of hl), fun l2 hl2 => ?_⟩
      walk_at "g"
      refine ⟨c, l2, xs, kd, rfl, hc, upd_same, hne, h8, hvv, fun t H9 k9 A9 => ?_⟩
      walk_at "g"
      exact k t H9 (fun q o h => k9 _ _ (ext_new hl2 _ _ h)) A9
    | begins c z =>
      have hA : H q = some (.tup [.str "begins", .str c, .str z]) := hF
      obtain ⟨hc, _, hz⟩ := hw
      walk_at "g"
      refine g_ixT (SqT.of hA) (v := .str "begins") (by rfl) ?_
      refine g_nx ?_
      refine g_skipS rfl (show ("begins" : Str) ≠ "compare" by decide +kernel) ?_
      refine g_skipS rfl (show ("begins" : Str) ≠ "against" by decide +kernel) ?_
      refine g_skipS rfl (show ("begins" : Str) ≠ "among" by decide +kernel) ?_
      refine g_takeS rfl ?_
      walk_at "g"
      refine g_ixT (SqT.of hA) (v := .str c) (by rfl) ?_
      walk_at "g"
      refine g_ixT (SqT.of hA) (v := .str z) (by rfl) ?_
      walk_at "g"
      refine ⟨c, z, rfl, hc, hz, fun t H9 k9 A9 => ?_⟩
      walk_at "g"
      exact k t H9 k9 A9
    | compare c op v =>
      have hA : H q = some (.tup [.str "compare", .str c, .str op, v]) := hF
      obtain ⟨hc, ho, kd, _, hvv⟩ := hw
      walk_at "g"
      refine g_ixT (SqT.of hA) (v := .str "compare") (by rfl) ?_
      refine g_nx ?_
      refine g_takeS rfl ?_
      walk_at "g"
      refine g_ixT (SqT.of hA) (v := .str c) (by rfl) ?_
      walk_at "g"
      refine g_ixT (SqT.of hA) (v := .str op) (by rfl) ?_
      walk_at "g"
      refine g_ixT (SqT.of hA) (v := v) (by rfl) ?_
      walk_at "g"
      refine ⟨c, op, v, kd, rfl, hc, ho, hvv, fun t H9 k9 A9 => ?_⟩
      walk_at "g"
      exact k t H9 k9 A9
    | against c op d n =>
      have hA : H q = some (.tup [.str "against", .str c, .str op, .str d, .int n]) := hF
      obtain ⟨hc, hdn, hdc, ho, _⟩ := hw
      walk_at "g"
      refine g_ixT (SqT.of hA) (v := .str "against") (by rfl) ?_
      refine g_nx ?_
      refine g_skipS rfl (show ("against" : Str) ≠ "compare" by decide +kernel) ?_
      refine g_takeS rfl ?_
      walk_at "g"
      refine g_defKw ?_
      walk_at "g"
      refine g_ixT (SqT.of hA) (v := .str c) (by rfl) ?_
      walk_at "g"
      refine g_ixT (SqT.of hA) (v := .str op) (by rfl) ?_
      walk_at "g"
      refine g_ixT (SqT.of hA) (v := .str d) (by rfl) ?_
      walk_at "g"
      refine g_ixT (SqT.of hA) (v := .int n) (by rfl) ?_
      walk_at "g"
      refine ⟨rfl, rfl, c, op, d, n, rfl, hc, ho, hdn, hdc, fun t H9 k9 A9 => ?_⟩
      walk_at "g"
      exact k t H9 k9 A9
end
inductive LS where
  | keep (a : At)
  | sort (o : List (Str × Bool))
  | dist (ns : List Str)
  | first
  | flip
/-- a step as it is drawn -/
def StFm (H : Hp) (q : Addr) : LS → Prop
  | .keep a => ∃ t, H q = some (.tup [.str "keep", .ref t]) ∧ AtomForm H t a
  | .sort o => ∃ l, H q = some (.tup [.str "sort", .ref l]) ∧ LAt H l (o.map pt)
  | .dist ns => ∃ l, H q = some (.tup [.str "distinct", .ref l]) ∧ H l = some (.lst (ns.map V.str))
  | .first => H q = some (.tup [.str "first"])
  | .flip => H q = some (.tup [.str "flip"])
def LOk : LS → Prop
  | .keep a => ∃ κ, a.Wf κ
  | .sort o => OOk o
  | .dist ns => (∀ n ∈ ns, nameP n) ∧ ns.Nodup ∧ ns.length ≤ 3
  | _ => True
theorem StFm.keepX {H H' : Hp} {q : Addr} {s : LS} (h : StFm H q s) (k : XT H H') : StFm H' q s := by
  cases s with
  | keep a => obtain ⟨t, x, y⟩ := h; exact ⟨t, k _ _ x, AtomForm.keep y k⟩
  | sort o => obtain ⟨t, x, y⟩ := h; exact ⟨t, k _ _ x, y.keep k⟩
  | dist ns => obtain ⟨t, x, y⟩ := h; exact ⟨t, k _ _ x, k _ _ y⟩
  | first => exact k _ _ h
  | flip => exact k _ _ h
theorem AtomForm.tup {H : Hp} {q : Addr} {a : At} (h : AtomForm H q a) : ∃ r, H q = some (.tup r) := by
  cases a with
  | among c vs => obtain ⟨l, k, e, _⟩ := h; exact ⟨_, e⟩
  | always => exact ⟨_, h⟩
  | never => exact ⟨_, h⟩
  | empty c => exact ⟨_, h⟩
  | begins c z => exact ⟨_, h⟩
  | compare c op v => exact ⟨_, h⟩
  | against c op d n => exact ⟨_, h⟩
theorem second {t l l' : Addr} {w w' : V} {H : Hp} (h : (upd H t (.tup [w, .ref l])) t = some (.tup [w', .ref l'])) : l = l' := by
  rw [upd_same] at h
  injection h with e
  injection e with e
  injection e with _ e
  injection e with e _
  injection e
theorem single {t l' : Addr} {w w' : V} {H : Hp} (h : (upd H t (.tup [w])) t = some (.tup [w', .ref l'])) : False := by
  rw [upd_same] at h
  injection h with e
  injection e with e
  injection e with _ e
  cases e
def spStepP : Sp := fun vs H Q _ => ∃ (p L : Addr) (cs : List Col) (n : Nat), vs = [.ref p, .ref L] ∧ PD H p n ∧ n ≤ 600000 ∧ LAt H L (cs.map ct) ∧ ColsOk cs ∧ L ≠ p ∧ ∀ q s H', StFm H' q s → LOk s → (∀ l xs, (∃ w, H' q = some (.tup [w, .ref l])) → H' l = some (.lst xs) → H l = none) → Keep p H H' → Q (.ref q) H'
section
variable {P : Program} {w : World} {K : PySem.W.Frag} {mg : Str → Option Value} {base : Heap}
theorem ok__law_step (T : TxtW w K mg) : Def P w K mg base 4 "_law_step" ["_law_pool_here", "_law_columns_here"] spStepP := by
  obtain ⟨f, fd, h⟩ := T.d__law_step
  refine h.def (Fun.okM h.fn sc__law_step (fun vs H Q E h => ?_) (fun cdv A outer s H vs Q E hr h => ?_))
  · obtain ⟨p, L, cs, n, rfl, _⟩ := h
    rfl
  · obtain ⟨p, L, cs, n, rfl, hD, hn, hC, hcs, hLp, k⟩ := h
    refine ⟨_, (pss_cons (ps_set (i := 2) sc__law_step.nd rfl (Or.inl rfl) (pe_ix (ix_seqG (K := K) rfl) (pe_lst (pa_cons pe_str (pa_cons pe_str (pa_cons pe_str (pa_cons pe_str (pa_cons pe_str (pa_cons pe_str (pa_cons pe_str pa_nil)))))))) (pe_def (ok__law_draw T) hr rfl (pa_cons (pv 0) (pa_cons pe_int pa_nil))) (fun _ _ => rfl)))
  (pss_cons (ps_if (pt_cmpR op_eq (pv 2) pe_str (nomark _))
  (pss_one (ps_ret (pe_tup (pa_cons (pv 2) (pa_cons (pe_def (ok__law_atom T) hr rfl (pa_cons (pv 0) (pa_cons (pv 1) pa_nil))) pa_nil)))))
  pss_nil)
  (pss_cons (ps_if (pt_cmpR op_eq (pv 2) pe_str (nomark _))
  (pss_one (ps_ret (pe_tup (pa_cons (pv 2) (pa_cons (pe_def (ok__law_order T) hr rfl (pa_cons (pv 0) (pa_cons (pv 1) pa_nil))) pa_nil)))))
  pss_nil)
  (pss_cons (ps_if (pt_cmpR op_eq (pv 2) pe_str (nomark _))
  (pss_cons (ps_set (i := 3) sc__law_step.nd rfl (Or.inl rfl) (pe_lst pa_nil))
  (pss_cons (ps_for PassesOwn.never rfl (pi_range1 rfl T.h_range (pa_cons (pe_ix (ix_seqG (K := K) rfl) (pe_lst (pa_cons pe_int (pa_cons pe_int (pa_cons pe_int (pa_cons pe_int pa_nil))))) (pe_def (ok__law_draw T) hr rfl (pa_cons (pv 0) (pa_cons pe_int pa_nil))) (fun _ _ => rfl)) pa_nil)) (pg_name (i := 4) sc__law_step.nd rfl (Or.inl rfl))
  (pss_cons (ps_set (i := 5) sc__law_step.nd rfl (Or.inl rfl) (pe_ix (ix_seqG (K := K) rfl) (pe_ix (ix_seqG (K := K) rfl) (pv 1) (pe_def (ok__law_draw T) hr rfl (pa_cons (pv 0) (pa_cons (pe_callB (call_lenG (K := K) rfl) (by rfl) T.h_len (by decide +kernel) (pa_cons (pv 1) pa_nil)) pa_nil))) (fun _ _ => rfl)) pe_int (fun _ _ => rfl)))
  (pss_one (ps_if (pt_cmpR (op_notInG (K := K) rfl) (pv 5) (pv 3) (by rfl))
  (pss_one (ps_expr (pe_bm PySem.F.plainAttrs_list PySem.F.slot_list_append PySem.F.type_list_append mt_append (pv 3) (pa_cons (pv 5) pa_nil))))
  pss_nil))))
  (pss_one (ps_ret (pe_tup (pa_cons (pv 2) (pa_cons (pv 3) pa_nil)))))))
  pss_nil)
  (pss_one (ps_ret (pe_tup (pa_cons (pv 2) pa_nil)))))))), ?_⟩
    walk_at "g"
    refine ⟨by show 7 ≤ sizeLine; decide, fun l hl => ?_⟩
    have nl := hD.ne hl
    have D1 := hD.new (o := .lst [.str (Str.ofString "keep"), .str (Str.ofString "sort"), .str (Str.ofString "distinct"), .str (Str.ofString "first"), .str (Str.ofString "flip"), .str (Str.ofString "sort"), .str (Str.ofString "distinct")]) hl
    have x1 : XT H (upd H l (.lst [.str (Str.ofString "keep"), .str (Str.ofString "sort"), .str (Str.ofString "distinct"), .str (Str.ofString "first"), .str (Str.ofString "flip"), .str (Str.ofString "sort"), .str (Str.ofString "distinct")])) := ext_new hl
    have e1 : (upd H l (.lst [.str (Str.ofString "keep"), .str (Str.ofString "sort"), .str (Str.ofString "distinct"), .str (Str.ofString "first"), .str (Str.ofString "flip"), .str (Str.ofString "sort"), .str (Str.ofString "distinct")])) l = some (.lst [.str (Str.ofString "keep"), .str (Str.ofString "sort"), .str (Str.ofString "distinct"), .str (Str.ofString "first"), .str (Str.ofString "flip"), .str (Str.ofString "sort"), .str (Str.ofString "distinct")]) := upd_same
    generalize upd H l (.lst [.str (Str.ofString "keep"), .str (Str.ofString "sort"), .str (Str.ofString "distinct"), .str (Str.ofString "first"), .str (Str.ofString "flip"), .str (Str.ofString "sort"), .str (Str.ofString "distinct")]) = H1 at D1 x1 e1
    walk_at "g"
    refine ⟨_, _, _, rfl, D1, by omega, by decide, by decide +kernel, fun r H2 r0 r1 D2 K2 => ?_⟩
    have K02 : Keep p H H2 := fun q o nq h => K2 q o nq (x1 q o h)
    have hC2 := (hC.keep x1).keepP hLp D1.at K2
    have e2 := K2 _ _ nl e1
    have D2 : PD H2 p (n + 1) := D2
    obtain ⟨z, hz, hzc⟩ : ∃ z : Str, atI [V.str (Str.ofString "keep"), V.str (Str.ofString "sort"), V.str (Str.ofString "distinct"), V.str (Str.ofString "first"), V.str (Str.ofString "flip"), V.str (Str.ofString "sort"), V.str (Str.ofString "distinct")] r = some (.str z) ∧ (z = "keep" ∨ z = "sort" ∨ z = "distinct" ∨ z = "first" ∨ z = "flip") := by
      have : r = 0 ∨ r = 1 ∨ r = 2 ∨ r = 3 ∨ r = 4 ∨ r = 5 ∨ r = 6 := by omega
      rcases this with rfl | rfl | rfl | rfl | rfl | rfl | rfl
      · exact ⟨_, rfl, .inl rfl⟩
      · exact ⟨_, rfl, .inr (.inl rfl)⟩
      · exact ⟨_, rfl, .inr (.inr (.inl rfl))⟩
      · exact ⟨_, rfl, .inr (.inr (.inr (.inl rfl)))⟩
      · exact ⟨_, rfl, .inr (.inr (.inr (.inr rfl)))⟩
      · exact ⟨_, rfl, .inr (.inl rfl)⟩
      · exact ⟨_, rfl, .inr (.inr (.inl rfl))⟩
    refine g_ixL (SqL.of e2) hz ?_
    clear hz e2 e1 x1 K2 D1 hl
    walk_at "g"
    rcases hzc with rfl | rfl | rfl | rfl | rfl
    · refine g_dec (fun _ => ?_) (fun h => absurd rfl h)
      walk_at "g"
      refine ⟨p, L, cs, _, rfl, D2, by omega, hC2, hcs, hLp, fun q a κ H3 hA hw K3 => ?_⟩
      walk_at "g"
      refine ⟨by show 2 ≤ sizeLine; decide, fun t ht => ?_⟩
      walk_at "g"
      exact k t (.keep a) _ ⟨q, upd_same, AtomForm.keep hA (ext_new ht)⟩ ⟨κ, hw⟩ (fun l' xs ⟨w', e⟩ el => by
        obtain rfl := second e
        obtain ⟨r', hr'⟩ := (AtomForm.keep hA (ext_new (o := .tup [.str (Str.ofString "keep"), .ref q]) ht)).tup
        rw [hr'] at el
        cases el) fun b o nb h => ext_new ht _ _ (K3 b o nb (K02 b o nb h))
    · refine g_dec (fun h => absurd h (show ("sort" : Str) ≠ "keep" by decide +kernel)) (fun _ => ?_)
      walk_at "g"
      refine g_dec (fun _ => ?_) (fun h => absurd rfl h)
      walk_at "g"
      refine ⟨p, L, cs, _, rfl, D2, by omega, hC2, hcs, hLp, fun O ps H3 hok hO hO0 _ K3 _ => ?_⟩
      walk_at "g"
      refine ⟨by show 2 ≤ sizeLine; decide, fun t ht => ?_⟩
      walk_at "g"
      exact k t (.sort ps) _ ⟨O, upd_same, hO.keep (ext_new ht)⟩ hok (fun l' xs ⟨w', e⟩ el => by
        obtain rfl := second e
        exact K02.back (D2.ne hO0) hO0) fun b o nb h => ext_new ht _ _ (K3 b o nb (K02 b o nb h))
    · refine g_dec (fun h => absurd h (show ("distinct" : Str) ≠ "keep" by decide +kernel)) (fun _ => ?_)
      walk_at "g"
      refine g_dec (fun h => absurd h (show ("distinct" : Str) ≠ "sort" by decide +kernel)) (fun _ => ?_)
      walk_at "g"
      refine g_dec (fun _ => ?_) (fun h => absurd rfl h)
      walk_at "g"
      refine ⟨Nat.zero_le _, fun N hN => ?_⟩
      have nN := D2.ne hN
      have hNH := K02.back nN hN
      have D3 := D2.new (o := .lst []) hN
      have K3 := K02.new (o := .lst []) hNH
      have hC3 := hC2.keep (H' := upd H2 N (.lst [])) (ext_new hN)
      have e3 : (upd H2 N (.lst [])) N = some (.lst (([] : List Str).map V.str)) := upd_same
      have hLN : L ≠ N := by obtain ⟨qs, h1, _⟩ := hC2; exact ne_of_none h1 hN
      generalize upd H2 N (.lst []) = H3 at D3 K3 hC3 e3
      walk_at "g"
      refine ⟨by show 4 ≤ sizeLine; decide, fun l2 hl2 => ?_⟩
      have nl2 := D3.ne hl2
      have D4 := D3.new (o := .lst [.int 1, .int 2, .int 0, .int 1]) hl2
      have K4 := K3.new (o := .lst [.int 1, .int 2, .int 0, .int 1]) (K3.back nl2 hl2)
      have hC4 := hC3.keep (H' := upd H3 l2 (.lst [.int 1, .int 2, .int 0, .int 1])) (ext_new hl2)
      have e34 := ext_new (o := .lst [.int 1, .int 2, .int 0, .int 1]) hl2 _ _ e3
      have e4 : (upd H3 l2 (.lst [.int 1, .int 2, .int 0, .int 1])) l2 = some (.lst [.int 1, .int 2, .int 0, .int 1]) := upd_same
      generalize upd H3 l2 (.lst [.int 1, .int 2, .int 0, .int 1]) = H4 at D4 K4 hC4 e34 e4
      walk_at "g"
      refine ⟨_, _, _, rfl, D4, by omega, by decide, by decide +kernel, fun r5 H5 r50 r51 D5 K5 => ?_⟩
      obtain ⟨m, hm, hm0, hm2⟩ : ∃ m : Int, atI [V.int 1, V.int 2, V.int 0, V.int 1] r5 = some (.int m) ∧ 0 ≤ m ∧ m ≤ 2 := by
        have : r5 = 0 ∨ r5 = 1 ∨ r5 = 2 ∨ r5 = 3 := by omega
        rcases this with rfl | rfl | rfl | rfl
        · exact ⟨_, rfl, by decide, by decide⟩
        · exact ⟨_, rfl, by decide, by decide⟩
        · exact ⟨_, rfl, by decide, by decide⟩
        · exact ⟨_, rfl, by decide, by decide⟩
      refine g_ixL (SqL.of (K5 _ _ nl2 e4)) hm ?_
      walk_at "g"
      refine ⟨_, rfl, by omega, by omega, ?_⟩
      refine for_rangeA (fun i σ' H' => ∃ (s4 s5 : Option V) (ns : List Str), σ' = [some (.ref p), some (.ref L), some (.str "distinct"), some (.ref N), s4, s5] ∧ PD H' p (n + 10 + 3 * i) ∧ Keep p H H' ∧ H' N = some (.lst (ns.map V.str)) ∧ LAt H' L (cs.map ct) ∧ ns.length ≤ i ∧ (∀ c ∈ ns, nameP c) ∧ ns.Nodup) ⟨_, _, [], rfl, D5.mono (by omega), K4.trans K5, K5 _ _ nN e34, hC4.keepP hLp D4.at K5, Nat.le_refl _, (fun c h => nomatch h), List.nodup_nil⟩ ?_ ?_
      · rintro i σ' H6 D' hi ⟨s4, s5, ns, rfl, D6, K6, e6, hC6, hnl, hnm, hnd⟩ hnx hct hbk hrt
        have hi2 : i < 2 := by omega
        obtain ⟨qs, hq6, hlen, hcol⟩ := id hC6
        rw [List.length_map] at hlen
        have hpos := hcs.ne
        have hcl := hcs.le
        walk_at "g"
        refine ⟨_, _, _, rfl, D6, by omega, by rw [List.length_map]; omega, log_len (by rw [List.length_map]; omega), fun r7 H7 r70 r71 D7 K7 => ?_⟩
        rw [List.length_map] at r71
        obtain ⟨j, rfl⟩ := Int.eq_ofNat_of_zero_le r70
        have hj : j < cs.length := by omega
        have hq7 := K7 _ _ hLp hq6
        have hC7 := hC6.keepP hLp D6.at K7
        have e7 := K7 _ _ nN e6
        refine g_ixL (SqL.of hq7) (v := .ref qs[j]) (atI_nat (j := j) (by rw [List.getElem?_map, List.getElem?_eq_getElem (by omega)]; rfl)) ?_
        walk_at "g"
        have et : H7 qs[j] = some (.tup (ct cs[j])) := (hC7.get hq7).2 j _ _ (List.getElem?_eq_getElem (by omega)) (by rw [List.getElem?_map, List.getElem?_eq_getElem hj]; rfl)
        refine g_ixT (SqT.of et) (v := .str cs[j].1) (show atI (ct cs[j]) 0 = some (.str cs[j].1) from rfl) ?_
        walk_at "g"
        refine .inr ⟨_, ns.map V.str, rfl, .inl (SqL.of e7), rfl, Tw.flat_strs _, ?_⟩
        rw [if_pos rfl, inV_strs]
        walk_at "g"
        refine g_ndec (fun hnew => ?_) (fun hnew => ?_)
        · walk_at "g"
          refine hnx _ _ ⟨_, _, ns ++ [cs[j].1], rfl, (D7.other nN).mono (by omega), (K6.trans K7).new hNH, by rw [upd_same, List.map_append]; rfl, hC7.keepP hLN ⟨_, e7⟩ fun b o nb h => by rw [upd_ne nb]; exact h, by rw [List.length_append]; show ns.length + 1 ≤ i + 1; omega, fun c hc => ?_, ?_⟩
          · rcases List.mem_append.mp hc with hc | hc
            · exact hnm c hc
            · rw [List.mem_singleton.mp hc]; exact hcs.nm _ (List.getElem_mem hj)
          · exact List.nodup_append.mpr ⟨hnd, List.nodup_cons.mpr ⟨fun h => (nomatch h), List.nodup_nil⟩, fun u hu v hv e => hnew (by
              rw [List.mem_singleton.mp hv] at e
              rw [← e]; exact hu)⟩
        · walk_at "g"
          exact hnx _ _ ⟨_, _, ns, rfl, D7.mono (by omega), K6.trans K7, e7, hC7, by omega, hnm, hnd⟩
      · rintro σ' H6 ⟨s4, s5, ns, rfl, D6, K6, e6, hC6, hnl, hnm, hnd⟩
        walk_at "g"
        refine ⟨by show 2 ≤ sizeLine; decide, fun t ht => ?_⟩
        walk_at "g"
        exact k t (.dist ns) _ ⟨N, upd_same, ext_new ht _ _ e6⟩ ⟨hnm, hnd, by omega⟩ (fun l' xs ⟨w', e⟩ el => by
          obtain rfl := second e
          exact hNH) fun b o nb h => ext_new ht _ _ (K6 b o nb h)
    · refine g_dec (fun h => absurd h (show ("first" : Str) ≠ "keep" by decide +kernel)) (fun _ => ?_)
      walk_at "g"
      refine g_dec (fun h => absurd h (show ("first" : Str) ≠ "sort" by decide +kernel)) (fun _ => ?_)
      walk_at "g"
      refine g_dec (fun h => absurd h (show ("first" : Str) ≠ "distinct" by decide +kernel)) (fun _ => ?_)
      walk_at "g"
      refine ⟨by show 1 ≤ sizeLine; decide, fun t ht => ?_⟩
      walk_at "g"
      exact k t .first _ upd_same True.intro (fun l' xs ⟨w', e⟩ el => (single e).elim) fun b o nb h => ext_new ht _ _ (K02 b o nb h)
    · refine g_dec (fun h => absurd h (show ("flip" : Str) ≠ "keep" by decide +kernel)) (fun _ => ?_)
      walk_at "g"
      refine g_dec (fun h => absurd h (show ("flip" : Str) ≠ "sort" by decide +kernel)) (fun _ => ?_)
      walk_at "g"
      refine g_dec (fun h => absurd h (show ("flip" : Str) ≠ "distinct" by decide +kernel)) (fun _ => ?_)
      walk_at "g"
      refine ⟨by show 1 ≤ sizeLine; decide, fun t ht => ?_⟩
      walk_at "g"
      exact k t .flip _ upd_same True.intro (fun l' xs ⟨w', e⟩ el => (single e).elim) fun b o nb h => ext_new ht _ _ (K02 b o nb h)
end
theorem g_lenA {K : PySem.W.Frag} {H : Hp} {p : Addr} {xs : List V} {Q : VK} (h : H p = some (.lst xs) ∨ H p = some (.tup xs)) (q : Q (.int (xs.length : Int)) H) : rLenG K [.ref p] H Q := by
  rcases h with h | h
  · exact g_lenL (SqL.of h) q
  · exact g_lenT (SqT.of h) q
theorem seq_ty {K : PySem.W.Frag} {H : Hp} {p : Addr} {xs : List V} (h : H p = some (.lst xs) ∨ H p = some (.tup xs)) : ∃ Tn, Tn ∈ kinds7 ∧ (∀ H', XT H H' → TyX K H' (.ref p) (.type Tn)) ∧ decide (Tn = "list" ∨ Tn = "tuple") = true := by
  rcases h with hp | hp
  · exact ⟨"list", by decide, fun H' x => .base (.lst (x _ _ hp)), by decide⟩
  · exact ⟨"tuple", by decide, fun H' x => .base (.tup (x _ _ hp)), by decide⟩
theorem seq_same {H H' : Hp} {p : Addr} {xs : List V} (h : H p = some (.lst xs) ∨ H p = some (.tup xs)) (k : XT H H') : H' p = H p := by
  rcases h with h | h <;> rw [h, k _ _ h]
theorem scan12 {n : Nat} (h : n ≤ 12) : n + 1 < scanBound := Nat.lt_of_le_of_lt (Nat.succ_le_succ h) (by decide)
theorem dup_less : ∀ {ns : List Str}, ¬ ns.Nodup → ∃ ms : List Str, ms.length + 1 = ns.length ∧ ∀ k ∈ ns, k ∈ ms
  | [], h => absurd List.nodup_nil h
  | x :: r, h => by
    by_cases hx : x ∈ r
    · exact ⟨r, rfl, fun k hk => (List.mem_cons.mp hk).elim (fun e => e ▸ hx) id⟩
    · obtain ⟨ms, h1, h2⟩ := dup_less fun hr => h (List.nodup_cons.mpr ⟨hx, hr⟩)
      exact ⟨x :: ms, by rw [List.length_cons, List.length_cons, h1], fun k hk => (List.mem_cons.mp hk).elim (fun e => e ▸ List.mem_cons_self) fun e => List.mem_cons_of_mem _ (h2 k e)⟩
theorem len_nodup {ns zs : List Str} (z1 : zs.Nodup) (z2 : ∀ k, k ∈ zs ↔ k ∈ ns) : zs.length = ns.length ↔ ns.Nodup := by
  constructor
  · intro e
    refine Classical.byContradiction fun hn => ?_
    obtain ⟨ms, h1, h2⟩ := dup_less hn
    have := nodup_le z1 fun k hk => h2 k ((z2 k).mp hk)
    omega
  · exact nodup_len z1 z2
/-- whether a thing begins with a word -/
def Wd (H : Hp) (v : V) (b : Bool) : Prop := (∃ T : String, T ∈ kinds7 ∧ TyOf7 H v T ∧ T ≠ "list" ∧ T ≠ "tuple" ∧ b = false) ∨ ∃ (p : Addr) (xs : List V), v = .ref p ∧ (H p = some (.lst xs) ∨ H p = some (.tup xs)) ∧
  ((xs = [] ∧ b = false) ∨ (∃ z r, xs = .str z :: r ∧ b = true) ∨ ∃ l r ys, xs = .ref l :: r ∧ H l = some (.lst ys) ∧ b = false)
def spWorded : Sp := fun vs H Q _ => ∃ v b, vs = [v] ∧ Wd H v b ∧ ∀ H', XT H H' → Q (.bl b) H'
def spAreNames : Sp := fun vs H Q _ => ∃ (v : V) (a b : Int) (r : Bool), vs = [v, .int a, .int b] ∧ ((∃ T : String, T ∈ kinds7 ∧ TyOf7 H v T ∧ T ≠ "list" ∧ T ≠ "tuple" ∧ r = false) ∨
  ∃ (l : Addr) (ns : List Str), v = .ref l ∧ (H l = some (.lst (ns.map V.str)) ∨ H l = some (.tup (ns.map V.str))) ∧ ns.length ≤ 12 ∧ (∀ z ∈ ns, z.length ≤ 100) ∧ (r = true ↔ (a ≤ ns.length ∧ (ns.length : Int) ≤ b ∧ (∀ n ∈ ns, nameP n) ∧ ns.Nodup))) ∧ ∀ H', XT H H' → Q (.bl r) H'
section
variable {P : Program} {w : World} {K : PySem.W.Frag} {mg : Str → Option Value} {base : Heap}
theorem ok_is_worded (T : TxtW w K mg) : Def P w K mg base 2 "is_worded" ["thing"] spWorded := by
  obtain ⟨f, fd, h⟩ := T.d_is_worded
  refine h.def (Fun.okM h.fn sc_is_worded (fun vs H Q E h => ?_) (fun cdv A outer s H vs Q E hr h => ?_))
  · obtain ⟨v, b, rfl, _⟩ := h
    rfl
  · obtain ⟨v, b, rfl, hw, k⟩ := h
    refine ⟨_, (pss_one (ps_ret (pe_and (pe_def (ok_is_sequence T) hr rfl (pa_cons (pv 0) pa_nil)) (pe_and (pe_cmpR op_gtG (pe_callB (call_lenG (K := K) rfl) (by rfl) T.h_len (by decide +kernel) (pa_cons (pv 0) pa_nil)) pe_int (nomark _)) (pe_one (pe_callB (call_isiG (K := K) rfl) (by rfl) T.h_isinstance (by decide +kernel) (pa_cons (pe_ix (ix_seqG (K := K) rfl) (pv 0) pe_int (fun _ _ => rfl)) (pa_cons (pe_bltn (v := .ty "str") (by rfl) T.h_str (by decide +kernel) rfl) pa_nil)))))))), ?_⟩
    rcases hw with ⟨T, hT, ty, n, m, rfl⟩ | ⟨p, xs, rfl, hp, hx⟩
    · walk_at "g"
      refine ⟨v, T, rfl, hT, fun H' x => (ty.keep x).x K, fun H' x => ?_⟩
      rw [decide_eq_false (fun h => h.elim n m)]
      walk_at "g"
      exact k _ x
    · obtain ⟨Tn, h1, h2, h3⟩ := seq_ty (K := K) hp
      walk_at "g"
      refine ⟨.ref p, Tn, rfl, h1, h2, fun H1 x1 => ?_⟩
      rw [h3]
      walk_at "g"
      refine g_lenA (seq_keep hp x1) ?_
      walk_at "g"
      rcases hx with ⟨rfl, rfl⟩ | ⟨z, r, rfl, rfl⟩ | ⟨l, r, ys, rfl, hl, rfl⟩
      · rw [decide_eq_false (show ¬ (0 : Int) < (([] : List V).length : Int) by decide)]
        walk_at "g"
        exact k _ x1
      · rw [decide_eq_true (show (0 : Int) < (((.str z : V) :: r).length : Int) by rw [List.length_cons]; omega)]
        walk_at "g"
        refine g_ixA (seq_keep hp x1) (v := .str z) (atI_nat (j := 0) rfl) ?_
        walk_at "g"
        exact k _ x1
      · rw [decide_eq_true (show (0 : Int) < (((.ref l : V) :: r).length : Int) by rw [List.length_cons]; omega)]
        walk_at "g"
        refine g_ixA (seq_keep hp x1) (v := .ref l) (atI_nat (j := 0) rfl) ?_
        walk_at "g"
        refine g_isi (.base (.lst (x1 _ _ hl))) (show kitB "list" "str" = some false by decide +kernel) ?_
        exact k _ x1
theorem ok_are_names (T : TxtW w K mg) : Def P w K mg base 3 "are_names" ["thing", "least", "most"] spAreNames := by
  obtain ⟨f, fd, h⟩ := T.d_are_names
  refine h.def (Fun.okM h.fn sc_are_names (fun vs H Q E h => ?_) (fun cdv A outer s H vs Q E hr h => ?_))
  · obtain ⟨v, a, b, r, rfl, _⟩ := h
    rfl
  · obtain ⟨v, a, b, r, rfl, hv, k⟩ := h
    refine ⟨_, (pss_cons (ps_if (PW.pt (pw_or (pt_not (pt_val (pe_def (ok_is_short T) hr rfl (pa_cons (pv 0) (pa_cons (pv 1) (pa_cons (pv 2) pa_nil)))))) (pw_or1 (pt_not (pt_val (pe_callB (cr_all rfl) (by rfl) T.h_all (by decide +kernel) (pa_cons (pe_lc (own := [("name", 3)]) rfl sc_are_names.nd (pi_seqG (K := K) rfl (pv 0)) (blkOk_by (N := N_are_names) (sc := defScope S_are_names) (by decide +kernel)) (fun _ _ _ _ _ => pg_name (i := 3) sc_are_names.nd rfl (Or.inl rfl)) (fun _ _ _ _ _ => pts_nil) (fun _ _ _ _ _ => (pe_def (ok_is_name T) hr rfl (pa_cons (pv 3) pa_nil)))) pa_nil)))))))
  (pss_one (ps_ret pe_bl))
  pss_nil)
  (pss_one (ps_ret (pe_cmpR op_eq (pe_lenSetX (K := K) rfl rfl rfl T.h_len rfl T.h_set (pv 0)) (pe_callB (call_lenG (K := K) rfl) (by rfl) T.h_len (by decide +kernel) (pa_cons (pv 0) pa_nil)) (nomark _))))), ?_⟩
    rcases hv with ⟨T, hT, ty, n, m, rfl⟩ | ⟨l, ns, rfl, hl, h12, hz, hr⟩
    · walk_at "g"
      refine ⟨v, a, b, rfl, .inl ⟨T, hT, ty, n, m, fun H1 x1 => ?_⟩⟩
      walk_at "g"
      exact k _ x1
    · have no : ∀ {H'}, XT H H' → ¬ (a ≤ ns.length ∧ (ns.length : Int) ≤ b ∧ (∀ n ∈ ns, nameP n) ∧ ns.Nodup) → Q (.bl false) H' := fun {H'} x hn => by
        have e : r = false := by
          cases r with
          | false => rfl
          | true => exact absurd (hr.mp rfl) hn
        rw [← e]
        exact k _ x
      walk_at "g"
      refine ⟨.ref l, a, b, rfl, .inr ⟨l, _, rfl, seq_t hl, fun H1 x1 => ?_⟩⟩
      by_cases hab : a ≤ ((ns.map V.str).length : Int) ∧ ((ns.map V.str).length : Int) ≤ b
      · rw [decide_eq_true hab.1, decide_eq_true hab.2]
        rw [show (true && true) = true from rfl]
        rw [List.length_map] at hab
        have hl1 := seq_keep hl x1
        walk_at "g"
        refine g_seqG ?_
        walk_at "g"
        refine ⟨l, ns.map V.str, rfl, seq_a hl1, fun J hJ D hD => ?_⟩
        refine lc_new (ns.map V.str) (fun i y _ => ∃ z, ns[i]? = some z ∧ y = .bl (nameB (.str z))) hD (fun H2 k2 => hJ H2 (seq_same hl1 k2)) (by rw [List.length_map]; omega) (fun i y Ha Hb _ h _ => h) (fun i y Hh R S hy kh _ hR => ?_) (fun H2 ys x2 hW hyl hys => ?_)
        · rw [List.getElem?_map] at hy
          obtain ⟨z, hzi, rfl⟩ := Option.map_eq_some_iff.mp hy
          walk_at "g"
          refine ⟨rfl, ?_⟩
          walk_at "g"
          refine ⟨_, rfl, .inr (.inr (.inr (.inl ⟨_, rfl, hz z (List.mem_of_getElem? hzi)⟩))), fun H3 x3 => ?_⟩
          exact hR _ _ x3 ⟨z, hzi, rfl⟩
        · obtain rfl : ys = (ns.map fun z => nameB (.str z)).map V.bl := by
            refine List.ext_getElem (by rw [hyl, List.length_map, List.length_map, List.length_map]) fun i g1 g2 => ?_
            obtain ⟨z, hz1, hz2⟩ := hys i _ (List.getElem?_eq_getElem g1)
            obtain ⟨h0, h00⟩ := List.getElem?_eq_some_iff.mp hz1
            rw [hz2, List.getElem_map, List.getElem_map, h00]
          have hl2 := seq_keep hl1 x2
          walk_at "g"
          refine ⟨D, ns.map fun z => nameB (.str z), rfl, SqL.of hW, ?_⟩
          by_cases hall : ∀ n ∈ ns, nameP n
          · rw [show (ns.map fun z => nameB (.str z)).all id = true by
              rw [List.all_map]
              exact List.all_eq_true.mpr fun z hm => nameB_str.mpr (hall z hm)]
            walk_at "g"
            refine g_lenSetX ?_
            walk_at "g"
            refine ⟨l, ns, rfl, hl2.elim (fun h => .inl (SqL.of h)) (fun h => .inr (SqT.of h)), scan12 h12, fun zs z1 z2 z3 => ?_⟩
            walk_at "g"
            refine g_lenA hl2 ?_
            walk_at "g"
            rw [List.length_map]
            by_cases hnd : ns.Nodup
            · rw [decide_eq_true (show (zs.length : Int) = ns.length by rw [(len_nodup z1 z2).mpr hnd])]
              have := k _ (x1.trans x2)
              rw [hr.mpr ⟨hab.1, hab.2, hall, hnd⟩] at this
              exact this
            · rw [decide_eq_false (show ¬ (zs.length : Int) = ns.length from fun e => hnd ((len_nodup z1 z2).mp (by omega)))]
              exact no (x1.trans x2) fun h => hnd h.2.2.2
          · rw [show (ns.map fun z => nameB (.str z)).all id = false by
              rw [List.all_map]
              refine Bool.eq_false_iff.mpr fun h => hall fun z hm => nameB_str.mp (List.all_eq_true.mp h z hm)]
            walk_at "g"
            exact no (x1.trans x2) fun h => hall h.2.2.1
      · have : (decide (a ≤ ((ns.map V.str).length : Int)) && decide (((ns.map V.str).length : Int) ≤ b)) = false := by
          by_cases h1 : a ≤ ((ns.map V.str).length : Int)
          · rw [decide_eq_true h1, decide_eq_false (fun h2 => hab ⟨h1, h2⟩)]; rfl
          · rw [decide_eq_false h1]; rfl
        rw [this]
        walk_at "g"
        rw [List.length_map] at hab
        exact no x1 fun h => hab ⟨h.1, h.2.1⟩
end
theorem hu64_of {A : Around} {k : Nat} (hr : Room k A) : A.units + 64 < cLine := by
  have := hr.un
  omega
theorem g_tupA {K : PySem.W.Frag} {H : Hp} {p : Addr} {xs : List V} {Q : VK} (h : H p = some (.lst xs) ∨ H p = some (.tup xs)) (q : ∀ t H', XT H H' → H' t = some (.tup xs) → Q (.ref t) H') : rTupG K [.ref p] H Q := by
  rcases h with h | h
  · exact g_tupL (SqL.of h) fun t ht => q t _ (XT.refl.new ht) upd_same
  · exact g_tupT (SqT.of h) (q p _ XT.refl h)
theorem some_inj {α : Type} {xs ys : List α} (h : xs.map some = ys.map some) : xs = ys := (List.map_inj_right fun a b e => Option.some.inj e).mp h
/-! == of atomic tests -/
theorem isV.flat1 {k : Bool} {v : V} (h : isV k v) : flatV v = true ∧ eqV v v = true := by
  cases k with
  | false => obtain ⟨i, rfl⟩ := h; exact ⟨rfl, by simp [eqV]⟩
  | true => obtain ⟨z, rfl, _⟩ := h; exact ⟨rfl, by simp [eqV]⟩
theorem flatS (z : Str) : flatV (.str z) = true ∧ eqV (.str z) (.str z) = true := ⟨rfl, by simp [eqV]⟩
theorem flatI (i : Int) : flatV (.int i) = true ∧ eqV (.int i) (.int i) = true := ⟨rfl, by simp [eqV]⟩
theorem At.trms_flat {κ : List (Str × Bool)} {a : At} (h : a.Wf κ) : ∀ v ∈ a.trms, flatV v = true ∧ eqV v v = true := by
  intro v hv
  cases a with
  | always => exact nomatch hv
  | never => exact nomatch hv
  | empty c => exact nomatch hv
  | among c vs =>
    obtain ⟨_, _, _, k, _, hvv⟩ := h
    exact (hvv v hv).flat1
  | begins c z =>
    rw [List.mem_singleton.mp hv]
    exact flatS z
  | compare c op x =>
    obtain ⟨_, _, k, _, hx⟩ := h
    rcases List.mem_cons.mp hv with rfl | hv
    · exact flatS op
    · rw [List.mem_singleton.mp hv]; exact hx.flat1
  | against c op d n =>
    rcases List.mem_cons.mp hv with rfl | hv
    · exact flatS op
    · rw [List.mem_singleton.mp hv]; exact flatI n
theorem At.flds_flat {a : At} : ∀ v ∈ a.flds.map V.str, flatV v = true ∧ eqV v v = true := by
  intro v hv
  obtain ⟨z, _, rfl⟩ := List.mem_map.mp hv
  exact flatS z
theorem rc_flat {K : PySem.W.Frag} {H : Hp} {a b : Addr} {xs ys : List V} (ha : SqT K H a xs) (hb : SqT K H b ys) (fx : ∀ x ∈ xs, flatV x = true ∧ eqV x x = true) (fy : ∀ y ∈ ys, flatV y = true ∧ eqV y y = true) :
    ∃ r, RcNest K H (EqNest K H 1) (.ref a) (.ref b) r ∧ (xs = ys → r = true) := by
  refine ⟨_, .inl ⟨a, b, xs, ys, fun i => eqV (xs.getD i .non) (ys.getD i .non), rfl, rfl, ha, hb, fun i x y hx hy => ?_, rfl⟩, fun e => ?_⟩
  · refine .inl ⟨(fx x (List.mem_of_getElem? hx)).1, (fy y (List.mem_of_getElem? hy)).1, ?_⟩
    show eqV (xs.getD i .non) (ys.getD i .non) = eqV x y
    rw [List.getD_eq_getElem?_getD, List.getD_eq_getElem?_getD, hx, hy]
    rfl
  · subst e
    rw [beq_self_eq_true, Bool.and_true]
    refine List.all_eq_true.mpr fun i hi => ?_
    have hi : i < xs.length := by simpa using hi
    show eqV (xs.getD i .non) (xs.getD i .non) = true
    rw [List.getD_eq_getElem?_getD, List.getElem?_eq_getElem hi]
    exact (fx _ (List.getElem_mem hi)).2
def spTeq (C : Addr) : Sp := fun vs H Q _ => ∃ (a : Addr) (f : At) (κ : List (Str × Bool)) (y : V), vs = [.ref a, y] ∧ TestAt C H f.ts a ∧ f.Wf κ ∧
  ((∃ (b : Addr) (g : At) (κ' : List (Str × Bool)), y = .ref b ∧ TestAt C H g.ts b ∧ g.Wf κ') ∨ ∃ T : String, T ∈ kinds7 ∧ TyOf7 H y T) ∧ ∀ r, (y = .ref a → r = true) → ((∃ T : String, T ∈ kinds7 ∧ TyOf7 H y T) → r = false) → Q (.bl r) H
theorem kids_at {a : At} : a.ts.kids = [] := rfl
section
variable {P : Program} {w : World} {K : PySem.W.Frag} {mg : Str → Option Value} {base : Heap}
theorem ok_is_order (T : TxtW w K mg) : Def P w K mg base 5 "is_order" ["thing"] (fun vs H Q _ => ∃ (v : V) (d : Option (List (Option (Str × Bool)))), vs = [v] ∧ ThAt H v d ∧ ∀ H', XT H H' → Q (.bl (dueF d).isNone) H') := by
  obtain ⟨f, fd, h⟩ := T.d_is_order
  obtain ⟨fE_BadOrder, EB_BadOrder⟩ := T.x_BadOrder
  refine h.def (Fun.okM h.fn sc_is_order (fun vs H Q E h => ?_) (fun cdv A outer s H vs Q E hr h => ?_))
  · obtain ⟨v, d, rfl, _⟩ := h
    rfl
  · obtain ⟨v, d, rfl, hT, k⟩ := h
    refine ⟨_, (pss_cons (ps_try_only (Wout := fun _ _ _ _ => False) rfl rfl ⟨rfl, by decide, Or.inl EB_BadOrder.gC⟩ takes0 (fun W pn xe tk _ =>
  (pss_one (ps_expr (pe_defX tk (ok_need_order T) hr rfl (pa_cons (pv 0) pa_nil)))))
  (fun a oe cls d pn hz hf => (pss_one (ps_ret pe_bl))))
  (pss_one (ps_ret pe_bl))), ?_⟩
    walk_at "g"
    refine ⟨v, d, rfl, hT, fun i hi e H' x he => ?_, fun rs cs hd hrs hn t H1 x1 _ => ?_⟩
    · refine ⟨true, EB_BadOrder.te, fun _ a0 ha0 => ?_, fun q => Bool.noConfusion q⟩
      walk_at "g"
      have := k _ x
      rw [hi] at this
      exact this
    · walk_at "g"
      have := k _ x1
      rw [hn] at this
      exact this
theorem ok_Test_eq (T : TxtW w K mg) : DefM P w K mg base 1 (cadr mg "Test") "__eq__" ["self", "other"] (spTeq (cadr mg "Test")) := by
  obtain ⟨f, fd, h⟩ := T.d_Test_eq
  refine h.def (Fun.okM h.fn sc_Test_eq (fun vs H Q E h => ?_) (fun cdv A outer s H vs Q E hr h => ?_))
  · obtain ⟨a, f, κ, y, rfl, _⟩ := h
    rfl
  · obtain ⟨a, f, κ, y, rfl, hA, hf, hy, k⟩ := h
    refine ⟨_, (pss_one (ps_ret (pe_and (pe_callB (call_isiG (K := K) rfl) (by rfl) T.h_isinstance (by decide +kernel) (pa_cons (pv 1) (pa_cons (pe_cls rfl T.e_Test) pa_nil))) (pe_and (pe_cmpR op_eq (pe_fldG (K := K) rfl (pv 0) rfl) (pe_fldG (K := K) rfl (pv 1) rfl) (nomark _)) (pe_and (pe_cmpR (op_eqNest (K := K) rfl (hu64_of hr)) (pe_fldG (K := K) rfl (pv 0) rfl) (pe_fldG (K := K) rfl (pv 1) rfl) (nomark _)) (pe_and (pe_cmpR (op_eqNest (K := K) rfl (hu64_of hr)) (pe_fldG (K := K) rfl (pv 0) rfl) (pe_fldG (K := K) rfl (pv 1) rfl) (nomark _)) (pe_one (pe_cmpR (op_eqNest (K := K) rfl (hu64_of hr)) (pe_fldG (K := K) rfl (pv 0) rfl) (pe_fldG (K := K) rfl (pv 1) rfl) (nomark _))))))))), ?_⟩
    rcases hy with ⟨b, g, κ', rfl, hB, hg⟩ | ⟨Tn, hT, ty⟩
    · obtain ⟨dx, i1, f1, u1, qs1, hp, hi1, hf1, hu1, hR1⟩ := hA.node
      obtain ⟨dy, i2, f2, u2, qs2, hq, hi2, hf2, hu2, hR2⟩ := hB.node
      have e1 : qs1 = [] := List.length_eq_zero_iff.mp (by rw [hR1.len]; rfl)
      have e2 : qs2 = [] := List.length_eq_zero_iff.mp (by rw [hR2.len]; rfl)
      subst e1 e2
      have same : V.ref b = .ref a → f.ts.word = g.ts.word ∧ f.ts.flds = g.ts.flds ∧ f.ts.trms = g.ts.trms := fun e => by
        have e : b = a := by injection e
        subst e
        rw [hp] at hq
        injection hq with hq
        injection hq with _ _ hq
        unfold tf at hq
        injection hq with q1 hq
        injection hq with q2 hq
        injection hq with q3 hq
        injection hq with q4 hq
        injection q1 with _ q1
        injection q1 with q1
        injection q3 with _ q3
        injection q3 with q3
        injection q4 with _ q4
        injection q4 with q4
        subst q3 q4
        rw [hf1] at hf2
        rw [hu1] at hu2
        injection hf2 with hf2
        injection hf2 with hf2
        injection hu2 with hu2
        injection hu2 with hu2
        exact ⟨q1, (List.map_inj_right fun a b e => by injection e).mp hf2, hu2⟩
      have noTy : ∀ r, (∃ T : String, T ∈ kinds7 ∧ TyOf7 H (.ref b) T) → r = false := fun r ⟨T, _, ty⟩ => by
        cases ty with
        | lst h => rw [hq] at h; cases h
        | tup h => rw [hq] at h; cases h
        | dct h => rw [hq] at h; cases h
      walk_at "g"
      refine g_isOwn T.is_Test T.cl_Test hq ?_
      walk_at "g"
      refine ⟨a, _, dx, _, _, rfl, hp, T.cl_Test, T.n_Test_word, tf_word, ?_⟩
      walk_at "g"
      refine ⟨b, _, dy, _, _, rfl, hq, T.cl_Test, T.n_Test_word, tf_word, ?_⟩
      walk_at "g"
      by_cases hw : f.ts.word = g.ts.word
      · rw [decide_eq_true hw]
        walk_at "g"
        refine ⟨a, _, dx, _, _, rfl, hp, T.cl_Test, T.n_Test_fields, tf_fields, ?_⟩
        walk_at "g"
        refine ⟨b, _, dy, _, _, rfl, hq, T.cl_Test, T.n_Test_fields, tf_fields, ?_⟩
        obtain ⟨r1, hr1, hs1⟩ := rc_flat (K := K) (SqT.of hf1) (SqT.of hf2) At.flds_flat At.flds_flat
        refine ⟨1, r1, by decide, hr1, ?_⟩
        cases r1 with
        | false =>
          walk_at "g"
          exact k false (fun e => hs1 (by rw [(same e).2.1])) (noTy _)
        | true =>
          walk_at "g"
          refine ⟨a, _, dx, _, _, rfl, hp, T.cl_Test, T.n_Test_terms, tf_terms, ?_⟩
          walk_at "g"
          refine ⟨b, _, dy, _, _, rfl, hq, T.cl_Test, T.n_Test_terms, tf_terms, ?_⟩
          obtain ⟨r2, hr2, hs2⟩ := rc_flat (K := K) (SqT.of hu1) (SqT.of hu2) (At.trms_flat hf) (At.trms_flat hg)
          refine ⟨1, r2, by decide, hr2, ?_⟩
          cases r2 with
          | false =>
            walk_at "g"
            exact k false (fun e => hs2 (same e).2.2) (noTy _)
          | true =>
            walk_at "g"
            refine ⟨a, _, dx, _, _, rfl, hp, T.cl_Test, T.n_Test_inner, tf_inner, ?_⟩
            walk_at "g"
            refine ⟨b, _, dy, _, _, rfl, hq, T.cl_Test, T.n_Test_inner, tf_inner, ?_⟩
            refine ⟨1, true, by decide, .inl ⟨i1, i2, [], [], fun _ => true, rfl, rfl, SqT.of hi1, SqT.of hi2, (fun i x y h _ => by simp at h), by rfl⟩, ?_⟩
            walk_at "g"
            exact k true (fun _ => rfl) (noTy _)
      · rw [decide_eq_false hw]
        walk_at "g"
        exact k false (fun e => absurd (same e).1 hw) (noTy _)
    · walk_at "g"
      refine g_isNot T.is_Test (ty.x K) hT ?_
      walk_at "g"
      refine k false (fun e => ?_) fun _ => rfl
      subst e
      obtain ⟨dx, i1, f1, u1, qs1, hp, _⟩ := hA.node
      cases ty with
      | lst h => rw [hp] at h; cases h
      | tup h => rw [hp] at h; cases h
      | dct h => rw [hp] at h; cases h
end
/-- names, or what is none -/
def NmAt (H : Hp) (y : V) (b : Bool) : Prop := (∃ T : String, T ∈ kinds7 ∧ TyOf7 H y T ∧ T ≠ "list" ∧ T ≠ "tuple" ∧ b = false) ∨
  ∃ (l : Addr) (ns : List Str), y = .ref l ∧ (H l = some (.lst (ns.map V.str)) ∨ H l = some (.tup (ns.map V.str))) ∧ ns.length ≤ 12 ∧ (∀ z ∈ ns, z.length ≤ 100) ∧ (b = true ↔ ((∀ n ∈ ns, nameP n) ∧ ns.Nodup ∧ ns.length ≤ 3))
/-- what stands behind a step's word -/
inductive Tl (C : Addr) (H : Hp) (G : Addr → Prop) : Str → List V → Bool → Prop
  | keep {t : Addr} {a : At} {κ : List (Str × Bool)} (h : TestAt C H a.ts t) (w : a.Wf κ) (g : G t) : Tl C H G "keep" [.ref t] true
  | keepN {y : V} (h : y = .non ∨ ∃ z, y = .str z) : Tl C H G "keep" [y] false
  | sort {y : V} {d : Option (List (Option (Str × Bool)))} (h : ThAt H y d) : Tl C H G "sort" [y] (dueF d).isNone
  | dist {y : V} {b : Bool} (h : NmAt H y b) : Tl C H G "distinct" [y] b
  | first : Tl C H G "first" [] true
  | flip : Tl C H G "flip" [] true
theorem NmAt.keep {H H' : Hp} {y : V} {b : Bool} (h : NmAt H y b) (k : XT H H') : NmAt H' y b := by
  rcases h with ⟨T, h1, h2, h3⟩ | ⟨l, ns, e, h1, h2⟩
  · exact .inl ⟨T, h1, h2.keep k, h3⟩
  · exact .inr ⟨l, ns, e, seq_keep h1 k, h2⟩
theorem Tl.keepX {C : Addr} {H H' : Hp} {G : Addr → Prop} {z : Str} {r : List V} {b : Bool} (h : Tl C H G z r b) (k : XT H H') : Tl C H' G z r b := by
  cases h with
  | keep h w g => exact .keep (h.keep k) w g
  | keepN h => exact .keepN h
  | sort h => exact .sort (h.keep k)
  | dist h => exact .dist (h.keep k)
  | first => exact .first
  | flip => exact .flip
theorem name100 {z : Str} (h : nameP z) : z.length ≤ 100 := by have := h.2.1; omega
theorem item_form {C : Addr} {H : Hp} {v : V} {r : Option Sx} (h : ItAt C [] H v r) : (Wd H v false ∧ r.isSome = false) ∨ ∃ (p : Addr) (z : Str) (rs : List V), v = .ref p ∧ (H p = some (.lst (.str z :: rs)) ∨ H p = some (.tup (.str z :: rs))) ∧ rs.length ≤ 5 ∧
    ((z ∉ kws.map (·.1) ∧ r.isSome = false) ∨ (∃ n, (z, n) ∈ kws ∧ (rs.length : Int) + 1 ≠ n ∧ r.isSome = false) ∨ ∃ n, (z, n) ∈ kws ∧ (rs.length : Int) + 1 = n ∧ Tl C H (fun t => ∃ a, r = some (.keep t a)) z rs r.isSome) := by
  have l1 : ∀ x : V, [x].length ≤ 5 := fun x => by show 1 ≤ 5; decide
  have m1 : (("keep" : Str), (2 : Int)) ∈ kws := List.mem_cons_self
  have m2 : (("sort" : Str), (2 : Int)) ∈ kws := List.mem_cons_of_mem _ List.mem_cons_self
  have m3 : (("distinct" : Str), (2 : Int)) ∈ kws := List.mem_cons_of_mem _ (List.mem_cons_of_mem _ List.mem_cons_self)
  have m4 : (("first" : Str), (1 : Int)) ∈ kws := List.mem_cons_of_mem _ (List.mem_cons_of_mem _ (List.mem_cons_of_mem _ List.mem_cons_self))
  have m5 : (("flip" : Str), (1 : Int)) ∈ kws := List.mem_cons_of_mem _ (List.mem_cons_of_mem _ (List.mem_cons_of_mem _ (List.mem_cons_of_mem _ List.mem_cons_self)))
  cases r with
  | some s =>
    obtain ⟨q, rfl, hs, hk⟩ := h
    cases s with
    | keep t a =>
      obtain ⟨κ, hw⟩ := hk
      exact .inr ⟨q, _, _, rfl, hs.1.sq, l1 _, .inr (.inr ⟨2, m1, by rfl, .keep hs.2 hw ⟨a, rfl⟩⟩)⟩
    | sort o =>
      obtain ⟨l, a, b⟩ := hs
      refine .inr ⟨q, _, _, rfl, a.sq, l1 _, .inr (.inr ⟨2, m2, by rfl, ?_⟩)⟩
      have := Tl.sort (C := C) (G := fun t => ∃ a, some (Sx.sort o) = some (.keep t a)) (b.th hk)
      rw [hk.due] at this
      exact this
    | dist ns =>
      obtain ⟨l, a, b⟩ := hs
      obtain ⟨k1, k2, k3⟩ := hk
      exact .inr ⟨q, _, _, rfl, a.sq, l1 _, .inr (.inr ⟨2, m3, by rfl, .dist (.inr ⟨l, ns, rfl, b.sq, by omega, fun z hz => name100 (k1 z hz), ⟨fun _ => ⟨k1, k2, k3⟩, fun _ => rfl⟩⟩)⟩)⟩
    | first => exact .inr ⟨q, _, _, rfl, Lq.sq hs, Nat.zero_le _, .inr (.inr ⟨1, m4, by rfl, .first⟩)⟩
    | flip => exact .inr ⟨q, _, _, rfl, Lq.sq hs, Nat.zero_le _, .inr (.inr ⟨1, m5, by rfl, .flip⟩)⟩
  | none =>
    have hN : NoStep [] H v := h
    clear h
    cases hN with
    | nos hT h n m => exact .inl ⟨.inl ⟨_, hT, h, n, m, rfl⟩, rfl⟩
    | nil h => exact .inl ⟨.inr ⟨_, _, rfl, h.sq, .inl ⟨rfl, rfl⟩⟩, rfl⟩
    | wd0 h hl hr n => exact .inl ⟨.inr ⟨_, _, rfl, h.sq, .inr (.inr ⟨_, _, _, rfl, hl, rfl⟩)⟩, rfl⟩
    | word h hr n => exact .inr ⟨_, _, _, rfl, h.sq, hr, .inl ⟨n, rfl⟩⟩
    | size h hr hz hn => exact .inr ⟨_, _, _, rfl, h.sq, hr, .inr (.inl ⟨_, hz, hn, rfl⟩)⟩
    | keep h hy => exact .inr ⟨_, _, _, rfl, h.sq, l1 _, .inr (.inr ⟨2, m1, by rfl, .keepN hy⟩)⟩
    | sort h hy hd =>
      refine .inr ⟨_, _, _, rfl, h.sq, l1 _, .inr (.inr ⟨2, m2, by rfl, ?_⟩)⟩
      have := Tl.sort (C := C) (G := fun t => ∃ a, (none : Option Sx) = some (.keep t a)) hy.th
      rw [hd] at this
      exact this
    | dist h hy =>
      refine .inr ⟨_, _, _, rfl, h.sq, l1 _, .inr (.inr ⟨2, m3, by rfl, .dist ?_⟩)⟩
      rcases hy with ⟨z, rfl⟩ | ⟨l, ns, rfl, h1, h2, h3, h4⟩
      · exact .inl ⟨"str", by decide, .str z, by decide, by decide, rfl⟩
      · exact .inr ⟨l, ns, rfl, h1.sq, by omega, h3, ⟨(fun z => by cases z), fun z => absurd z h4⟩⟩
section
variable {P : Program} {w : World} {K : PySem.W.Frag} {mg : Str → Option Value} {base : Heap}
theorem ok_is_step (T : TxtW w K mg) : Def P w K mg base 6 "is_step" ["thing"] (fun vs H Q _ => ∃ (v : V) (r : Option Sx), vs = [v] ∧ ItAt (cadr mg "Test") [] H v r ∧ ∀ H', XT H H' → Q (.bl r.isSome) H') := by
  obtain ⟨f, fd, h⟩ := T.d_is_step
  obtain ⟨t_STEP_SIZES, G_STEP_SIZES, Q_STEP_SIZES⟩ := T.k_STEP_SIZES
  refine h.def (Fun.okM h.fn sc_is_step (fun vs H Q E h => ?_) (fun cdv A outer s H vs Q E hr h => ?_))
  · obtain ⟨v, r, rfl, _⟩ := h
    rfl
  · obtain ⟨v, r, rfl, hI, k⟩ := h
    refine ⟨_, (pss_cons (ps_if (PW.pt (pw_or (pt_not (pt_val (pe_def (ok_is_worded T) hr rfl (pa_cons (pv 0) pa_nil)))) (pw_or (pt_cmpR (op_notKE (K := K) (w := w) rfl rfl) (pe_ix (ix_seqG (K := K) rfl) (pv 0) pe_int (fun _ _ => rfl)) (pe_glob (v := .ref t_STEP_SIZES) rfl G_STEP_SIZES rfl) (by rfl)) (pw_or1 (pt_cmpR op_ne (pe_callB (call_lenG (K := K) rfl) (by rfl) T.h_len (by decide +kernel) (pa_cons (pv 0) pa_nil)) (pe_ix (ix_KD (K := K) (w := w) rfl rfl) (pe_glob (v := .ref t_STEP_SIZES) rfl G_STEP_SIZES rfl) (pe_ix (ix_seqG (K := K) rfl) (pv 0) pe_int (fun _ _ => rfl)) (fun _ _ => rfl)) (nomark _))))))
  (pss_one (ps_ret pe_bl))
  pss_nil)
  (pss_cons (ps_if (pt_cmpR op_eq (pe_ix (ix_seqG (K := K) rfl) (pv 0) pe_int (fun _ _ => rfl)) pe_str (nomark _))
  (pss_one (ps_ret (pe_callB (call_isiG (K := K) rfl) (by rfl) T.h_isinstance (by decide +kernel) (pa_cons (pe_ix (ix_seqG (K := K) rfl) (pv 0) pe_int (fun _ _ => rfl)) (pa_cons (pe_cls rfl T.e_Test) pa_nil)))))
  pss_nil)
  (pss_cons (ps_if (pt_cmpR op_eq (pe_ix (ix_seqG (K := K) rfl) (pv 0) pe_int (fun _ _ => rfl)) pe_str (nomark _))
  (pss_one (ps_ret (pe_def (ok_is_order T) hr rfl (pa_cons (pe_ix (ix_seqG (K := K) rfl) (pv 0) pe_int (fun _ _ => rfl)) pa_nil))))
  pss_nil)
  (pss_one (ps_ret (pe_or (pe_cmpR op_ne (pe_ix (ix_seqG (K := K) rfl) (pv 0) pe_int (fun _ _ => rfl)) pe_str (nomark _)) (pe_one (pe_def (ok_are_names T) hr rfl (pa_cons (pe_ix (ix_seqG (K := K) rfl) (pv 0) pe_int (fun _ _ => rfl)) (pa_cons pe_int (pa_cons pe_int pa_nil))))))))))), ?_⟩
    rcases item_form hI with ⟨hW, e⟩ | ⟨p, z, rs, rfl, hp, hr5, hx⟩
    · walk_at "g"
      refine ⟨v, false, rfl, hW, fun H1 x1 => ?_⟩
      walk_at "g"
      rw [e] at k
      exact k _ x1
    · walk_at "g"
      refine ⟨.ref p, true, rfl, .inr ⟨p, _, rfl, hp, .inr (.inl ⟨z, rs, rfl, rfl⟩)⟩, fun H1 x1 => ?_⟩
      have h1 := seq_keep hp x1
      walk_at "g"
      refine g_ixA h1 (v := .str z) (atI_nat (j := 0) rfl) ?_
      walk_at "g"
      refine ⟨_, z, kws, rfl, rfl, Q_STEP_SIZES, ?_⟩
      rcases hx with ⟨hz, e⟩ | ⟨n, hm, hn, e⟩ | ⟨n, hm, hn, hT⟩
      · rw [decide_eq_false hz]
        walk_at "g"
        rw [e] at k
        exact k _ x1
      · rw [decide_eq_true (List.mem_map.mpr ⟨_, hm, rfl⟩)]
        walk_at "g"
        refine g_lenA h1 ?_
        walk_at "g"
        refine g_ixA h1 (v := .str z) (atI_nat (j := 0) rfl) ?_
        refine ⟨_, z, n, kws, rfl, rfl, Q_STEP_SIZES, hm, ?_⟩
        walk_at "g"
        rw [decide_eq_false (show ¬ (((.str z : V) :: rs).length : Int) = n by rw [List.length_cons]; omega)]
        walk_at "g"
        rw [e] at k
        exact k _ x1
      · rw [decide_eq_true (List.mem_map.mpr ⟨_, hm, rfl⟩)]
        walk_at "g"
        refine g_lenA h1 ?_
        walk_at "g"
        refine g_ixA h1 (v := .str z) (atI_nat (j := 0) rfl) ?_
        refine ⟨_, z, n, kws, rfl, rfl, Q_STEP_SIZES, hm, ?_⟩
        walk_at "g"
        rw [decide_eq_true (show (((.str z : V) :: rs).length : Int) = n by rw [List.length_cons]; omega)]
        walk_at "g"
        have hT1 := hT.keepX x1
        clear hT hI hm hn
        generalize hb : r.isSome = b at hT1 k
        refine g_ixA h1 (v := .str z) (atI_nat (j := 0) rfl) ?_
        walk_at "g"
        cases hT1 with
        | keep h w g =>
          rename_i t a κ
          obtain ⟨dx, i1, f1, u1, qs1, hp, _⟩ := h.node
          refine g_dec (fun _ => ?_) (fun h => absurd rfl h)
          walk_at "g"
          refine g_ixA h1 (v := .ref t) (by rfl) ?_
          walk_at "g"
          refine g_isOwn T.is_Test T.cl_Test hp ?_
          exact k _ x1
        | keepN h =>
          rename_i y
          refine g_dec (fun _ => ?_) (fun h => absurd rfl h)
          walk_at "g"
          refine g_ixA h1 (v := y) (by rfl) ?_
          walk_at "g"
          rcases h with rfl | ⟨z, rfl⟩
          · refine g_isNot T.is_Test (.base .non) (show "NoneType" ∈ kinds7 by decide) ?_
            exact k _ x1
          · refine g_isNot T.is_Test (.base (.str z)) (show "str" ∈ kinds7 by decide) ?_
            exact k _ x1
        | sort h =>
          rename_i y d
          refine g_dec (fun h => absurd h (show ("sort" : Str) ≠ "keep" by decide +kernel)) (fun _ => ?_)
          walk_at "g"
          refine g_ixA h1 (v := .str "sort") (by rfl) ?_
          walk_at "g"
          refine g_dec (fun _ => ?_) (fun h => absurd rfl h)
          walk_at "g"
          refine g_ixA h1 (v := y) (by rfl) ?_
          walk_at "g"
          refine ⟨y, d, rfl, h, fun H2 x2 => ?_⟩
          walk_at "g"
          exact k _ (x1.trans x2)
        | dist h =>
          rename_i y
          refine g_dec (fun h => absurd h (show ("distinct" : Str) ≠ "keep" by decide +kernel)) (fun _ => ?_)
          walk_at "g"
          refine g_ixA h1 (v := .str "distinct") (by rfl) ?_
          walk_at "g"
          refine g_dec (fun h => absurd h (show ("distinct" : Str) ≠ "sort" by decide +kernel)) (fun _ => ?_)
          walk_at "g"
          refine g_ixA h1 (v := .str "distinct") (by rfl) ?_
          walk_at "g"
          rw [decide_eq_true (rfl : Str.ofString "distinct" = Str.ofString "distinct")]
          walk_at "g"
          refine g_ixA h1 (v := y) (by rfl) ?_
          walk_at "g"
          refine ⟨y, 0, 3, b, rfl, ?_, fun H2 x2 => ?_⟩
          · rcases h with h | ⟨l, ns, e, h2, h3, h4, h5⟩
            · exact .inl h
            · exact .inr ⟨l, ns, e, h2, h3, h4, h5.trans ⟨fun q => ⟨by omega, by have := q.2.2; omega, q.1, q.2.1⟩, fun q => ⟨q.2.2.1, q.2.2.2, by have := q.2.1; omega⟩⟩⟩
          · walk_at "g"
            exact k _ (x1.trans x2)
        | first =>
          refine g_dec (fun h => absurd h (show ("first" : Str) ≠ "keep" by decide +kernel)) (fun _ => ?_)
          walk_at "g"
          refine g_ixA h1 (v := .str "first") (by rfl) ?_
          walk_at "g"
          refine g_dec (fun h => absurd h (show ("first" : Str) ≠ "sort" by decide +kernel)) (fun _ => ?_)
          walk_at "g"
          refine g_ixA h1 (v := .str "first") (by rfl) ?_
          walk_at "g"
          rw [decide_eq_false (show ¬ Str.ofString "first" = Str.ofString "distinct" by decide +kernel)]
          walk_at "g"
          exact k _ x1
        | flip =>
          refine g_dec (fun h => absurd h (show ("flip" : Str) ≠ "keep" by decide +kernel)) (fun _ => ?_)
          walk_at "g"
          refine g_ixA h1 (v := .str "flip") (by rfl) ?_
          walk_at "g"
          refine g_dec (fun h => absurd h (show ("flip" : Str) ≠ "sort" by decide +kernel)) (fun _ => ?_)
          walk_at "g"
          refine g_ixA h1 (v := .str "flip") (by rfl) ?_
          walk_at "g"
          rw [decide_eq_false (show ¬ Str.ofString "flip" = Str.ofString "distinct" by decide +kernel)]
          walk_at "g"
          exact k _ x1
theorem ok_step_of (T : TxtW w K mg) : Def P w K mg base 5 "step_of" ["step"] (fun vs H Q _ => ∃ (q : Addr) (s : Sx), vs = [.ref q] ∧ SIn (cadr mg "Test") [] H q s ∧ XOk s ∧ ∀ t H', XT H H' → SC (cadr mg "Test") H' t s → Q (.ref t) H') := by
  obtain ⟨f, fd, h⟩ := T.d_step_of
  refine h.def (Fun.okM h.fn sc_step_of (fun vs H Q E h => ?_) (fun cdv A outer s H vs Q E hr h => ?_))
  · obtain ⟨q, s, rfl, _⟩ := h
    rfl
  · obtain ⟨q, s, rfl, hq, hs, k⟩ := h
    refine ⟨_, (pss_cons (ps_if (pt_cmpR op_eq (pe_ix (ix_seqG (K := K) rfl) (pv 0) pe_int (fun _ _ => rfl)) pe_str (nomark _))
  (pss_one (ps_ret (pe_tup (pa_cons pe_str (pa_cons (pe_defX takes0 (ok_need_order T) hr rfl (pa_cons (pe_ix (ix_seqG (K := K) rfl) (pv 0) pe_int (fun _ _ => rfl)) pa_nil)) pa_nil)))))
  pss_nil)
  (pss_cons (ps_if (pt_cmpR op_eq (pe_ix (ix_seqG (K := K) rfl) (pv 0) pe_int (fun _ _ => rfl)) pe_str (nomark _))
  (pss_one (ps_ret (pe_tup (pa_cons pe_str (pa_cons (pe_callTy (call_tupleG (K := K) rfl) (by rfl) T.h_tuple (by decide +kernel) (pa_cons (pe_ix (ix_seqG (K := K) rfl) (pv 0) pe_int (fun _ _ => rfl)) pa_nil)) pa_nil)))))
  pss_nil)
  (pss_one (ps_ret (pe_callTy (call_tupleG (K := K) rfl) (by rfl) T.h_tuple (by decide +kernel) (pa_cons (pv 0) pa_nil)))))), ?_⟩
    walk_at "g"
    cases s with
    | keep t a =>
      have hl := hq.1.sq
      refine g_ixA hl (v := .str "keep") (by rfl) ?_
      walk_at "g"
      refine g_dec (fun h => absurd h (show ("keep" : Str) ≠ "sort" by decide +kernel)) (fun _ => ?_)
      walk_at "g"
      refine g_ixA hl (v := .str "keep") (by rfl) ?_
      walk_at "g"
      refine g_dec (fun h => absurd h (show ("keep" : Str) ≠ "distinct" by decide +kernel)) (fun _ => ?_)
      walk_at "g"
      refine g_tupA hl fun u H1 x1 hu => ?_
      walk_at "g"
      exact k u _ x1 ⟨hu, hq.2.keep x1⟩
    | sort o =>
      obtain ⟨l, hl, hO⟩ := hq
      have hl := hl.sq
      refine g_ixA hl (v := .str "sort") (by rfl) ?_
      walk_at "g"
      refine g_dec (fun _ => ?_) (fun h => absurd rfl h)
      walk_at "g"
      refine g_ixA hl (v := .ref l) (by rfl) ?_
      walk_at "g"
      refine ⟨.ref l, some (o.map some), rfl, hO.th hs, fun i hi => by rw [OOk.due hs] at hi; (cases hi), fun rs cs hd hrs hn t H1 x1 hOT => ?_⟩
      obtain rfl : o = cs := some_inj ((Option.some.inj hd).trans hrs)
      walk_at "g"
      refine ⟨by show 2 ≤ sizeLine; decide, fun p hp => ?_⟩
      walk_at "g"
      exact k p _ (fun q u h => ext_newO hp _ _ (x1 _ _ h)) ⟨t, upd_same, hOT.keep (ext_newO hp)⟩
    | dist ns =>
      obtain ⟨l, hl, hN⟩ := hq
      have hl := hl.sq
      refine g_ixA hl (v := .str "distinct") (by rfl) ?_
      walk_at "g"
      refine g_dec (fun h => absurd h (show ("distinct" : Str) ≠ "sort" by decide +kernel)) (fun _ => ?_)
      walk_at "g"
      refine g_ixA hl (v := .str "distinct") (by rfl) ?_
      walk_at "g"
      refine g_dec (fun _ => ?_) (fun h => absurd rfl h)
      walk_at "g"
      refine g_ixA hl (v := .ref l) (by rfl) ?_
      walk_at "g"
      refine g_tupA hN.sq fun t H1 x1 ht => ?_
      walk_at "g"
      refine ⟨by show 2 ≤ sizeLine; decide, fun p hp => ?_⟩
      walk_at "g"
      exact k p _ (fun q u h => ext_newO hp _ _ (x1 _ _ h)) ⟨t, upd_same, ext_newO hp _ _ ht⟩
    | first =>
      have hl := Lq.sq hq
      refine g_ixA hl (v := .str "first") (by rfl) ?_
      walk_at "g"
      refine g_dec (fun h => absurd h (show ("first" : Str) ≠ "sort" by decide +kernel)) (fun _ => ?_)
      walk_at "g"
      refine g_ixA hl (v := .str "first") (by rfl) ?_
      walk_at "g"
      refine g_dec (fun h => absurd h (show ("first" : Str) ≠ "distinct" by decide +kernel)) (fun _ => ?_)
      walk_at "g"
      refine g_tupA hl fun u H1 x1 hu => ?_
      walk_at "g"
      exact k u _ x1 hu
    | flip =>
      have hl := Lq.sq hq
      refine g_ixA hl (v := .str "flip") (by rfl) ?_
      walk_at "g"
      refine g_dec (fun h => absurd h (show ("flip" : Str) ≠ "sort" by decide +kernel)) (fun _ => ?_)
      walk_at "g"
      refine g_ixA hl (v := .str "flip") (by rfl) ?_
      walk_at "g"
      refine g_dec (fun h => absurd h (show ("flip" : Str) ≠ "distinct" by decide +kernel)) (fun _ => ?_)
      walk_at "g"
      refine g_tupA hl fun u H1 x1 hu => ?_
      walk_at "g"
      exact k u _ x1 hu
end
/-- a plan of these steps -/
def PlanAt (C CT : Addr) (H : Hp) (ss : List Sx) (x : Addr) : Prop := ∃ dx fs T, ∃ ts : List Addr, H x = some (.ins C dx fs) ∧ fs.lookup ("course" : Str) = some (V.ref T) ∧ fs.lookup ("steps" : Str) = none ∧ fs.lookup ("__len__" : Str) = none ∧ H T = some (.tup (ts.map V.ref)) ∧ ts.length = ss.length ∧ ∀ (i : Nat) t s, ts[i]? = some t → ss[i]? = some s → SC CT H t s
theorem PlanAt.keepT {C CT x : Addr} {H H' : Hp} {ss : List Sx} (h : PlanAt C CT H ss x) (k : KT H H') : PlanAt C CT H' ss x := by
  obtain ⟨dx, fs, T, ts, h1, h2, h3, h3', h4, h5, h6⟩ := h
  exact ⟨dx, fs, T, ts, k _ _ (fun xs e => nomatch e) h1, h2, h3, h3', k _ _ (fun xs e => nomatch e) h4, h5, fun i t s ht hs => (h6 i t s ht hs).keepT k⟩
theorem PlanAt.keep {C CT x : Addr} {H H' : Hp} {ss : List Sx} (h : PlanAt C CT H ss x) (k : XT H H') : PlanAt C CT H' ss x := h.keepT (.of k)
/-- what is handed in as steps -/
inductive HdAt (C : Addr) (S : List Addr) (H : Hp) : V → Option (List (Option Sx)) → Prop
  | nos {v : V} {T : String} (hT : T ∈ kinds7) (h : TyOf7 H v T) (n : T ≠ "list") (m : T ≠ "tuple") : HdAt C S H v none
  | seq {p : Addr} {xs : List V} {rs : List (Option Sx)} (h : H p = some (.lst xs) ∨ H p = some (.tup xs)) (hl : xs.length = rs.length) (hs : ∀ (i : Nat) x r, xs[i]? = some x → rs[i]? = some r → ItAt C S H x r) : HdAt C S H (.ref p) (some rs)
theorem HdAt.keep {C : Addr} {H H' : Hp} {v : V} {d : Option (List (Option Sx))} (h : HdAt C [] H v d) (k : XT H H') : HdAt C [] H' v d := by
  cases h with
  | nos hT h n m => exact .nos hT (h.keep k) n m
  | seq h hl hs => exact .seq (seq_keep h k) hl fun i x r hx hr => (hs i x r hx hr).keep k
/-- the first thing that is no step -/
def firstN : Nat → List (Option Sx) → Option Nat
  | _, [] => none
  | i, none :: _ => some i
  | i, some _ :: r => firstN (i + 1) r
def faultP : Option (List (Option Sx)) → Option Int
  | none => some (-1)
  | some rs => if 5 < rs.length then some (-1) else (firstN 0 rs).map Int.ofNat
theorem firstN_none : ∀ {rs : List (Option Sx)} {i : Nat}, firstN i rs = none → ∃ ss : List Sx, rs = ss.map some
  | [], _, _ => ⟨[], rfl⟩
  | none :: _, _, h => by cases h
  | some s :: r, i, h => by
    obtain ⟨ss, e⟩ := firstN_none (rs := r) (i := i + 1) h
    exact ⟨s :: ss, by rw [e]; rfl⟩
theorem fault_long {rs : List (Option Sx)} (h : 5 < rs.length) : faultP (some rs) = some (-1) := by
  show (if 5 < rs.length then some (-1) else (firstN 0 rs).map Int.ofNat) = _
  rw [if_pos h]
theorem fault_short {rs : List (Option Sx)} (h : ¬ 5 < rs.length) : faultP (some rs) = (firstN 0 rs).map Int.ofNat := by
  show (if 5 < rs.length then some (-1) else (firstN 0 rs).map Int.ofNat) = _
  rw [if_neg h]
def xpl (i : Int) : HO := .xd [(("why" : Str), .str "steps"), (("at" : Str), .int i)]
theorem g_raiseBP {C : Addr} {W : WX} {ta : TA} {D : Ends} {σ : L2.St} {H : Hp} (q : ta σ H fun vs H1 => ∃ v u, vs = [v, u] ∧ ∀ d, H1 d = none → W (.ref C) (some d) σ (upd H1 d (.xd [(("why" : Str), v), (("at" : Str), u)]))) : tRaiseBadPlan C W ta D σ H := q
def spPlan (CP CT CB : Addr) : Sp := fun vs H Q E => ∃ (x dx : Addr) (v : V) (d : Option (List (Option Sx))), vs = [.ref x, v] ∧ H x = some (.ins CP dx []) ∧ HdAt CT [] H v d ∧
  (∀ i, faultP d = some i → ∀ e H', XT H H' → H' e = some (xpl i) → E (.ref CB) (some e) H') ∧
  (∀ ss, d = some (ss.map some) → faultP d = none → ∀ H', (∀ q o, q ≠ x → H q = some o → H' q = some o) → PlanAt CP CT H' ss x → Q .non H')
theorem refs_of {ys : List V} {H : Hp} {R : Addr → Nat → Prop} (h : ∀ (i : Nat) y, ys[i]? = some y → ∃ q, y = .ref q ∧ R q i) : ∃ qs : List Addr, ys = qs.map V.ref ∧ ∀ (i : Nat) q, qs[i]? = some q → R q i := by
  have key : ∀ (ys : List V), (∀ y ∈ ys, ∃ q, y = .ref q) → ∃ qs : List Addr, ys = qs.map V.ref := by
    intro ys
    induction ys with
    | nil => exact fun _ => ⟨[], rfl⟩
    | cons y r ih =>
      intro h
      obtain ⟨q, rfl⟩ := h y List.mem_cons_self
      obtain ⟨qs, rfl⟩ := ih fun z hz => h z (List.mem_cons_of_mem _ hz)
      exact ⟨q :: qs, rfl⟩
  obtain ⟨qs, rfl⟩ := key ys fun y hy => by
    obtain ⟨i, hi⟩ := List.getElem?_of_mem hy
    obtain ⟨q, e, _⟩ := h i y hi
    exact ⟨q, e⟩
  refine ⟨qs, rfl, fun i q hq => ?_⟩
  obtain ⟨q', e, hr⟩ := h i (.ref q) (by rw [List.getElem?_map, hq]; rfl)
  injection e with e
  rw [e]; exact hr
theorem sc_eq {C : Addr} {K : PySem.W.Frag} {H : Hp} {p q : Addr} {s : Sx} (h1 : SC C H p s) (h2 : SC C H q s) : EqNest K H 4 (.ref p) (.ref q) true := by
  have one : ∀ {z : Str} {x y : V}, EqNest K H 3 x y true → ∀ (i : Nat) u v, [V.str z, x][i]? = some u → [V.str z, y][i]? = some v → EqNest K H 3 u v true := by
    intro z x y h i u v hu hv
    match i with
    | 0 =>
      injection hu with hu
      injection hv with hv
      subst hu hv
      exact .flatS rfl (by simp [eqV])
    | 1 =>
      injection hu with hu
      injection hv with hv
      subst hu hv
      exact h
    | i + 2 => simp at hu
  have flat : ∀ {xs : List V} {n : Nat}, (∀ x ∈ xs, flatV x = true ∧ eqV x x = true) → ∀ (i : Nat) u v, xs[i]? = some u → xs[i]? = some v → EqNest K H (n + 1) u v true := by
    intro xs n hf i u v hu hv
    rw [hu] at hv
    injection hv with hv
    subst hv
    obtain ⟨a, b⟩ := hf u (List.mem_of_getElem? hu)
    exact .flatS a b
  have strF : ∀ {zs : List Str}, ∀ x ∈ zs.map V.str, flatV x = true ∧ eqV x x = true := fun x hx => by
    obtain ⟨z, _, rfl⟩ := List.mem_map.mp hx
    exact flatS z
  cases s with
  | keep t a => exact .tupT (SqT.of h1.1) (SqT.of h2.1) rfl (one .same)
  | sort o =>
    obtain ⟨t, a, qs, a1, a2, a3⟩ := h1
    obtain ⟨u, b, rs, b1, b2, b3⟩ := h2
    refine .tupT (SqT.of a) (SqT.of b) rfl (one (.tupT (SqT.of a1) (SqT.of b1) (by rw [List.length_map, List.length_map, a2, b2]) fun i x y hx hy => ?_))
    rw [List.getElem?_map] at hx hy
    obtain ⟨x1, hx1, rfl⟩ := Option.map_eq_some_iff.mp hx
    obtain ⟨y1, hy1, rfl⟩ := Option.map_eq_some_iff.mp hy
    obtain ⟨c, hc⟩ : ∃ c, o[i]? = some c := ⟨_, List.getElem?_eq_getElem (by have := (List.getElem?_eq_some_iff.mp hx1).1; omega)⟩
    exact .tupT (SqT.of (a3 i x1 c hx1 hc)) (SqT.of (b3 i y1 c hy1 hc)) rfl (flat fun v hv => by
      rcases List.mem_cons.mp hv with rfl | hv
      · exact flatS _
      · rw [List.mem_singleton.mp hv]; exact flatS _)
  | dist ns =>
    obtain ⟨t, a, a1⟩ := h1
    obtain ⟨u, b, b1⟩ := h2
    exact .tupT (SqT.of a) (SqT.of b) rfl (one (.tupT (SqT.of a1) (SqT.of b1) rfl (flat strF)))
  | first => exact .tupT (SqT.of h1) (SqT.of h2) rfl (flat fun v hv => by rw [List.mem_singleton.mp hv]; exact flatS _)
  | flip => exact .tupT (SqT.of h1) (SqT.of h2) rfl (flat fun v hv => by rw [List.mem_singleton.mp hv]; exact flatS _)
/-- what the == of plans promises -/
def spPeq (CP CT : Addr) : Sp := fun vs H Q _ => ∃ (x : Addr) (ss : List Sx) (y : V), vs = [.ref x, y] ∧ PlanAt CP CT H ss x ∧
  ((∃ x2, y = .ref x2 ∧ PlanAt CP CT H ss x2 ∧ Q (.bl true) H) ∨ (∃ x2 s, y = .ref x2 ∧ PlanAt CP CT H (ss ++ [s]) x2 ∧ Q (.bl false) H) ∨ ∃ T : String, T ∈ kinds7 ∧ TyOf7 H y T ∧ Q (.bl false) H)
section
variable {P : Program} {w : World} {K : PySem.W.Frag} {mg : Str → Option Value} {base : Heap}
theorem ok_Plan_init (T : TxtW w K mg) : DefCX P w K mg base 7 (cadr mg "Plan") ["self", "steps"] (spPlan (cadr mg "Plan") (cadr mg "Test") (cadr mg "BadPlan")) := by
  obtain ⟨f, fd, h⟩ := T.d_Plan_init
  obtain ⟨t_MOST_STEPS, G_MOST_STEPS⟩ := T.k_MOST_STEPS
  obtain ⟨fE_BadPlan, EB_BadPlan⟩ := T.x_BadPlan
  refine h.defX (Fun.okMX h.fn sc_Plan_init (fun vs H Q E h => ?_) (fun cdv A outer s H vs Q E hr h => ?_))
  · obtain ⟨x, dx, v, d, rfl, _⟩ := h
    rfl
  · obtain ⟨x, dx, v, d, rfl, hx, hv, kE, kQ⟩ := h
    refine ⟨_, (pss_cons (ps_if (pt_not (pt_val (pe_def (ok_is_short T) hr rfl (pa_cons (pv 1) (pa_cons pe_int (pa_cons (pe_glob (v := .int 5) rfl G_MOST_STEPS ⟨_, rfl⟩) pa_nil))))))
  (pss_one (ps_raiseBadPlan rfl EB_BadPlan hr (takes_of rfl rfl rfl rfl) (pa_cons pe_str (pa_cons (pe_un un_negG pe_int) pa_nil))))
  pss_nil)
  (pss_cons (ps_for (passes_of rfl) rfl (pi_enumG (K := K) rfl (by rfl) T.h_enumerate (pa_cons (pv 1) pa_nil)) (pg_tupG (K := K) (n := 2) rfl rfl (pgs_cons (pg_name (i := 2) sc_Plan_init.nd rfl (Or.inl rfl)) (pgs_cons (pg_name (i := 3) sc_Plan_init.nd rfl (Or.inl rfl)) pgs_nil)))
  (pss_one (ps_if (pt_not (pt_val (pe_def (ok_is_step T) hr rfl (pa_cons (pv 3) pa_nil))))
  (pss_one (ps_raiseBadPlan rfl EB_BadPlan hr (takes_of rfl rfl rfl rfl) (pa_cons pe_str (pa_cons (pv 2) pa_nil))))
  pss_nil)))
  (pss_one (ps_fld (pv 0) (pe_callTy (call_tupleG (K := K) rfl) (by rfl) T.h_tuple (by decide +kernel) (pa_cons (pe_lc (own := [("step", 3)]) rfl sc_Plan_init.nd (pi_seqG (K := K) rfl (pv 1)) (blkOk_by (N := N_Plan_init) (sc := defScope S_Plan_init) (by decide +kernel)) (fun _ _ _ _ _ => pg_name (i := 3) sc_Plan_init.nd rfl (Or.inl rfl)) (fun _ _ _ _ _ => pts_nil) (fun _ _ _ _ _ => (pe_def (ok_step_of T) hr rfl (pa_cons (pv 3) pa_nil)))) pa_nil)) rfl)))), ?_⟩
    cases hv with
    | nos hT ty n m =>
      walk_at "g"
      refine ⟨v, _, _, rfl, .inl ⟨_, hT, ty, n, m, fun H1 x1 => ?_⟩⟩
      walk_at "g"
      refine g_raiseBP ?_
      walk_at "g"
      exact ⟨_, _, rfl, fun d hd => kE (-1) rfl d _ (x1.new hd) upd_same⟩
    | seq hp hl hs =>
      rename_i p xs rs
      walk_at "g"
      refine ⟨_, _, _, rfl, .inr ⟨p, xs, rfl, seq_t hp, fun H1 x1 => ?_⟩⟩
      by_cases h5 : 5 < rs.length
      · rw [show (decide ((0 : Int) ≤ (xs.length : Int)) && decide ((xs.length : Int) ≤ 5)) = false by
          rw [decide_eq_false (show ¬ (xs.length : Int) ≤ 5 by omega), Bool.and_false]]
        walk_at "g"
        refine g_raiseBP ?_
        walk_at "g"
        exact ⟨_, _, rfl, fun d hd => kE (-1) (fault_long h5) d _ (x1.new hd) upd_same⟩
      rw [show (decide ((0 : Int) ≤ (xs.length : Int)) && decide ((xs.length : Int) ≤ 5)) = true by
        rw [decide_eq_true (by omega), decide_eq_true (by omega)]; rfl]
      have hd0 := fault_short h5
      walk_at "g"
      refine g_enumG ?_
      walk_at "g"
      refine ⟨p, xs, rfl, seq_a (seq_keep hp x1), fun J hJ => ?_⟩
      refine for_enumA (xs := xs) (fun i σ' H' => ∃ (s2 s3 : Option V), σ' = [some (.ref x), some (.ref p), s2, s3] ∧ XT H H' ∧ firstN 0 rs = firstN i (rs.drop i)) ⟨none, none, rfl, x1, rfl⟩ ?_ ?_ ?_
      · rintro i σ' H' hi ⟨s2, s3, rfl, x3, _⟩
        exact hJ H' (by rcases hp with h | h <;> rw [x3 _ _ h, x1 _ _ h])
      · rintro i y t σ' H3 D' hy ⟨s2, s3, rfl, x3, hf⟩ ht hnx hct hbk hrt
        have hil : i < xs.length := (List.getElem?_eq_some_iff.mp hy).1
        obtain ⟨ro, hro⟩ : ∃ ro, rs[i]? = some ro := ⟨_, List.getElem?_eq_getElem (by omega)⟩
        have edr : rs.drop i = ro :: rs.drop (i + 1) := by
          rw [List.drop_eq_getElem_cons (by omega)]
          congr 1
          exact Option.some.inj (by rw [← hro, List.getElem?_eq_getElem (by omega)])
        have hin := hs i y ro hy hro
        have x4 := x3.new (o := .tup [.int (i : Nat), y]) ht
        refine g_gtup upd_same rfl ?_
        refine g_gcons ?_
        walk_at "g"
        refine g_gcons ?_
        walk_at "g"
        refine g_gnil ?_
        generalize upd H3 t (.tup [.int (i : Nat), y]) = H4 at x4
        walk_at "g"
        refine ⟨y, ro, rfl, hin.keep x4, fun H5 x5 => ?_⟩
        cases ro with
        | none =>
          rw [show (none : Option Sx).isSome = false from rfl]
          walk_at "g"
          refine g_raiseBP ?_
          walk_at "g"
          exact ⟨_, _, rfl, fun d hd => kE i (by rw [hd0, hf, edr]; rfl) d _ ((x4.trans x5).new hd) upd_same⟩
        | some s =>
          rw [show (some s).isSome = true from rfl]
          walk_at "g"
          exact hnx _ _ ⟨_, _, rfl, x4.trans x5, by rw [hf, edr]; rfl⟩
      · rintro σ' H' ⟨s2, s3, rfl, x3, hf⟩
        rw [List.drop_of_length_le (by omega)] at hf
        have hf : firstN 0 rs = none := hf
        obtain ⟨ss, rfl⟩ := firstN_none hf
        rw [List.length_map] at hl h5
        have hp3 := seq_keep hp x3
        walk_at "g"
        refine g_seqG ?_
        walk_at "g"
        refine ⟨p, xs, rfl, seq_a hp3, fun J hJ D hD => ?_⟩
        refine lc_new xs (fun i y H2 => ∃ t, y = .ref t ∧ ∀ s, ss[i]? = some s → SC (cadr mg "Test") H2 t s) hD (fun H2 k2 => hJ H2 (seq_same hp3 k2)) (by omega) ?_ ?_ ?_
        · rintro i y Ha Hb ⟨zs, hz⟩ ⟨t, rfl, h1⟩ hk
          exact ⟨t, rfl, fun s hs => (h1 s hs).keepT fun q o n h => hk q o (fun e => n zs (by rw [e, hz] at h; injection h with h; exact h.symm)) h⟩
        · intro i y Hh R S hy kh _ hR
          obtain ⟨s, hs1⟩ : ∃ s, ss[i]? = some s := ⟨_, List.getElem?_eq_getElem (by have := (List.getElem?_eq_some_iff.mp hy).1; omega)⟩
          obtain ⟨q, rfl, hin, hok⟩ := hs i y (some s) hy (by rw [List.getElem?_map, hs1]; rfl)
          walk_at "g"
          refine ⟨rfl, ?_⟩
          walk_at "g"
          exact ⟨q, s, rfl, hin.keep (x3.trans kh), hok, fun t H5 x5 hc => hR _ _ x5 ⟨t, rfl, fun s' hs' => by
            rw [hs1] at hs'
            injection hs' with hs'
            rw [← hs']; exact hc⟩⟩
        · intro H2 ys x2 hW hyl hys
          obtain ⟨ts, rfl, hts⟩ := refs_of (H := H2) (R := fun t i => ∀ s, ss[i]? = some s → SC (cadr mg "Test") H2 t s) hys
          rw [List.length_map] at hyl
          walk_at "g"
          refine g_tupL (SqL.of hW) fun t ht => ?_
          have xA : XT H H2 := XT.trans x3 x2
          have xB : XT H2 (upd H2 t (.tup (ts.map V.ref))) := ext_newO ht
          have et : (upd H2 t (.tup (ts.map V.ref))) t = some (.tup (ts.map V.ref)) := upd_same
          generalize upd H2 t (.tup (ts.map V.ref)) = H6 at xB et
          have hx6 := xB _ _ (xA _ _ hx)
          walk_at "g"
          refine ⟨x, _, dx, _, rfl, hx6, T.cl_Plan, T.n_Plan_course, by decide, ?_⟩
          walk_at "g"
          have kN : ∀ q o, q ≠ x → H6 q = some o → (upd H6 x (.ins (cadr mg "Plan") dx (putF ("course" : Str) (V.ref t) []))) q = some o := fun q o n h => by rw [upd_ne n]; exact h
          refine kQ ss rfl (by rw [hd0, hf]; rfl) _ (fun q o n h => kN q o n (xB _ _ (xA _ _ h))) ⟨dx, _, t, ts, upd_same, by rfl, by rfl, by rfl, kN _ _ (fun z => by rw [z, hx6] at et; cases et) et, by omega, fun i u s hu hs => ?_⟩
          have h1 := (hts i u hu s hs).keepT (.of xB)
          cases s with
          | keep t a =>
            obtain ⟨a1, a2⟩ := h1
            exact ⟨kN _ _ (fun z => by rw [z, hx6] at a1; cases a1) a1, a2.keepN kN fun o ho => by
              rw [hx6] at ho
              injection ho with ho
              subst ho
              exact ⟨fun dx l e => by injection e with _ _ e; exact e.symm, fun l e => by cases e⟩⟩
          | sort o =>
            obtain ⟨v, a, qs, b1, b2, b3⟩ := h1
            have nt : ∀ {b : Addr} {l : List V}, H6 b = some (.tup l) → (upd H6 x (.ins (cadr mg "Plan") dx (putF ("course" : Str) (V.ref t) []))) b = some (.tup l) := fun {b l} h => kN _ _ (fun z => by rw [z, hx6] at h; cases h) h
            exact ⟨v, nt a, qs, nt b1, b2, fun i q c hq hc => nt (b3 i q c hq hc)⟩
          | dist ns =>
            obtain ⟨v, a, b⟩ := h1
            have nt : ∀ {b : Addr} {l : List V}, H6 b = some (.tup l) → (upd H6 x (.ins (cadr mg "Plan") dx (putF ("course" : Str) (V.ref t) []))) b = some (.tup l) := fun {b l} h => kN _ _ (fun z => by rw [z, hx6] at h; cases h) h
            exact ⟨v, nt a, nt b⟩
          | first =>
            have a1 : H6 u = some (.tup [.str "first"]) := h1
            exact kN _ _ (fun z => by rw [z, hx6] at a1; cases a1) a1
          | flip =>
            have a1 : H6 u = some (.tup [.str "flip"]) := h1
            exact kN _ _ (fun z => by rw [z, hx6] at a1; cases a1) a1
theorem ok_Plan_steps (T : TxtW w K mg) : DefM P w K mg base 1 (cadr mg "Plan") "steps" ["self"] (fun vs H Q _ => ∃ (x : Addr) (ss : List Sx), vs = [.ref x] ∧ PlanAt (cadr mg "Plan") (cadr mg "Test") H ss x ∧ ∀ (l : Addr) (ts : List Addr), H l = none → ts.length = ss.length → (∀ (i : Nat) t s, ts[i]? = some t → ss[i]? = some s → SC (cadr mg "Test") H t s) → Q (.ref l) (upd H l (.lst (ts.map V.ref)))) := by
  obtain ⟨f, fd, h⟩ := T.d_Plan_steps
  refine h.def (Fun.okM h.fn sc_Plan_steps (fun vs H Q E h => ?_) (fun cdv A outer s H vs Q E hr h => ?_))
  · obtain ⟨x, ss, rfl, _⟩ := h
    rfl
  · obtain ⟨x, ss, rfl, hP, k⟩ := h
    obtain ⟨dx, fs, T0, ts, h1, h2, h3, h3', h4, h5, h6⟩ := hP
    refine ⟨_, (pss_one (ps_ret (pe_callTy (call_listG (K := K) rfl) (by rfl) T.h_list (by decide +kernel) (pa_cons (pe_fldG (K := K) rfl (pv 0) rfl) pa_nil)))), ?_⟩
    walk_at "g"
    refine ⟨x, _, dx, _, _, rfl, h1, T.cl_Plan, T.n_Plan_course, h2, ?_⟩
    refine ⟨T0, _, rfl, .inr (SqT.of h4), fun l hl => ?_⟩
    walk_at "g"
    exact k l ts hl h5 h6
theorem ok_Plan_len (T : TxtW w K mg) : DefM P w K mg base 1 (cadr mg "Plan") "__len__" ["self"] (fun vs H Q _ => ∃ (x : Addr) (ss : List Sx), vs = [.ref x] ∧ PlanAt (cadr mg "Plan") (cadr mg "Test") H ss x ∧ Q (.int (ss.length : Nat)) H) := by
  obtain ⟨f, fd, h⟩ := T.d_Plan_len
  refine h.def (Fun.okM h.fn sc_Plan_len (fun vs H Q E h => ?_) (fun cdv A outer s H vs Q E hr h => ?_))
  · obtain ⟨x, ss, rfl, _⟩ := h
    rfl
  · obtain ⟨x, ss, rfl, hP, k⟩ := h
    obtain ⟨dx, fs, T0, ts, h1, h2, h3, h3', h4, h5, h6⟩ := hP
    refine ⟨_, (pss_one (ps_ret (pe_callB (call_lenG (K := K) rfl) (by rfl) T.h_len (by decide +kernel) (pa_cons (pe_fldG (K := K) rfl (pv 0) rfl) pa_nil)))), ?_⟩
    walk_at "g"
    refine ⟨x, _, dx, _, _, rfl, h1, T.cl_Plan, T.n_Plan_course, h2, ?_⟩
    refine g_lenT (SqT.of h4) ?_
    walk_at "g"
    rw [List.length_map, h5]
    exact k
theorem ok_Plan_eq (T : TxtW w K mg) : DefM P w K mg base 1 (cadr mg "Plan") "__eq__" ["self", "other"] (spPeq (cadr mg "Plan") (cadr mg "Test")) := by
  obtain ⟨f, fd, h⟩ := T.d_Plan_eq
  refine h.def (Fun.okM h.fn sc_Plan_eq (fun vs H Q E h => ?_) (fun cdv A outer s H vs Q E hr h => ?_))
  · obtain ⟨x, ss, y, rfl, _⟩ := h
    rfl
  · obtain ⟨x, ss, y, rfl, hP, hy⟩ := h
    obtain ⟨dx, fs, T0, ts, h1, h2, h3, h3', h4, h5, h6⟩ := hP
    refine ⟨_, (pss_one (ps_ret (pe_and (pe_callB (call_isiG (K := K) rfl) (by rfl) T.h_isinstance (by decide +kernel) (pa_cons (pv 1) (pa_cons (pe_cls rfl T.e_Plan) pa_nil))) (pe_one (pe_cmpR (op_eqNest (K := K) rfl (hu64_of hr)) (pe_fldG (K := K) rfl (pv 0) rfl) (pe_fldG (K := K) rfl (pv 1) rfl) (nomark _)))))), ?_⟩
    have items : ∀ {us : List Addr} {ss' : List Sx}, us.length = ss'.length → (∀ (i : Nat) t s, us[i]? = some t → ss'[i]? = some s → SC (cadr mg "Test") H t s) → (∀ (i : Nat) s, ss[i]? = some s → ss'[i]? = some s) → ∀ (i : Nat) x y, (ts.map V.ref)[i]? = some x → (us.map V.ref)[i]? = some y → EqNest K H 4 x y true := by
      intro us ss' hl hc hss i x y hx hy
      rw [List.getElem?_map] at hx hy
      obtain ⟨p, hp, rfl⟩ := Option.map_eq_some_iff.mp hx
      obtain ⟨q, hq, rfl⟩ := Option.map_eq_some_iff.mp hy
      obtain ⟨s, hs⟩ : ∃ s, ss[i]? = some s := ⟨_, List.getElem?_eq_getElem (by have := (List.getElem?_eq_some_iff.mp hp).1; omega)⟩
      exact sc_eq (h6 i p s hp hs) (hc i q s hq (hss i s hs))
    rcases hy with ⟨x2, rfl, hP2, k⟩ | ⟨x2, s, rfl, hP2, k⟩ | ⟨Tn, hT, ty, k⟩
    · obtain ⟨dx2, fs2, T2, ts2, g1, g2, g3, g3', g4, g5, g6⟩ := hP2
      walk_at "g"
      refine g_isOwn T.is_Plan T.cl_Plan g1 ?_
      walk_at "g"
      refine ⟨x, _, dx, _, _, rfl, h1, T.cl_Plan, T.n_Plan_course, h2, ?_⟩
      walk_at "g"
      refine ⟨x2, _, dx2, _, _, rfl, g1, T.cl_Plan, T.n_Plan_course, g2, ?_⟩
      refine ⟨4, true, by decide, .inl ⟨T0, T2, _, _, fun _ => true, rfl, rfl, SqT.of h4, SqT.of g4, items g5 g6 fun i s h => h, ?_⟩, ?_⟩
      · rw [all_true, List.length_map, List.length_map, h5, g5, beq_self_eq_true]
        rfl
      · exact k
    · obtain ⟨dx2, fs2, T2, ts2, g1, g2, g3, g3', g4, g5, g6⟩ := hP2
      walk_at "g"
      refine g_isOwn T.is_Plan T.cl_Plan g1 ?_
      walk_at "g"
      refine ⟨x, _, dx, _, _, rfl, h1, T.cl_Plan, T.n_Plan_course, h2, ?_⟩
      walk_at "g"
      refine ⟨x2, _, dx2, _, _, rfl, g1, T.cl_Plan, T.n_Plan_course, g2, ?_⟩
      refine ⟨4, false, by decide, .inl ⟨T0, T2, _, _, fun _ => true, rfl, rfl, SqT.of h4, SqT.of g4, items g5 g6 fun i s h => ?_, ?_⟩, ?_⟩
      · rw [List.getElem?_append_left (List.getElem?_eq_some_iff.mp h).1]
        exact h
      · rw [List.length_append] at g5
        have g5 : ts2.length = ss.length + 1 := g5
        rw [List.length_map, List.length_map, h5, g5, show (ss.length == ss.length + 1) = false by simp, Bool.and_false]
      · exact k
    · walk_at "g"
      refine g_isNot T.is_Plan (ty.x K) hT ?_
      walk_at "g"
      exact k
end
theorem for_textA {σ : L2.St} {H : Hp} {D : Ends} {z : Str} {g : TG} {tb : TS} (Pv : Nat → L2.St → Hp → Prop) (h0 : Pv 0 σ H)
    (hs : ∀ i n σ H (D' : Ends), z.cps.toList[i]? = some n → Pv i σ H → (∀ σ H, Pv (i + 1) σ H → D'.nx σ H) → (∀ σ H, Pv (i + 1) σ H → D'.ct σ H) → (∀ σ H, D.nx σ H → D'.bk σ H) → D'.rt = D.rt → g (.str ⟨#[n]⟩) σ H fun σ2 H2 => tb D' σ2 H2)
    (hd : ∀ σ H, Pv z.cps.size σ H → D.nx σ H) :
    ∃ W : Nat → Nat → L2.St → Hp → Prop, (∃ m, W 0 m σ H) ∧ ∀ i m σ H, W i m σ H →
      ((Its z).stop i H ∧ D.nx σ H) ∨ ((Its z).go i H ∧ ∃ N : L2.St → Hp → Prop, (∀ σ' H', N σ' H' → ∃ m', m' < m ∧ W (i + 1) m' σ' H') ∧ ∀ x H', (Its z).yld i H x H' → g x σ H' fun σ2 H2 => tb { D with nx := N, ct := N, bk := D.nx } σ2 H2) := by
  refine ⟨fun i m σ H => m = z.cps.size - i ∧ i ≤ z.cps.size ∧ Pv i σ H, ⟨z.cps.size, by simp, Nat.zero_le _, h0⟩, ?_⟩
  rintro i m σ H ⟨rfl, hi, p⟩
  by_cases hlt : i < z.cps.size
  · refine .inr ⟨hlt, Pv (i + 1), fun σ' H' q => ⟨z.cps.size - (i + 1), by omega, rfl, hlt, q⟩, fun x H' y => ?_⟩
    obtain ⟨rfl, n, hn, rfl⟩ := y
    exact hs i n σ H' { D with nx := Pv (i + 1), ct := Pv (i + 1), bk := D.nx } (by rw [Array.getElem?_toList]; exact hn) p (fun _ _ h => h) (fun _ _ h => h) (fun _ _ h => h) rfl
  · have e : i = z.cps.size := by omega
    subst e
    exact .inl ⟨Nat.le_refl _, hd σ H p⟩
section
variable {P : Program} {w : World} {K : PySem.W.Frag} {mg : Str → Option Value} {base : Heap}
theorem ok__law_is_name (T : TxtW w K mg) : Def P w K mg base 1 "_law_is_name" ["_law_thing"] (spThingB nameB) := by
  obtain ⟨f, fd, h⟩ := T.d__law_is_name
  refine h.def (Fun.okM h.fn sc__law_is_name (fun vs H Q E h => ?_) (fun cdv A outer s H vs Q E hr h => ?_))
  · obtain ⟨x, rfl, _⟩ := h
    rfl
  · obtain ⟨x, rfl, hx, k⟩ := h
    have k' := k H fun _ _ h => h
    refine ⟨_, (pss_cons (ps_if (PW.pt (pw_or (pt_not (pt_val (pe_callB (call_isiG (K := K) rfl) (by rfl) T.h_isinstance (by decide +kernel) (pa_cons (pv 0) (pa_cons (pe_bltn (v := .ty "str") (by rfl) T.h_str (by decide +kernel) rfl) pa_nil))))) (pw_or (pt_cmpR op_ltG (pe_callB (call_lenG (K := K) rfl) (by rfl) T.h_len (by decide +kernel) (pa_cons (pv 0) pa_nil)) pe_int (nomark _)) (pw_or1 (pt_cmpR op_gtG (pe_callB (call_lenG (K := K) rfl) (by rfl) T.h_len (by decide +kernel) (pa_cons (pv 0) pa_nil)) pe_int (nomark _))))))
  (pss_one (ps_ret pe_bl))
  pss_nil)
  (pss_cons (ps_if (pt_cmpR (op_inG (K := K) rfl) (pv 0) (pe_lst (pa_cons pe_str (pa_cons pe_str (pa_cons pe_str (pa_cons pe_str (pa_cons pe_str (pa_cons pe_str (pa_cons pe_str (pa_cons pe_str (pa_cons pe_str (pa_cons pe_str pa_nil))))))))))) (by rfl))
  (pss_one (ps_ret pe_bl))
  pss_nil)
  (pss_cons (ps_for PassesOwn.never rfl (pi_str (pv 0)) (pg_name (i := 1) sc__law_is_name.nd rfl (Or.inl rfl))
  (pss_one (ps_if (pt_cmpR (op_notInG (K := K) rfl) (pv 1) pe_str (by rfl))
  (pss_one (ps_ret pe_bl))
  pss_nil)))
  (pss_one (ps_ret (pe_cmpR (op_notInG (K := K) rfl) (pe_ix (ix_seqG (K := K) rfl) (pv 0) pe_int (fun _ _ => rfl)) pe_str (by rfl))))))), ?_⟩
    rcases hx with rfl | ⟨b, rfl⟩ | ⟨i, rfl⟩ | ⟨z, rfl, hz⟩ | ⟨p, rfl, hp⟩
    case inr.inr.inr.inl =>
      have hzl : z.cps.toList.length = z.length := Array.length_toList
      walk_at "g"
      refine g_lenS (by rw [sizeLine_eq]; omega) ?_
      walk_at "g"
      have no : ∀ H', XT H H' → ¬ nameP z → Q (.bl false) H' := fun H' x h => by rw [← nameB_no h]; exact k H' x
      refine g_dec (fun h0 => ?_) (fun h0 => ?_)
      · walk_at "g"
        exact no _ XT.refl fun n => n.1 (by omega)
      walk_at "g"
      refine g_lenS (by rw [sizeLine_eq]; omega) ?_
      walk_at "g"
      refine g_dec (fun h8 => ?_) (fun h8 => ?_)
      · walk_at "g"
        exact no _ XT.refl fun n => by have := n.2.1; omega
      walk_at "g"
      refine ⟨by show 10 ≤ sizeLine; decide, fun q hq => ?_⟩
      have hfl : (keptWords.map V.str) = [V.str (Str.ofString "and"), V.str (Str.ofString "or"), V.str (Str.ofString "not"), V.str (Str.ofString "sure"), V.str (Str.ofString "in"), V.str (Str.ofString "is"), V.str (Str.ofString "empty"), V.str (Str.ofString "begins"), V.str (Str.ofString "always"), V.str (Str.ofString "never")] := rfl
      rw [← hfl]
      have xq : XT H (upd H q (.lst (keptWords.map V.str))) := XT.refl.new hq
      refine .inr ⟨_, keptWords.map V.str, rfl, .inl (SqL.of upd_same), rfl, Tw.flat_strs _, ?_⟩
      rw [if_neg Bool.false_ne_true, inV_strs]
      walk_at "g"
      generalize upd H q (.lst (keptWords.map V.str)) = H1 at xq
      refine g_dec (fun hk => ?_) (fun hk => ?_)
      · walk_at "g"
        exact no _ xq fun n => n.2.2.2.1 hk
      walk_at "g"
      have hsg : (Str.ofString "abcdefghijklmnopqrstuvwxyz0123456789").cps.toList = nameSigns := rfl
      refine for_textA (fun i σ' H' => ∃ s1 : Option V, σ' = [some (.str z), s1] ∧ H' = H1 ∧ ∀ j c, j < i → z.cps.toList[j]? = some c → c ∈ nameSigns) ⟨none, rfl, rfl, fun j c h => absurd h (Nat.not_lt_zero j)⟩ ?_ ?_
      · rintro i n σ' H' D' hn ⟨s1, rfl, rfl, hin⟩ hnx hct hbk hrt
        walk_at "g"
        rw [hsg]
        refine g_ndec (fun hm => ?_) (fun hm => ?_)
        · walk_at "g"
          rw [hrt]
          exact no _ xq fun h => hm (h.2.2.2.2 n (List.mem_of_getElem? hn))
        · walk_at "g"
          refine hnx _ _ ⟨_, rfl, rfl, fun j c hj hc => ?_⟩
          by_cases e : j = i
          · subst e
            rw [hn] at hc
            injection hc with hc
            rw [← hc]; exact hm
          · exact hin j c (by omega) hc
      · rintro σ' H' ⟨s1, rfl, rfl, hin⟩
        obtain ⟨c, r, hcr⟩ : ∃ c r, z.cps.toList = c :: r := by
          cases e : z.cps.toList with
          | nil => rw [e] at hzl; simp at hzl; omega
          | cons c r => exact ⟨c, r, rfl⟩
        have all : ∀ c ∈ z.cps.toList, c ∈ nameSigns := fun c hc => by
          obtain ⟨j, hj⟩ := List.getElem?_of_mem hc
          have := (List.getElem?_eq_some_iff.mp hj).1
          exact hin j c (by have e : z.cps.size = z.cps.toList.length := Array.length_toList.symm
                            omega) hj
        have dig : ∀ c ∈ nameSigns, (c ∈ letters ↔ ¬ c ∈ (Str.ofString "0123456789").cps.toList) := by decide +kernel
        walk_at "g"
        refine g_ixS (n := c) (by rw [sizeLine_eq]; omega) (atI_nat (j := 0) (by rw [hcr]; rfl)) ?_
        walk_at "g"
        have e : nameB (.str z) = !decide (c ∈ (Str.ofString "0123456789").cps.toList) := by
          refine nameB_is ?_
          have hd := dig c (all c (by rw [hcr]; exact List.mem_cons_self))
          constructor
          · intro n
            have := hd.mp (n.2.2.1 c r hcr)
            rw [decide_eq_false this]; rfl
          · intro h
            have h' : ¬ c ∈ (Str.ofString "0123456789").cps.toList := fun hm => by rw [decide_eq_true hm] at h; cases h
            exact ⟨by omega, by omega, fun c' r' e' => by rw [hcr] at e'; injection e' with e1 _; rw [← e1]; exact hd.mpr h', hk, all⟩
        rw [← e]
        exact k _ xq
    all_goals (walk_at "g"; exact k')
end
theorem for_fitsA {σ : L2.St} {H : Hp} {D : Ends} {J : It} {xs : List V} {g : TG} {tb : TS} (Pv : Nat → L2.St → Hp → Prop) (h0 : Pv 0 σ H) (hl : ∀ i σ H, i ≤ xs.length → Pv i σ H → Fits J xs H)
    (hs : ∀ i x σ H (D' : Ends), xs[i]? = some x → Pv i σ H → (∀ σ H, Pv (i + 1) σ H → D'.nx σ H) → (∀ σ H, Pv (i + 1) σ H → D'.ct σ H) → (∀ σ H, D.nx σ H → D'.bk σ H) → D'.rt = D.rt → g x σ H fun σ2 H2 => tb D' σ2 H2) (hd : ∀ σ H, Pv xs.length σ H → D.nx σ H) :
    ∃ W : Nat → Nat → L2.St → Hp → Prop, (∃ m, W 0 m σ H) ∧ ∀ i m σ H, W i m σ H →
      (J.stop i H ∧ D.nx σ H) ∨ (J.go i H ∧ ∃ N : L2.St → Hp → Prop, (∀ σ' H', N σ' H' → ∃ m', m' < m ∧ W (i + 1) m' σ' H') ∧ ∀ x H', J.yld i H x H' → g x σ H' fun σ2 H2 => tb { D with nx := N, ct := N, bk := D.nx } σ2 H2) := by
  refine ⟨fun i m σ H => m = xs.length - i ∧ i ≤ xs.length ∧ Pv i σ H, ⟨xs.length, by simp, Nat.zero_le _, h0⟩, ?_⟩
  rintro i m σ H ⟨rfl, hi, p⟩
  have fi := hl i σ H hi p
  by_cases hlt : i < xs.length
  · refine .inr ⟨fi.go i hlt, Pv (i + 1), fun σ' H' q => ⟨xs.length - (i + 1), by omega, rfl, hlt, q⟩, fun x H' y => ?_⟩
    obtain ⟨rfl, hx⟩ := fi.yld i x H' y
    exact hs i x σ _ { D with nx := Pv (i + 1), ct := Pv (i + 1), bk := D.nx } hx p (fun _ _ h => h) (fun _ _ h => h) (fun _ _ h => h) rfl
  · have e : i = xs.length := by omega
    subst e
    exact .inl ⟨fi.stop _ (Nat.le_refl _), hd σ H p⟩
theorem g_isSeq {K : PySem.W.Frag} {H' : Hp} {v : V} {Tn : String} {t : Addr} {b : Bool} {Q : VK} (hT : Tn ∈ kinds7) (ty : TyX K H' v (.type Tn)) (e : H' t = some (.tup [.ty "list", .ty "tuple"])) (hb : decide (Tn = "list" ∨ Tn = "tuple") = b) (q : Q (.bl b) H') : rIsiT K [v, .ref t] H' Q := by
  subst hb
  exact ⟨v, t, _, _, _, _, rfl, e, .cons (.ty "list") (.cons (.ty "tuple") .nil), ty, kit_seq Tn hT, q⟩
theorem sz2 : ([.ty "list", .ty "tuple"] : List V).length ≤ sizeLine := by show 2 ≤ sizeLine; decide
theorem szN {n : Nat} (h : n ≤ 100) : n ≤ sizeLine := by rw [sizeLine_eq]; omega
theorem bad_take_none {S : List Str} {rs : List (Option (Str × Bool))} {i : Nat} (h : bad S i rs ≠ none) : (∃ j, bad S i rs = some j) := by
  cases e : bad S i rs with
  | none => exact absurd e h
  | some j => exact ⟨j, rfl⟩
/-- a step that the law has made -/
def spMade (C : Addr) : Sp := fun vs H Q _ => ∃ (q : Addr) (s : LS), vs = [.ref q] ∧ StFm H q s ∧ LOk s ∧ ∀ t x H', XT H H' → XOk x → (∀ S : List Addr, (∀ a ∈ S, H a ≠ none) → SIn C S H' t x) → Q (.ref t) H'
section
variable {P : Program} {w : World} {K : PySem.W.Frag} {mg : Str → Option Value} {base : Heap}
theorem ok__law_int (T : TxtW w K mg) : Def P w K mg base 1 "_law_int" ["_law_thing"] (fun vs H Q _ => ∃ i, vs = [.int i] ∧ Q (.bl true) H) := by
  obtain ⟨f, fd, h⟩ := T.d__law_int
  refine h.def (Fun.okM h.fn sc__law_int (fun vs H Q E h => ?_) (fun cdv A outer s H vs Q E hr h => ?_))
  · obtain ⟨i, rfl, _⟩ := h
    rfl
  · obtain ⟨i, rfl, k⟩ := h
    refine ⟨_, (pss_one (ps_ret (pe_and (pe_callB (call_isiG (K := K) rfl) (by rfl) T.h_isinstance (by decide +kernel) (pa_cons (pv 0) (pa_cons (pe_bltn (v := .ty "int") (by rfl) T.h_int (by decide +kernel) rfl) pa_nil))) (pe_one (pe_not (pe_callB (call_isiG (K := K) rfl) (by rfl) T.h_isinstance (by decide +kernel) (pa_cons (pv 0) (pa_cons (pe_bltn (v := .ty "bool") (by rfl) T.h_bool (by decide +kernel) rfl) pa_nil)))))))), ?_⟩
    walk_at "g"
    exact k
theorem ok__law_made_step (T : TxtW w K mg) : Def P w K mg base 11 "_law_made_step" ["_law_step_here"] (spMade (cadr mg "Test")) := by
  obtain ⟨f, fd, h⟩ := T.d__law_made_step
  refine h.def (Fun.okM h.fn sc__law_made_step (fun vs H Q E h => ?_) (fun cdv A outer s H vs Q E hr h => ?_))
  · obtain ⟨q, s, rfl, _⟩ := h
    rfl
  · obtain ⟨q, s, rfl, hq, hs, k⟩ := h
    refine ⟨_, (pss_cons (ps_if (pt_cmpR op_eq (pe_ix (ix_seqG (K := K) rfl) (pv 0) pe_int (fun _ _ => rfl)) pe_str (nomark _))
  (pss_one (ps_ret (pe_tup (pa_cons (pe_ix (ix_seqG (K := K) rfl) (pv 0) pe_int (fun _ _ => rfl)) (pa_cons (pe_def (ok__law_make T) hr rfl (pa_cons (pe_ix (ix_seqG (K := K) rfl) (pv 0) pe_int (fun _ _ => rfl)) pa_nil)) pa_nil)))))
  pss_nil)
  (pss_cons (ps_if (pt_cmpR op_eq (pe_callB (call_lenG (K := K) rfl) (by rfl) T.h_len (by decide +kernel) (pa_cons (pv 0) pa_nil)) pe_int (nomark _))
  (pss_one (ps_ret (pe_tup (pa_cons (pe_ix (ix_seqG (K := K) rfl) (pv 0) pe_int (fun _ _ => rfl)) (pa_cons (pe_callTy (call_listG (K := K) rfl) (by rfl) T.h_list (by decide +kernel) (pa_cons (pe_ix (ix_seqG (K := K) rfl) (pv 0) pe_int (fun _ _ => rfl)) pa_nil)) pa_nil)))))
  pss_nil)
  (pss_one (ps_ret (pe_tup (pa_cons (pe_ix (ix_seqG (K := K) rfl) (pv 0) pe_int (fun _ _ => rfl)) pa_nil)))))), ?_⟩
    walk_at "g"
    cases s with
    | keep a =>
      obtain ⟨t, ht, hA⟩ := id hq
      obtain ⟨κ, hw⟩ := hs
      refine g_ixT (SqT.of ht) (v := .str "keep") (by rfl) ?_
      walk_at "g"
      refine g_dec (fun _ => ?_) (fun h => absurd rfl h)
      walk_at "g"
      refine g_ixT (SqT.of ht) (v := .str "keep") (by rfl) ?_
      walk_at "g"
      refine g_ixT (SqT.of ht) (v := .ref t) (by rfl) ?_
      walk_at "g"
      refine ⟨t, a, κ, rfl, hA, hw, fun te H1 x1 hT => ?_⟩
      walk_at "g"
      refine ⟨by show 2 ≤ sizeLine; decide, fun p hp => ?_⟩
      walk_at "g"
      exact k p (.keep te a) _ (fun q u h => ext_new hp _ _ (x1 _ _ h)) ⟨κ, hw⟩ fun S hS => ⟨.inr upd_same, hT.keep (ext_new hp)⟩
    | sort o =>
      obtain ⟨l, hl, hL⟩ := id hq
      obtain ⟨qs, h1, h2, h3⟩ := id hL
      rw [List.length_map] at h2
      refine g_ixT (SqT.of hl) (v := .str "sort") (by rfl) ?_
      walk_at "g"
      refine g_dec (fun h => absurd h (show ("sort" : Str) ≠ "keep" by decide +kernel)) (fun _ => ?_)
      walk_at "g"
      refine g_lenT (SqT.of hl) ?_
      walk_at "g"
      refine g_dec (fun _ => ?_) (fun h => absurd rfl h)
      walk_at "g"
      refine g_ixT (SqT.of hl) (v := .str "sort") (by rfl) ?_
      walk_at "g"
      refine g_ixT (SqT.of hl) (v := .ref l) (by rfl) ?_
      walk_at "g"
      refine ⟨l, _, rfl, .inl (SqL.of h1), fun l2 hl2 => ?_⟩
      walk_at "g"
      refine ⟨by show 2 ≤ sizeLine; decide, fun p hp => ?_⟩
      walk_at "g"
      exact k p (.sort o) _ (fun q u h => ext_new hp _ _ (ext_new hl2 _ _ h)) hs fun S hS => ⟨l2, .inr upd_same, qs, .inl ⟨ext_new hp _ _ upd_same, fun m => hS _ m hl2⟩, h2, fun i q c hq hc => ext_new hp _ _ (ext_new hl2 _ _ (h3 i q (pt c) hq (by rw [List.getElem?_map, hc]; rfl)))⟩
    | dist ns =>
      obtain ⟨l, hl, h1⟩ := id hq
      refine g_ixT (SqT.of hl) (v := .str "distinct") (by rfl) ?_
      walk_at "g"
      refine g_dec (fun h => absurd h (show ("distinct" : Str) ≠ "keep" by decide +kernel)) (fun _ => ?_)
      walk_at "g"
      refine g_lenT (SqT.of hl) ?_
      walk_at "g"
      refine g_dec (fun _ => ?_) (fun h => absurd rfl h)
      walk_at "g"
      refine g_ixT (SqT.of hl) (v := .str "distinct") (by rfl) ?_
      walk_at "g"
      refine g_ixT (SqT.of hl) (v := .ref l) (by rfl) ?_
      walk_at "g"
      refine ⟨l, _, rfl, .inl (SqL.of h1), fun l2 hl2 => ?_⟩
      walk_at "g"
      refine ⟨by show 2 ≤ sizeLine; decide, fun p hp => ?_⟩
      walk_at "g"
      exact k p (.dist ns) _ (fun q u h => ext_new hp _ _ (ext_new hl2 _ _ h)) hs fun S hS => ⟨l2, .inr upd_same, .inl ⟨ext_new hp _ _ upd_same, fun m => hS _ m hl2⟩⟩
    | first =>
      have hl : H q = some (.tup [.str "first"]) := hq
      refine g_ixT (SqT.of hl) (v := .str "first") (by rfl) ?_
      walk_at "g"
      refine g_dec (fun h => absurd h (show ("first" : Str) ≠ "keep" by decide +kernel)) (fun _ => ?_)
      walk_at "g"
      refine g_lenT (SqT.of hl) ?_
      walk_at "g"
      refine g_dec (fun h => absurd h (by decide)) (fun _ => ?_)
      walk_at "g"
      refine g_ixT (SqT.of hl) (v := .str "first") (by rfl) ?_
      walk_at "g"
      refine ⟨by show 1 ≤ sizeLine; decide, fun p hp => ?_⟩
      walk_at "g"
      exact k p .first _ (ext_new hp) True.intro fun S hS => .inr upd_same
    | flip =>
      have hl : H q = some (.tup [.str "flip"]) := hq
      refine g_ixT (SqT.of hl) (v := .str "flip") (by rfl) ?_
      walk_at "g"
      refine g_dec (fun h => absurd h (show ("flip" : Str) ≠ "keep" by decide +kernel)) (fun _ => ?_)
      walk_at "g"
      refine g_lenT (SqT.of hl) ?_
      walk_at "g"
      refine g_dec (fun h => absurd h (by decide)) (fun _ => ?_)
      walk_at "g"
      refine g_ixT (SqT.of hl) (v := .str "flip") (by rfl) ?_
      walk_at "g"
      refine ⟨by show 1 ≤ sizeLine; decide, fun p hp => ?_⟩
      walk_at "g"
      exact k p .flip _ (ext_new hp) True.intro fun S hS => .inr upd_same
theorem ok__law_order_right (T : TxtW w K mg) : Def P w K mg base 2 "_law_order_right" ["_law_thing"] (fun vs H Q _ => ∃ (v : V) (d : Option (List (Option (Str × Bool)))), vs = [v] ∧ ThAt H v d ∧ ∀ H', XT H H' → Q (.bl (dueF d).isNone) H') := by
  obtain ⟨f, fd, h⟩ := T.d__law_order_right
  refine h.def (Fun.okM h.fn sc__law_order_right (fun vs H Q E h => ?_) (fun cdv A outer s H vs Q E hr h => ?_))
  · obtain ⟨v, d, rfl, _⟩ := h
    rfl
  · obtain ⟨v, d, rfl, hT, k⟩ := h
    refine ⟨_, (pss_cons (ps_if (PW.pt (pw_or (pt_not (pt_val (pe_callB call_isiT (by rfl) T.h_isinstance (by decide +kernel) (pa_cons (pv 0) (pa_cons (pe_tup (pa_cons (pe_bltn (v := .ty "list") (by rfl) T.h_list (by decide +kernel) rfl) (pa_cons (pe_bltn (v := .ty "tuple") (by rfl) T.h_tuple (by decide +kernel) rfl) pa_nil))) pa_nil))))) (pw_or (pt_cmpR op_ltG (pe_callB (call_lenG (K := K) rfl) (by rfl) T.h_len (by decide +kernel) (pa_cons (pv 0) pa_nil)) pe_int (nomark _)) (pw_or1 (pt_cmpR op_gtG (pe_callB (call_lenG (K := K) rfl) (by rfl) T.h_len (by decide +kernel) (pa_cons (pv 0) pa_nil)) pe_int (nomark _))))))
  (pss_one (ps_ret pe_bl))
  pss_nil)
  (pss_cons (ps_set (i := 1) sc__law_order_right.nd rfl (Or.inl rfl) (pe_lst pa_nil))
  (pss_cons (ps_for PassesOwn.never rfl (pi_seqG (K := K) rfl (pv 0)) (pg_name (i := 2) sc__law_order_right.nd rfl (Or.inl rfl))
  (pss_cons (ps_if (PW.pt (pw_or (pt_not (pt_val (pe_callB call_isiT (by rfl) T.h_isinstance (by decide +kernel) (pa_cons (pv 2) (pa_cons (pe_tup (pa_cons (pe_bltn (v := .ty "list") (by rfl) T.h_list (by decide +kernel) rfl) (pa_cons (pe_bltn (v := .ty "tuple") (by rfl) T.h_tuple (by decide +kernel) rfl) pa_nil))) pa_nil))))) (pw_or (pt_cmpR op_ne (pe_callB (call_lenG (K := K) rfl) (by rfl) T.h_len (by decide +kernel) (pa_cons (pv 2) pa_nil)) pe_int (nomark _)) (pw_or1 (pt_not (pt_val (pe_def (ok__law_is_name T) hr rfl (pa_cons (pe_ix (ix_seqG (K := K) rfl) (pv 2) pe_int (fun _ _ => rfl)) pa_nil))))))))
  (pss_one (ps_ret pe_bl))
  pss_nil)
  (pss_cons (ps_if (PW.pt (pw_or (pt_not (pt_val (pe_callB (call_isiG (K := K) rfl) (by rfl) T.h_isinstance (by decide +kernel) (pa_cons (pe_ix (ix_seqG (K := K) rfl) (pv 2) pe_int (fun _ _ => rfl)) (pa_cons (pe_bltn (v := .ty "str") (by rfl) T.h_str (by decide +kernel) rfl) pa_nil))))) (pw_or (pt_cmpR (op_notInG (K := K) rfl) (pe_ix (ix_seqG (K := K) rfl) (pv 2) pe_int (fun _ _ => rfl)) (pe_lst (pa_cons pe_str (pa_cons pe_str pa_nil))) (by rfl)) (pw_or1 (pt_cmpR (op_inG (K := K) rfl) (pe_ix (ix_seqG (K := K) rfl) (pv 2) pe_int (fun _ _ => rfl)) (pv 1) (by rfl))))))
  (pss_one (ps_ret pe_bl))
  pss_nil)
  (pss_one (ps_expr (pe_bm PySem.F.plainAttrs_list PySem.F.slot_list_append PySem.F.type_list_append mt_append (pv 1) (pa_cons (pe_ix (ix_seqG (K := K) rfl) (pv 2) pe_int (fun _ _ => rfl)) pa_nil)))))))
  (pss_one (ps_ret pe_bl))))), ?_⟩
    cases hT with
    | nos hT ty n m =>
      walk_at "g"
      refine ⟨sz2, fun t ht => ?_⟩
      have xt : XT H (upd H t (.tup [.ty "list", .ty "tuple"])) := XT.refl.new ht
      walk_at "g"
      refine g_isSeq hT ((ty.keep xt).x K) upd_same (decide_eq_false (fun h => h.elim n m)) ?_
      walk_at "g"
      exact k _ xt
    | seq hp hl hs =>
      rename_i p xs rs
      obtain ⟨Tn, t1, t2, t3⟩ := seq_ty (K := K) hp
      walk_at "g"
      refine ⟨sz2, fun t ht => ?_⟩
      have xt : XT H (upd H t (.tup [.ty "list", .ty "tuple"])) := XT.refl.new ht
      have et : (upd H t (.tup [.ty "list", .ty "tuple"])) t = some (.tup [.ty "list", .ty "tuple"]) := upd_same
      generalize upd H t (.tup [.ty "list", .ty "tuple"]) = H1 at xt et
      walk_at "g"
      refine g_isSeq t1 (t2 _ xt) et t3 ?_
      walk_at "g"
      refine g_lenA (seq_keep hp xt) ?_
      walk_at "g"
      have no : ∀ {H' : Hp} {j : Int}, XT H H' → dueF (some rs) = some j → Q (.bl false) H' := fun {H' j} x e => by
        have := k _ x
        rw [e] at this
        exact this
      refine g_dec (fun h0 => ?_) (fun h0 => ?_)
      · walk_at "g"
        exact no xt (due_bad (by omega))
      walk_at "g"
      refine g_lenA (seq_keep hp xt) ?_
      walk_at "g"
      refine g_dec (fun h4 => ?_) (fun h4 => ?_)
      · walk_at "g"
        exact no xt (due_bad (by omega))
      have hd : dueF (some rs) = (bad [] 0 rs).map Int.ofNat := due_len (by omega)
      walk_at "g"
      refine ⟨Nat.zero_le _, fun N hN => ?_⟩
      have hHN : H N = none := by
        cases e : H N with
        | none => rfl
        | some o => rw [xt _ _ e] at hN; cases hN
      have x2 := xt.new (o := .lst []) hN
      have e2 : (upd H1 N (.lst [])) N = some (.lst []) := upd_same
      generalize upd H1 N (.lst []) = H2 at x2 e2
      walk_at "g"
      refine g_seqG ?_
      walk_at "g"
      refine ⟨p, xs, rfl, seq_a (seq_keep hp x2), fun J hJ => ?_⟩
      refine for_fitsA (xs := xs) (fun i σ' H' => ∃ (s2 : Option V) (cs : List (Str × Bool)), σ' = [some (.ref p), some (.ref N), s2] ∧ XT H H' ∧ H' N = some (.lst ((cs.map (·.1)).map V.str)) ∧ cs.length ≤ i ∧ rs.take i = cs.map some ∧ bad [] 0 rs = bad (cs.map (·.1)) i (rs.drop i)) ⟨none, [], rfl, x2, e2, Nat.le_refl _, rfl, rfl⟩ ?_ ?_ ?_
      · rintro i σ' H' hi ⟨s2, cs, rfl, x3, _⟩
        exact hJ H' (by rcases hp with h | h <;> rw [x3 _ _ h, x2 _ _ h])
      · rintro i v σ' H3 D' hv ⟨s2, cs, rfl, x3, e3, hcl, htk, hbad⟩ hnx hct hbk hrt
        have hil : i < xs.length := (List.getElem?_eq_some_iff.mp hv).1
        obtain ⟨ro, hro⟩ : ∃ ro, rs[i]? = some ro := ⟨_, List.getElem?_eq_getElem (by omega)⟩
        have edr : rs.drop i = ro :: rs.drop (i + 1) := by
          rw [List.drop_eq_getElem_cons (by omega)]
          congr 1
          exact Option.some.inj (by rw [← hro, List.getElem?_eq_getElem (by omega)])
        have hpt := (hs i v ro hv hro).keep x3
        have out : ∀ {H'}, XT H H' → bad [] 0 rs = some i → Q (.bl false) H' := fun {H'} x e => no (j := Int.ofNat i) x (by rw [hd, e]; rfl)
        walk_at "g"
        refine ⟨sz2, fun t4 ht4 => ?_⟩
        have x4 := x3.new (o := .tup [.ty "list", .ty "tuple"]) ht4
        have y4 : XT H3 (upd H3 t4 (.tup [.ty "list", .ty "tuple"])) := XT.refl.new ht4
        have et4 : (upd H3 t4 (.tup [.ty "list", .ty "tuple"])) t4 = some (.tup [.ty "list", .ty "tuple"]) := upd_same
        have e4 := y4 _ _ e3
        replace hpt := hpt.keep y4
        generalize upd H3 t4 (.tup [.ty "list", .ty "tuple"]) = H4 at x4 y4 et4 e4 hpt
        walk_at "g"
        cases hpt with
        | nos hT ty n m =>
          refine g_isSeq hT (ty.x K) et4 (decide_eq_false (fun h => h.elim n m)) ?_
          walk_at "g"
          rw [hrt]
          exact out x4 (by rw [hbad, edr]; rfl)
        | len hq n =>
          obtain ⟨Tn, h1, h2, h3⟩ := seq_ty (K := K) hq
          refine g_isSeq h1 (h2 _ XT.refl) et4 h3 ?_
          walk_at "g"
          refine g_lenA hq ?_
          walk_at "g"
          refine g_ndec (fun hne => ?_) (fun hne => absurd hne (by omega))
          walk_at "g"
          rw [hrt]
          exact out x4 (by rw [hbad, edr]; rfl)
        | nam hq hx n =>
          rename_i q x y
          obtain ⟨Tn, h1, h2, h3⟩ := seq_ty (K := K) (.inr hq)
          refine g_isSeq h1 (h2 _ XT.refl) et4 h3 ?_
          walk_at "g"
          refine g_lenT (SqT.of hq) ?_
          walk_at "g"
          refine g_ndec (fun hne => absurd rfl hne) (fun _ => ?_)
          walk_at "g"
          refine g_ixT (SqT.of hq) (v := x) (show atI [x, y] 0 = some x from rfl) ?_
          walk_at "g"
          refine ⟨_, rfl, hx, fun H5 x5 => ?_⟩
          rw [n]
          walk_at "g"
          rw [hrt]
          exact out (x4.trans x5) (by rw [hbad, edr]; rfl)
        | dir hq hz hy =>
          rename_i q z y
          obtain ⟨Tn, h1, h2, h3⟩ := seq_ty (K := K) (.inr hq)
          refine g_isSeq h1 (h2 _ XT.refl) et4 h3 ?_
          walk_at "g"
          refine g_lenT (SqT.of hq) ?_
          walk_at "g"
          refine g_ndec (fun hne => absurd rfl hne) (fun _ => ?_)
          walk_at "g"
          refine g_ixT (SqT.of hq) (v := .str z) (show atI [V.str z, y] 0 = some (.str z) from rfl) ?_
          walk_at "g"
          refine ⟨_, rfl, .inr (.inr (.inr (.inl ⟨_, rfl, name100 hz⟩))), fun H5 x5 => ?_⟩
          rw [nameB_str.mpr hz]
          have hq5 := x5 _ _ hq
          walk_at "g"
          rcases hy with ⟨b, rfl⟩ | ⟨s', rfl, n1, n2⟩
          · refine g_ixT (SqT.of hq5) (v := .bl b) (show atI [V.str z, V.bl b] 1 = some (.bl b) from rfl) ?_
            walk_at "g"
            rw [hrt]
            exact out (x4.trans x5) (by rw [hbad, edr]; rfl)
          · refine g_ixT (SqT.of hq5) (v := .str s') (show atI [V.str z, V.str s'] 1 = some (.str s') from rfl) ?_
            walk_at "g"
            refine g_ixT (SqT.of hq5) (v := .str s') (show atI [V.str z, V.str s'] 1 = some (.str s') from rfl) ?_
            walk_at "g"
            refine ⟨by show 2 ≤ sizeLine; decide, fun l hl => ?_⟩
            refine .inr ⟨_, [Str.ofString "up", Str.ofString "down"].map V.str, rfl, .inl (SqL.of upd_same), rfl, Tw.flat_strs _, ?_⟩
            rw [if_pos rfl, inV_strs, decide_eq_false (fun h => by
              rcases List.mem_cons.mp h with h | h
              · exact n1 h
              · exact n2 (List.mem_singleton.mp h))]
            walk_at "g"
            rw [hrt]
            exact out ((x4.trans x5).new hl) (by rw [hbad, edr]; rfl)
        | ok hq hz =>
          rename_i q c
          obtain ⟨Tn, h1, h2, h3⟩ := seq_ty (K := K) (.inr hq)
          refine g_isSeq h1 (h2 _ XT.refl) et4 h3 ?_
          walk_at "g"
          refine g_lenT (SqT.of hq) ?_
          walk_at "g"
          refine g_ndec (fun hne => absurd rfl hne) (fun _ => ?_)
          walk_at "g"
          refine g_ixT (SqT.of hq) (v := .str c.1) (show atI (pt c) 0 = some (.str c.1) from rfl) ?_
          walk_at "g"
          refine ⟨_, rfl, .inr (.inr (.inr (.inl ⟨_, rfl, name100 hz⟩))), fun H5 x5 => ?_⟩
          rw [nameB_str.mpr hz]
          have hq5 := x5 _ _ hq
          have e5 := x5 _ _ e4
          walk_at "g"
          refine g_ixT (SqT.of hq5) (v := .str (dS c.2)) (show atI (pt c) 1 = some (.str (dS c.2)) from rfl) ?_
          walk_at "g"
          refine g_ixT (SqT.of hq5) (v := .str (dS c.2)) (show atI (pt c) 1 = some (.str (dS c.2)) from rfl) ?_
          walk_at "g"
          refine ⟨by show 2 ≤ sizeLine; decide, fun l hl => ?_⟩
          have x6 := (x4.trans x5).new (o := .lst ([Str.ofString "up", Str.ofString "down"].map V.str)) hl
          have y6 : XT H5 (upd H5 l (.lst ([Str.ofString "up", Str.ofString "down"].map V.str))) := XT.refl.new hl
          have e6 := y6 _ _ e5
          have hq6 := y6 _ _ hq5
          have el : (upd H5 l (.lst ([Str.ofString "up", Str.ofString "down"].map V.str))) l = some (.lst ([Str.ofString "up", Str.ofString "down"].map V.str)) := upd_same
          have eL : upd H5 l (.lst [.str (Str.ofString "up"), .str (Str.ofString "down")]) = upd H5 l (.lst ([Str.ofString "up", Str.ofString "down"].map V.str)) := rfl
          rw [eL]
          generalize upd H5 l (.lst ([Str.ofString "up", Str.ofString "down"].map V.str)) = H6 at x6 e6 hq6 el
          refine .inr ⟨_, [Str.ofString "up", Str.ofString "down"].map V.str, rfl, .inl (SqL.of el), rfl, Tw.flat_strs _, ?_⟩
          rw [if_pos rfl, inV_strs, dS_in]
          walk_at "g"
          refine g_ixT (SqT.of hq6) (v := .str c.1) (show atI (pt c) 0 = some (.str c.1) from rfl) ?_
          walk_at "g"
          refine .inr ⟨_, (cs.map (·.1)).map V.str, rfl, .inl (SqL.of e6), rfl, Tw.flat_strs _, ?_⟩
          rw [if_neg Bool.false_ne_true, inV_strs]
          walk_at "g"
          refine g_dec (fun hm => ?_) (fun hm => ?_)
          · walk_at "g"
            rw [hrt]
            exact out x6 (by rw [hbad, edr, bad_in hm])
          · walk_at "g"
            refine g_ixT (SqT.of hq6) (v := .str c.1) (show atI (pt c) 0 = some (.str c.1) from rfl) ?_
            walk_at "g"
            refine hnx _ _ ⟨_, cs ++ [c], rfl, fun q o h => ?_, ?_, by rw [List.length_append]; show _ + 1 ≤ _; omega, ?_, ?_⟩
            · rw [upd_ne (fun z => by rw [z, hHN] at h; cases h)]
              exact x6 _ _ h
            · rw [upd_same, List.map_append, List.map_append]
              rfl
            · rw [List.take_succ, hro, htk, List.map_append]
              rfl
            · rw [hbad, edr, bad_step hm, List.map_append]
              rfl
      · rintro σ' H3 ⟨s2, cs, rfl, x3, e3, hcl, htk, hbad⟩
        walk_at "g"
        have := k _ x3
        rw [hd, hbad, List.drop_of_length_le (by omega)] at this
        exact this
end
theorem kws_two {z : Str} {n : Int} (h : (z, n) ∈ kws) : (n = 1 ∧ z ∈ [Str.ofString "first", Str.ofString "flip"]) ∨ (n = 2 ∧ z ∈ [Str.ofString "keep", Str.ofString "sort", Str.ofString "distinct"] ∧ z ∉ [Str.ofString "first", Str.ofString "flip"]) := by
  rcases List.mem_cons.mp h with h | h
  · cases h
    exact .inr ⟨rfl, List.mem_cons_self, by decide +kernel⟩
  rcases List.mem_cons.mp h with h | h
  · cases h
    exact .inr ⟨rfl, List.mem_cons_of_mem _ List.mem_cons_self, by decide +kernel⟩
  rcases List.mem_cons.mp h with h | h
  · cases h
    exact .inr ⟨rfl, List.mem_cons_of_mem _ (List.mem_cons_of_mem _ List.mem_cons_self), by decide +kernel⟩
  rcases List.mem_cons.mp h with h | h
  · cases h
    exact .inl ⟨rfl, List.mem_cons_self⟩
  rcases List.mem_cons.mp h with h | h
  · cases h
    exact .inl ⟨rfl, List.mem_cons_of_mem _ List.mem_cons_self⟩
  exact nomatch h
theorem kws_not {z : Str} (h : z ∉ kws.map (·.1)) : z ∉ [Str.ofString "first", Str.ofString "flip"] ∧ z ∉ [Str.ofString "keep", Str.ofString "sort", Str.ofString "distinct"] := by
  have e : kws.map (·.1) = [Str.ofString "keep", Str.ofString "sort", Str.ofString "distinct", Str.ofString "first", Str.ofString "flip"] := rfl
  rw [e] at h
  simp only [List.mem_cons, List.not_mem_nil, or_false, not_or] at h ⊢
  exact ⟨⟨h.2.2.2.1, h.2.2.2.2⟩, h.1, h.2.1, h.2.2.1⟩
theorem opt_false {r : Option Sx} (h : r.isSome = false) : r = none := by
  cases r with
  | none => rfl
  | some s => cases h
section
variable {P : Program} {w : World} {K : PySem.W.Frag} {mg : Str → Option Value} {base : Heap}
theorem ok__law_right (T : TxtW w K mg) : Def P w K mg base 3 "_law_right" ["_law_thing", "_law_tests"] (fun vs H Q _ => ∃ (v : V) (r : Option Sx) (N : Addr) (us : List Addr), vs = [v, .ref N] ∧ ItAt (cadr mg "Test") [] H v r ∧ H N = some (.lst (us.map V.ref)) ∧ us.length ≤ 10 ∧ (∀ u ∈ us, ∃ (a : At) (κ : List (Str × Bool)), TestAt (cadr mg "Test") H a.ts u ∧ a.Wf κ) ∧ (∀ t a, r = some (.keep t a) → t ∈ us) ∧ ∀ H', XT H H' → Q (.bl r.isSome) H') := by
  obtain ⟨f, fd, h⟩ := T.d__law_right
  refine h.def (Fun.okM h.fn sc__law_right (fun vs H Q E h => ?_) (fun cdv A outer s H vs Q E hr h => ?_))
  · obtain ⟨v, r, N, us, rfl, _⟩ := h
    rfl
  · obtain ⟨v, r, N, us, rfl, hI, hN, h10, hus, hmem, k⟩ := h
    refine ⟨_, (pss_cons (ps_if (PW.pt (pw_or (pt_not (pt_val (pe_callB call_isiT (by rfl) T.h_isinstance (by decide +kernel) (pa_cons (pv 0) (pa_cons (pe_tup (pa_cons (pe_bltn (v := .ty "list") (by rfl) T.h_list (by decide +kernel) rfl) (pa_cons (pe_bltn (v := .ty "tuple") (by rfl) T.h_tuple (by decide +kernel) rfl) pa_nil))) pa_nil))))) (pw_or (pt_cmpR op_eq (pe_callB (call_lenG (K := K) rfl) (by rfl) T.h_len (by decide +kernel) (pa_cons (pv 0) pa_nil)) pe_int (nomark _)) (pw_or1 (pt_not (pt_val (pe_callB (call_isiG (K := K) rfl) (by rfl) T.h_isinstance (by decide +kernel) (pa_cons (pe_ix (ix_seqG (K := K) rfl) (pv 0) pe_int (fun _ _ => rfl)) (pa_cons (pe_bltn (v := .ty "str") (by rfl) T.h_str (by decide +kernel) rfl) pa_nil)))))))))
  (pss_one (ps_ret pe_bl))
  pss_nil)
  (pss_cons (ps_if (pt_cmpR (op_inG (K := K) rfl) (pe_ix (ix_seqG (K := K) rfl) (pv 0) pe_int (fun _ _ => rfl)) (pe_lst (pa_cons pe_str (pa_cons pe_str pa_nil))) (by rfl))
  (pss_one (ps_ret (pe_cmpR op_eq (pe_callB (call_lenG (K := K) rfl) (by rfl) T.h_len (by decide +kernel) (pa_cons (pv 0) pa_nil)) pe_int (nomark _))))
  pss_nil)
  (pss_cons (ps_if (PW.pt (pw_or (pt_cmpR op_ne (pe_callB (call_lenG (K := K) rfl) (by rfl) T.h_len (by decide +kernel) (pa_cons (pv 0) pa_nil)) pe_int (nomark _)) (pw_or1 (pt_cmpR (op_notInG (K := K) rfl) (pe_ix (ix_seqG (K := K) rfl) (pv 0) pe_int (fun _ _ => rfl)) (pe_lst (pa_cons pe_str (pa_cons pe_str (pa_cons pe_str pa_nil)))) (by rfl)))))
  (pss_one (ps_ret pe_bl))
  pss_nil)
  (pss_cons (ps_if (pt_cmpR op_eq (pe_ix (ix_seqG (K := K) rfl) (pv 0) pe_int (fun _ _ => rfl)) pe_str (nomark _))
  (pss_one (ps_ret (pe_cmpR op_gtG (pe_callB (call_lenG (K := K) rfl) (by rfl) T.h_len (by decide +kernel) (pa_cons (pe_lc (own := [("_law_test_here", 4)]) rfl sc__law_right.nd (pi_list (pv 1)) (blkOk_by (N := N__law_right) (sc := defScope S__law_right) (by decide +kernel)) (fun _ _ _ _ _ => pg_name (i := 4) sc__law_right.nd rfl (Or.inl rfl)) (fun _ _ _ _ _ => pts_one (pt_cmpR (op_eqOwn (K := K) rfl (ok_Test_eq T) hr) (pv 4) (pe_ix (ix_seqG (K := K) rfl) (pv 0) pe_int (fun _ _ => rfl)) (nomark _))) (fun _ _ _ _ _ => (pv 4))) pa_nil)) pe_int (nomark _))))
  pss_nil)
  (pss_cons (ps_if (pt_cmpR op_eq (pe_ix (ix_seqG (K := K) rfl) (pv 0) pe_int (fun _ _ => rfl)) pe_str (nomark _))
  (pss_one (ps_ret (pe_def (ok__law_order_right T) hr rfl (pa_cons (pe_ix (ix_seqG (K := K) rfl) (pv 0) pe_int (fun _ _ => rfl)) pa_nil))))
  pss_nil)
  (pss_cons (ps_if (PW.pt (pw_or (pt_not (pt_val (pe_callB call_isiT (by rfl) T.h_isinstance (by decide +kernel) (pa_cons (pe_ix (ix_seqG (K := K) rfl) (pv 0) pe_int (fun _ _ => rfl)) (pa_cons (pe_tup (pa_cons (pe_bltn (v := .ty "list") (by rfl) T.h_list (by decide +kernel) rfl) (pa_cons (pe_bltn (v := .ty "tuple") (by rfl) T.h_tuple (by decide +kernel) rfl) pa_nil))) pa_nil))))) (pw_or1 (pt_cmpR op_gtG (pe_callB (call_lenG (K := K) rfl) (by rfl) T.h_len (by decide +kernel) (pa_cons (pe_ix (ix_seqG (K := K) rfl) (pv 0) pe_int (fun _ _ => rfl)) pa_nil)) pe_int (nomark _)))))
  (pss_one (ps_ret pe_bl))
  pss_nil)
  (pss_cons (ps_set (i := 2) sc__law_right.nd rfl (Or.inl rfl) (pe_lst pa_nil))
  (pss_cons (ps_for PassesOwn.never rfl (pi_seqG (K := K) rfl (pe_ix (ix_seqG (K := K) rfl) (pv 0) pe_int (fun _ _ => rfl))) (pg_name (i := 3) sc__law_right.nd rfl (Or.inl rfl))
  (pss_cons (ps_if (PW.pt (pw_or (pt_not (pt_val (pe_def (ok__law_is_name T) hr rfl (pa_cons (pv 3) pa_nil)))) (pw_or1 (pt_cmpR (op_inG (K := K) rfl) (pv 3) (pv 2) (by rfl)))))
  (pss_one (ps_ret pe_bl))
  pss_nil)
  (pss_one (ps_expr (pe_bm PySem.F.plainAttrs_list PySem.F.slot_list_append PySem.F.type_list_append mt_append (pv 2) (pa_cons (pv 3) pa_nil))))))
  (pss_one (ps_ret pe_bl)))))))))), ?_⟩
    rcases item_form hI with ⟨hW, e⟩ | ⟨p, z, rs, rfl, hp, hr5, hx⟩
    · rw [e] at k
      rcases hW with ⟨Tn, hT, ty, n, m, _⟩ | ⟨p, xs, rfl, hp, hx⟩
      · walk_at "g"
        refine ⟨sz2, fun t ht => ?_⟩
        have xt : XT H (upd H t (.tup [.ty "list", .ty "tuple"])) := XT.refl.new ht
        walk_at "g"
        refine g_isSeq hT ((ty.keep xt).x K) upd_same (decide_eq_false (fun h => h.elim n m)) ?_
        walk_at "g"
        exact k _ xt
      · obtain ⟨Tn, t1, t2, t3⟩ := seq_ty (K := K) hp
        walk_at "g"
        refine ⟨sz2, fun t ht => ?_⟩
        have xt : XT H (upd H t (.tup [.ty "list", .ty "tuple"])) := XT.refl.new ht
        have et : (upd H t (.tup [.ty "list", .ty "tuple"])) t = some (.tup [.ty "list", .ty "tuple"]) := upd_same
        generalize upd H t (.tup [.ty "list", .ty "tuple"]) = H1 at xt et
        walk_at "g"
        refine g_isSeq t1 (t2 _ xt) et t3 ?_
        walk_at "g"
        refine g_lenA (seq_keep hp xt) ?_
        walk_at "g"
        rcases hx with ⟨rfl, _⟩ | ⟨z, r', rfl, hf⟩ | ⟨l, r', ys, rfl, hl, _⟩
        · refine g_dec (fun _ => ?_) (fun h => absurd rfl h)
          walk_at "g"
          exact k _ xt
        · cases hf
        · refine g_dec (fun h => absurd h (by rw [List.length_cons]; omega)) (fun _ => ?_)
          walk_at "g"
          refine g_ixA (seq_keep hp xt) (v := .ref l) (atI_nat (j := 0) rfl) ?_
          walk_at "g"
          refine g_isi (.base (.lst (xt _ _ hl))) (show kitB "list" "str" = some false by decide +kernel) ?_
          walk_at "g"
          exact k _ xt
    · obtain ⟨Tn, t1, t2, t3⟩ := seq_ty (K := K) hp
      walk_at "g"
      refine ⟨sz2, fun t ht => ?_⟩
      have xt : XT H (upd H t (.tup [.ty "list", .ty "tuple"])) := XT.refl.new ht
      have et : (upd H t (.tup [.ty "list", .ty "tuple"])) t = some (.tup [.ty "list", .ty "tuple"]) := upd_same
      generalize upd H t (.tup [.ty "list", .ty "tuple"]) = H1 at xt et
      have h1 := seq_keep hp xt
      walk_at "g"
      refine g_isSeq t1 (t2 _ xt) et t3 ?_
      walk_at "g"
      refine g_lenA h1 ?_
      walk_at "g"
      have ln : ((.str z :: rs : List V).length : Int) = rs.length + 1 := by rw [List.length_cons]; omega
      refine g_dec (fun h => absurd h (by omega)) (fun _ => ?_)
      walk_at "g"
      refine g_ixA h1 (v := .str z) (atI_nat (j := 0) rfl) ?_
      walk_at "g"
      refine g_ixA h1 (v := .str z) (atI_nat (j := 0) rfl) ?_
      walk_at "g"
      refine ⟨by show 2 ≤ sizeLine; decide, fun l hl => ?_⟩
      refine .inr ⟨_, [Str.ofString "first", Str.ofString "flip"].map V.str, rfl, .inl (SqL.of upd_same), rfl, Tw.flat_strs _, ?_⟩
      rw [if_neg Bool.false_ne_true, inV_strs]
      have x2 := xt.new (o := .lst ([Str.ofString "first", Str.ofString "flip"].map V.str)) hl
      have eL : upd H1 l (.lst [.str (Str.ofString "first"), .str (Str.ofString "flip")]) = upd H1 l (.lst ([Str.ofString "first", Str.ofString "flip"].map V.str)) := rfl
      rw [eL]
      generalize upd H1 l (.lst ([Str.ofString "first", Str.ofString "flip"].map V.str)) = H2 at x2
      have h2 := seq_keep hp x2
      walk_at "g"
      refine g_dec (fun hm => ?_) (fun hm => ?_)
      · walk_at "g"
        refine g_lenA h2 ?_
        walk_at "g"
        rcases hx with ⟨hz, e⟩ | ⟨n, hkw, hn, e⟩ | ⟨n, hkw, hn, hT⟩
        · exact absurd hm (kws_not hz).1
        · have n1 : n = 1 := (kws_two hkw).elim (fun h => h.1) fun h => absurd hm h.2.2
          rw [decide_eq_false (show ¬ (((.str z : V) :: rs).length : Int) = 1 by omega)]
          rw [e] at k
          exact k _ x2
        · have n1 : n = 1 := (kws_two hkw).elim (fun h => h.1) fun h => absurd hm h.2.2
          rw [decide_eq_true (show (((.str z : V) :: rs).length : Int) = 1 by omega)]
          have ez : rs = [] := List.length_eq_zero_iff.mp (by omega)
          subst ez
          generalize r.isSome = b at hT k
          cases hT with
          | first => exact k _ x2
          | flip => exact k _ x2
      walk_at "g"
      refine g_lenA h2 ?_
      walk_at "g"
      refine g_ndec (fun h22 => ?_) (fun h22 => ?_)
      · walk_at "g"
        have e : r.isSome = false := by
          rcases hx with ⟨hz, e⟩ | ⟨n, hkw, hn, e⟩ | ⟨n, hkw, hn, hT⟩
          · exact e
          · exact e
          · rcases kws_two hkw with h | h
            · exact absurd h.2 hm
            · exact absurd (show (((.str z : V) :: rs).length : Int) = 2 by have := h.1; omega) h22
        rw [e] at k
        exact k _ x2
      walk_at "g"
      refine g_ixA h2 (v := .str z) (atI_nat (j := 0) rfl) ?_
      walk_at "g"
      refine ⟨by show 3 ≤ sizeLine; decide, fun l3 hl3 => ?_⟩
      refine .inr ⟨_, [Str.ofString "keep", Str.ofString "sort", Str.ofString "distinct"].map V.str, rfl, .inl (SqL.of upd_same), rfl, Tw.flat_strs _, ?_⟩
      rw [if_pos rfl, inV_strs]
      have x3 := x2.new (o := .lst ([Str.ofString "keep", Str.ofString "sort", Str.ofString "distinct"].map V.str)) hl3
      have eL3 : upd H2 l3 (.lst [.str (Str.ofString "keep"), .str (Str.ofString "sort"), .str (Str.ofString "distinct")]) = upd H2 l3 (.lst ([Str.ofString "keep", Str.ofString "sort", Str.ofString "distinct"].map V.str)) := rfl
      rw [eL3]
      generalize upd H2 l3 (.lst ([Str.ofString "keep", Str.ofString "sort", Str.ofString "distinct"].map V.str)) = H3 at x3
      have h3 := seq_keep hp x3
      walk_at "g"
      refine g_ndec (fun hk3 => ?_) (fun hk3 => ?_)
      · walk_at "g"
        have e : r.isSome = false := by
          rcases hx with ⟨hz, e⟩ | ⟨n, hkw, hn, e⟩ | ⟨n, hkw, hn, hT⟩
          · exact e
          · exact e
          · rcases kws_two hkw with h | h
            · exact absurd h.2 hm
            · exact absurd h.2.1 hk3
        rw [e] at k
        exact k _ x3
      walk_at "g"
      refine g_ixA h3 (v := .str z) (atI_nat (j := 0) rfl) ?_
      walk_at "g"
      rcases hx with ⟨hz, e⟩ | ⟨n, hkw, hn, e⟩ | ⟨n, hkw, hn, hT⟩
      · exact absurd hk3 (kws_not hz).2
      · refine absurd (?_ : (rs.length : Int) + 1 = n) hn
        rcases kws_two hkw with h | h
        · exact absurd h.2 hm
        · have := h.1
          omega
      have hT3 := hT.keepX x3
      have hN3 := x3 _ _ hN
      have hus3 : ∀ u ∈ us, ∃ (a : At) (κ : List (Str × Bool)), TestAt (cadr mg "Test") H3 a.ts u ∧ a.Wf κ := fun u hu => by
        obtain ⟨a, κ, h1, h2⟩ := hus u hu
        exact ⟨a, κ, h1.keep x3, h2⟩
      clear hT hI hkw hn h1 h2 ln et x2 xt
      generalize hb : r.isSome = b at hT3 k
      have keepC : ∀ (y : V), ((∃ t, y = .ref t ∧ t ∈ us ∧ ∃ (a : At) (κ : List (Str × Bool)), TestAt (cadr mg "Test") H3 a.ts t ∧ a.Wf κ) ∧ b = true) ∨ ((∃ T : String, T ∈ kinds7 ∧ TyOf7 H3 y T) ∧ b = false) → atI ([.str z, y] : List V) 1 = some y := fun y _ => rfl
      cases hT3 with
      | @keep t a κ h w g =>
        obtain ⟨a', ha'⟩ := g
        have htu := hmem t a' ha'
        obtain ⟨dt, i1, f1, u1, qs1, hpt, _⟩ := h.node
        refine g_dec (fun _ => ?_) (fun h => absurd rfl h)
        walk_at "g"
        refine ⟨N, rfl, ⟨_, SqL.of hN3⟩, fun D hD => ?_⟩
        refine lc_inv (us.map V.ref) (fun i acc H' => XT H3 H' ∧ H' D = some (.lst acc) ∧ acc.length ≤ i ∧ ((∃ j, j < i ∧ us[j]? = some t) → acc ≠ [])) ⟨XT.refl.new hD, upd_same, Nat.le_refl _, fun ⟨j, h, _⟩ => absurd h (Nat.not_lt_zero _)⟩ ?_ (by rw [List.length_map]; omega) ?_ ?_ ?_
        · rintro i acc H' ⟨x4, _⟩
          exact fits_l (SqL.of (x4 _ _ hN3))
        · rintro i acc H' ⟨x4, e4, l4, _⟩
          exact ⟨e4, l4⟩
        · rintro i acc x Hh R S hx ⟨x4, e4, l4, n4⟩ hR hS
          rw [List.getElem?_map] at hx
          obtain ⟨u, hu, rfl⟩ := Option.map_eq_some_iff.mp hx
          obtain ⟨ua, uκ, uT, uW⟩ := hus3 u (List.mem_of_getElem? hu)
          obtain ⟨du, _, _, _, _, hpu, _⟩ := (uT.keep x4).node
          walk_at "g"
          refine ⟨rfl, ?_⟩
          walk_at "g"
          refine g_ixA (seq_keep h3 x4) (v := .ref t) (by rfl) ?_
          refine ⟨u, du, _, rfl, hpu, .inl ⟨t, dt, _, rfl, x4 _ _ hpt⟩, u, ua, uκ, .ref t, rfl, uT.keep x4, uW, .inl ⟨t, a, κ, rfl, h.keep x4, w⟩, fun rr hrr _ => ?_⟩
          walk_at "g"
          have st : ∀ {acc' : List V} {H4 : Hp}, XT Hh H4 → XT H3 (upd H4 D (.lst acc')) := fun {acc' H4} x q o h => by rw [upd_ne (ne_of_none h hD)]; exact x _ _ (x4 _ _ h)
          cases rr with
          | true =>
            refine g_T ?_
            walk_at "g"
            refine hR _ _ e4 ⟨st XT.refl, upd_same, by rw [List.length_append]; show _ + 1 ≤ _; omega, fun _ h => by simp at h⟩
          | false =>
            refine g_F (hS _ ⟨x4, e4, by omega, fun ⟨j, hj, hj2⟩ => n4 ⟨j, ?_, hj2⟩⟩)
            by_cases e : j = i
            · subst e
              rw [hu] at hj2
              injection hj2 with hj2
              have := hrr (by rw [hj2])
              cases this
            · omega
        · rintro acc H' ⟨x4, e4, l4, n4⟩
          walk_at "g"
          have : acc ≠ [] := n4 (by
            obtain ⟨j, hj⟩ := List.getElem?_of_mem htu
            exact ⟨j, by rw [List.length_map]; exact (List.getElem?_eq_some_iff.mp hj).1, hj⟩)
          have h0 : 0 < acc.length := List.length_pos_iff.mpr this
          rw [decide_eq_true (show (0 : Int) < (acc.length : Int) by omega)]
          exact k _ (x3.trans x4)
      | @keepN y h =>
        obtain ⟨Ty, hTy, ty⟩ : ∃ T : String, T ∈ kinds7 ∧ ∀ H, TyOf7 H y T := by
          rcases h with rfl | ⟨z, rfl⟩
          · exact ⟨"NoneType", by decide, fun _ => .non⟩
          · exact ⟨"str", by decide, fun _ => .str z⟩
        refine g_dec (fun _ => ?_) (fun h => absurd rfl h)
        walk_at "g"
        refine ⟨N, rfl, ⟨_, SqL.of hN3⟩, fun D hD => ?_⟩
        refine lc_inv (us.map V.ref) (fun i acc H' => XT H3 H' ∧ H' D = some (.lst acc) ∧ acc = []) ⟨XT.refl.new hD, upd_same, rfl⟩ ?_ (by rw [List.length_map]; omega) ?_ ?_ ?_
        · rintro i acc H' ⟨x4, _⟩
          exact fits_l (SqL.of (x4 _ _ hN3))
        · rintro i acc H' ⟨x4, e4, rfl⟩
          exact ⟨e4, Nat.zero_le _⟩
        · rintro i acc x Hh R S hx ⟨x4, e4, rfl⟩ hR hS
          rw [List.getElem?_map] at hx
          obtain ⟨u, hu, rfl⟩ := Option.map_eq_some_iff.mp hx
          obtain ⟨ua, uκ, uT, uW⟩ := hus3 u (List.mem_of_getElem? hu)
          obtain ⟨du, _, _, _, _, hpu, _⟩ := (uT.keep x4).node
          walk_at "g"
          refine ⟨rfl, ?_⟩
          walk_at "g"
          refine g_ixA (seq_keep h3 x4) (v := y) (by rfl) ?_
          refine ⟨u, du, _, rfl, hpu, .inr ⟨Ty, hTy, (ty _).x K⟩, u, ua, uκ, y, rfl, uT.keep x4, uW, .inr ⟨Ty, hTy, ty _⟩, fun rr _ hrr => ?_⟩
          walk_at "g"
          obtain rfl : rr = false := hrr ⟨Ty, hTy, ty _⟩
          exact g_F (hS _ ⟨x4, e4, rfl⟩)
        · rintro acc H' ⟨x4, e4, rfl⟩
          walk_at "g"
          exact k _ (x3.trans x4)
      | @sort y d h =>
        refine g_dec (fun h => absurd h (show ("sort" : Str) ≠ "keep" by decide +kernel)) (fun _ => ?_)
        walk_at "g"
        refine g_ixA h3 (v := .str "sort") (by rfl) ?_
        walk_at "g"
        refine g_dec (fun _ => ?_) (fun h => absurd rfl h)
        walk_at "g"
        refine g_ixA h3 (v := y) (by rfl) ?_
        walk_at "g"
        refine ⟨y, d, rfl, h, fun H4 x4 => ?_⟩
        walk_at "g"
        exact k _ (x3.trans x4)
      | @dist y _ h =>
        refine g_dec (fun h => absurd h (show ("distinct" : Str) ≠ "keep" by decide +kernel)) (fun _ => ?_)
        walk_at "g"
        refine g_ixA h3 (v := .str "distinct") (by rfl) ?_
        walk_at "g"
        refine g_dec (fun h => absurd h (show ("distinct" : Str) ≠ "sort" by decide +kernel)) (fun _ => ?_)
        walk_at "g"
        refine g_ixA h3 (v := y) (by rfl) ?_
        walk_at "g"
        refine ⟨sz2, fun t4 ht4 => ?_⟩
        have x4 : XT H3 (upd H3 t4 (.tup [.ty "list", .ty "tuple"])) := XT.refl.new ht4
        have et4 : (upd H3 t4 (.tup [.ty "list", .ty "tuple"])) t4 = some (.tup [.ty "list", .ty "tuple"]) := upd_same
        generalize upd H3 t4 (.tup [.ty "list", .ty "tuple"]) = H4 at x4 et4
        have x34 := x3.trans x4
        have h4 := seq_keep h3 x4
        walk_at "g"
        rcases h with ⟨Ty, hTy, ty, n, m, rfl⟩ | ⟨l, ns, rfl, hl, h12, hz, hiff⟩
        · refine g_isSeq hTy ((ty.keep x4).x K) et4 (decide_eq_false (fun h => h.elim n m)) ?_
          walk_at "g"
          exact k _ x34
        obtain ⟨Ty, s1, s2, s3⟩ := seq_ty (K := K) hl
        have hl4 := seq_keep hl x4
        refine g_isSeq s1 (s2 _ x4) et4 s3 ?_
        walk_at "g"
        refine g_ixA h4 (v := .ref l) (by rfl) ?_
        walk_at "g"
        refine g_lenA hl4 ?_
        walk_at "g"
        rw [List.length_map]
        have no : ∀ {H'}, XT H H' → ¬ ((∀ n ∈ ns, nameP n) ∧ ns.Nodup ∧ ns.length ≤ 3) → Q (.bl false) H' := fun {H'} x hn => by
          have e : b = false := by
            cases b with
            | false => rfl
            | true => exact absurd (hiff.mp rfl) hn
          rw [← e]
          exact k _ x
        refine g_dec (fun h33 => ?_) (fun h33 => ?_)
        · walk_at "g"
          exact no x34 fun h => by have := h.2.2; omega
        walk_at "g"
        refine ⟨Nat.zero_le _, fun M hM => ?_⟩
        have hHM : H M = none := by
          cases e : H M with
          | none => rfl
          | some o => rw [x34 _ _ e] at hM; cases hM
        have hH4M : H4 M = none := hM
        have x5 : XT H4 (upd H4 M (.lst [])) := XT.refl.new hM
        have e5 : (upd H4 M (.lst [])) M = some (.lst []) := upd_same
        generalize upd H4 M (.lst []) = H5 at x5 e5
        walk_at "g"
        refine g_seqG ?_
        walk_at "g"
        refine g_ixA (seq_keep h4 x5) (v := .ref l) (by rfl) ?_
        have hl5 := seq_keep hl4 x5
        refine ⟨l, ns.map V.str, rfl, seq_a hl5, fun J hJ => ?_⟩
        refine for_fitsA (xs := ns.map V.str) (fun i σ' H' => ∃ (s3 : Option V), σ' = [some (.ref p), some (.ref N), some (.ref M), s3, none] ∧ XT H4 H' ∧ H' M = some (.lst ((ns.take i).map V.str)) ∧ (∀ n ∈ ns.take i, nameP n) ∧ (ns.take i).Nodup) ⟨none, rfl, x5, e5, (fun n h => nomatch h), List.nodup_nil⟩ ?_ ?_ ?_
        · rintro i σ' H' hi ⟨s3, rfl, x6, _⟩
          exact hJ H' (by rcases hl4 with h | h <;> rw [x6 _ _ h, x5 _ _ h])
        · rintro i y σ' H6 D' hy ⟨s3, rfl, x6, e6, nm6, nd6⟩ hnx hct hbk hrt
          rw [List.getElem?_map] at hy
          obtain ⟨c, hc, rfl⟩ := Option.map_eq_some_iff.mp hy
          have hil : i < ns.length := (List.getElem?_eq_some_iff.mp hc).1
          have etk : ns.take (i + 1) = ns.take i ++ [c] := by rw [List.take_succ, hc]; rfl
          walk_at "g"
          refine ⟨_, rfl, .inr (.inr (.inr (.inl ⟨_, rfl, hz c (List.mem_of_getElem? hc)⟩))), fun H7 x7 => ?_⟩
          have x47 : XT H4 H7 := x6.trans x7
          have e7 := x7 _ _ e6
          have l7 : ((ns.take i).map V.str).length < 10000000 := by rw [List.length_map, List.length_take]; omega
          by_cases hn : nameP c
          · rw [nameB_str.mpr hn]
            walk_at "g"
            refine .inr ⟨_, (ns.take i).map V.str, rfl, .inl (SqL.of (x7 _ _ e6)), rfl, Tw.flat_strs _, ?_⟩
            rw [if_neg Bool.false_ne_true, inV_strs]
            walk_at "g"
            refine g_dec (fun hm => ?_) (fun hm => ?_)
            · walk_at "g"
              rw [hrt]
              refine no (x34.trans x47) fun h => ?_
              have h2 := h.2.1
              rw [← List.take_append_drop (i + 1) ns, etk] at h2
              have h3 := (List.nodup_append.mp h2).1
              exact (List.nodup_append.mp h3).2.2 _ hm _ (List.mem_singleton.mpr rfl) rfl
            · walk_at "g"
              refine hnx _ _ ⟨_, rfl, fun q o h => by rw [upd_ne (ne_of_none h hH4M)]; exact x47 _ _ h, by rw [upd_same, etk, List.map_append]; rfl, fun n hn' => ?_, ?_⟩
              · rw [etk] at hn'
                rcases List.mem_append.mp hn' with h | h
                · exact nm6 n h
                · rw [List.mem_singleton.mp h]; exact hn
              · rw [etk]
                exact List.nodup_append.mpr ⟨nd6, List.nodup_cons.mpr ⟨fun h => (nomatch h), List.nodup_nil⟩, fun u hu v hv e => hm (by rw [← List.mem_singleton.mp hv, ← e]; exact hu)⟩
          · rw [nameB_no hn]
            walk_at "g"
            rw [hrt]
            exact no (x34.trans x47) fun h => hn (h.1 c (List.mem_of_getElem? hc))
        · rintro σ' H6 ⟨s3, rfl, x6, e6, nm6, nd6⟩
          rw [List.length_map, List.take_length] at nm6 nd6
          walk_at "g"
          have e : b = true := hiff.mpr ⟨nm6, nd6, by omega⟩
          rw [← e]
          exact k _ (x34.trans x6)
      | first => exact absurd (List.mem_cons_self) hm
      | flip => exact absurd (List.mem_cons_of_mem _ List.mem_cons_self) hm
end
theorem nm_a : nameP (Str.ofString "a") := by
  refine ⟨by decide +kernel, by decide +kernel, fun c r h => ?_, by decide +kernel, by decide +kernel⟩
  have e : (Str.ofString "a").cps.toList = [97] := by decide +kernel
  rw [e] at h
  injection h with h1 _
  rw [← h1]
  decide +kernel
theorem nm_in : ¬ nameP (Str.ofString "in") := fun h => h.2.2.2.1 (by decide +kernel)
theorem PD.xt {H H' : Hp} {p : Addr} {n : Nat} (D : PD H p n) (k : XT H H') : PD H' p n := by
  obtain ⟨a, b, c, e, r⟩ := D
  exact ⟨a, b, c, k _ _ e, r⟩
theorem far {S : List Addr} {H H' : Hp} {q : Addr} (hS : ListsAt S H) (k : XT H H') (h : H' q = none) : q ∉ S := fun m => by
  obtain ⟨xs, e⟩ := hS q m
  rw [k _ _ e] at h
  cases h
theorem cat_len {xs ys : List V} (h : xs.length + ys.length ≤ 1000) : xs.length + ys.length ≤ sizeLine := by rw [sizeLine_eq]; omega
section
variable {P : Program} {w : World} {K : PySem.W.Frag} {mg : Str → Option Value} {base : Heap}
theorem ok__law_odd (T : TxtW w K mg) : Def P w K mg base 2 "_law_odd" ["_law_pool_here"] (fun vs H Q _ => ∃ (p : Addr) (n : Nat) (S : List Addr), vs = [.ref p] ∧ PD H p n ∧ n ≤ 900000 ∧ p ∈ S ∧ ListsAt S H ∧ ∀ v H', NoStep S H' v → PD H' p (n + 1) → Keep p H H' → Q v H') := by
  obtain ⟨f, fd, h⟩ := T.d__law_odd
  refine h.def (Fun.okM h.fn sc__law_odd (fun vs H Q E h => ?_) (fun cdv A outer s H vs Q E hr h => ?_))
  · obtain ⟨p, n, S, rfl, _⟩ := h
    rfl
  · obtain ⟨p, n, S, rfl, D0, hn, hpS, hS, k⟩ := h
    refine ⟨_, (pss_cons (ps_set (i := 1) sc__law_odd.nd rfl (Or.inl rfl) (pe_lst (pa_cons pe_non (pa_cons pe_str (pa_cons (pe_tup pa_nil) (pa_cons (pe_tup (pa_cons pe_str (pa_cons pe_int pa_nil))) (pa_cons (pe_tup (pa_cons pe_str pa_nil)) (pa_cons (pe_tup (pa_cons pe_str (pa_cons pe_str pa_nil))) (pa_cons (pe_tup (pa_cons pe_str (pa_cons pe_non pa_nil))) (pa_cons (pe_tup (pa_cons pe_str (pa_cons (pe_tup (pa_cons pe_str (pa_cons pe_str pa_nil))) pa_nil))) pa_nil))))))))))
  (pss_cons (ps_set (i := 1) sc__law_odd.nd rfl (Or.inl rfl) (pe_op op_addG (pv 1) (pe_lst (pa_cons (pe_tup (pa_cons pe_str (pa_cons (pe_lst pa_nil) pa_nil))) (pa_cons (pe_tup (pa_cons pe_str (pa_cons (pe_lst (pa_cons (pe_tup (pa_cons pe_str (pa_cons pe_str pa_nil))) (pa_cons (pe_tup (pa_cons pe_str (pa_cons pe_str pa_nil))) pa_nil))) pa_nil))) (pa_cons (pe_tup (pa_cons pe_str (pa_cons (pe_lst (pa_cons pe_str (pa_cons pe_str pa_nil))) pa_nil))) (pa_cons (pe_tup (pa_cons pe_str (pa_cons pe_str pa_nil))) pa_nil)))))))
  (pss_cons (ps_set (i := 1) sc__law_odd.nd rfl (Or.inl rfl) (pe_op op_addG (pv 1) (pe_lst (pa_cons (pe_tup (pa_cons pe_str (pa_cons (pe_lst (pa_cons pe_str pa_nil)) pa_nil))) (pa_cons (pe_tup (pa_cons pe_str (pa_cons (pe_lst (pa_cons pe_str (pa_cons pe_str (pa_cons pe_str (pa_cons pe_str pa_nil))))) pa_nil))) (pa_cons (pe_tup (pa_cons pe_str pa_nil)) (pa_cons (pe_tup (pa_cons pe_str (pa_cons (pe_tup pa_nil) pa_nil))) (pa_cons (pe_tup (pa_cons (pe_lst pa_nil) pa_nil)) (pa_cons (pe_tup (pa_cons pe_str (pa_cons pe_non pa_nil))) pa_nil)))))))))
  (pss_one (ps_ret (pe_ix (ix_seqG (K := K) rfl) (pv 1) (pe_def (ok__law_draw T) hr rfl (pa_cons (pv 0) (pa_cons pe_int pa_nil))) (fun _ _ => rfl))))))), ?_⟩
    walk_at "g"
    refine ⟨szN (n := 0) (by decide), fun a1 h_a1 => ?_⟩
    have f1 : XT H (upd H a1 (.tup [])) := XT.refl.new h_a1
    have e_a1 : (upd H a1 (.tup [])) a1 = some (.tup []) := upd_same
    generalize upd H a1 (.tup []) = J1 at f1 e_a1 ⊢
    walk_at "g"
    refine ⟨szN (n := 2) (by decide), fun a2 h_a2 => ?_⟩
    have f2 : XT J1 (upd J1 a2 (.tup [.str (Str.ofString "first"), .int 0])) := XT.refl.new h_a2
    have e_a2 : (upd J1 a2 (.tup [.str (Str.ofString "first"), .int 0])) a2 = some (.tup [.str (Str.ofString "first"), .int 0]) := upd_same
    generalize upd J1 a2 (.tup [.str (Str.ofString "first"), .int 0]) = J2 at f2 e_a2 ⊢
    walk_at "g"
    refine ⟨szN (n := 1) (by decide), fun a3 h_a3 => ?_⟩
    have f3 : XT J2 (upd J2 a3 (.tup [.str (Str.ofString "keep")])) := XT.refl.new h_a3
    have e_a3 : (upd J2 a3 (.tup [.str (Str.ofString "keep")])) a3 = some (.tup [.str (Str.ofString "keep")]) := upd_same
    generalize upd J2 a3 (.tup [.str (Str.ofString "keep")]) = J3 at f3 e_a3 ⊢
    walk_at "g"
    refine ⟨szN (n := 2) (by decide), fun a4 h_a4 => ?_⟩
    have f4 : XT J3 (upd J3 a4 (.tup [.str (Str.ofString "keep"), .str (Str.ofString "a < 1")])) := XT.refl.new h_a4
    have e_a4 : (upd J3 a4 (.tup [.str (Str.ofString "keep"), .str (Str.ofString "a < 1")])) a4 = some (.tup [.str (Str.ofString "keep"), .str (Str.ofString "a < 1")]) := upd_same
    generalize upd J3 a4 (.tup [.str (Str.ofString "keep"), .str (Str.ofString "a < 1")]) = J4 at f4 e_a4 ⊢
    walk_at "g"
    refine ⟨szN (n := 2) (by decide), fun a5 h_a5 => ?_⟩
    have f5 : XT J4 (upd J4 a5 (.tup [.str (Str.ofString "keep"), .non])) := XT.refl.new h_a5
    have e_a5 : (upd J4 a5 (.tup [.str (Str.ofString "keep"), .non])) a5 = some (.tup [.str (Str.ofString "keep"), .non]) := upd_same
    generalize upd J4 a5 (.tup [.str (Str.ofString "keep"), .non]) = J5 at f5 e_a5 ⊢
    walk_at "g"
    refine ⟨szN (n := 2) (by decide), fun a6 h_a6 => ?_⟩
    have f6 : XT J5 (upd J5 a6 (.tup [.str (Str.ofString "a"), .str (Str.ofString "up")])) := XT.refl.new h_a6
    have e_a6 : (upd J5 a6 (.tup [.str (Str.ofString "a"), .str (Str.ofString "up")])) a6 = some (.tup [.str (Str.ofString "a"), .str (Str.ofString "up")]) := upd_same
    generalize upd J5 a6 (.tup [.str (Str.ofString "a"), .str (Str.ofString "up")]) = J6 at f6 e_a6 ⊢
    walk_at "g"
    refine ⟨szN (n := 2) (by decide), fun a7 h_a7 => ?_⟩
    have f7 : XT J6 (upd J6 a7 (.tup [.str (Str.ofString "sort"), .ref a6])) := XT.refl.new h_a7
    have e_a7 : (upd J6 a7 (.tup [.str (Str.ofString "sort"), .ref a6])) a7 = some (.tup [.str (Str.ofString "sort"), .ref a6]) := upd_same
    generalize upd J6 a7 (.tup [.str (Str.ofString "sort"), .ref a6]) = J7 at f7 e_a7 ⊢
    walk_at "g"
    refine ⟨szN (n := 8) (by decide), fun l1 h_l1 => ?_⟩
    have f8 : XT J7 (upd J7 l1 (.lst [.non, .str (Str.ofString "first"), .ref a1, .ref a2, .ref a3, .ref a4, .ref a5, .ref a7])) := XT.refl.new h_l1
    have e_l1 : (upd J7 l1 (.lst [.non, .str (Str.ofString "first"), .ref a1, .ref a2, .ref a3, .ref a4, .ref a5, .ref a7])) l1 = some (.lst [.non, .str (Str.ofString "first"), .ref a1, .ref a2, .ref a3, .ref a4, .ref a5, .ref a7]) := upd_same
    generalize upd J7 l1 (.lst [.non, .str (Str.ofString "first"), .ref a1, .ref a2, .ref a3, .ref a4, .ref a5, .ref a7]) = J8 at f8 e_l1 ⊢
    walk_at "g"
    refine ⟨szN (n := 0) (by decide), fun b1 h_b1 => ?_⟩
    have f9 : XT J8 (upd J8 b1 (.lst [])) := XT.refl.new h_b1
    have e_b1 : (upd J8 b1 (.lst [])) b1 = some (.lst []) := upd_same
    generalize upd J8 b1 (.lst []) = J9 at f9 e_b1 ⊢
    walk_at "g"
    refine ⟨szN (n := 2) (by decide), fun b2 h_b2 => ?_⟩
    have f10 : XT J9 (upd J9 b2 (.tup [.str (Str.ofString "sort"), .ref b1])) := XT.refl.new h_b2
    have e_b2 : (upd J9 b2 (.tup [.str (Str.ofString "sort"), .ref b1])) b2 = some (.tup [.str (Str.ofString "sort"), .ref b1]) := upd_same
    generalize upd J9 b2 (.tup [.str (Str.ofString "sort"), .ref b1]) = J10 at f10 e_b2 ⊢
    walk_at "g"
    refine ⟨szN (n := 2) (by decide), fun b3 h_b3 => ?_⟩
    have f11 : XT J10 (upd J10 b3 (.tup [.str (Str.ofString "a"), .str (Str.ofString "up")])) := XT.refl.new h_b3
    have e_b3 : (upd J10 b3 (.tup [.str (Str.ofString "a"), .str (Str.ofString "up")])) b3 = some (.tup [.str (Str.ofString "a"), .str (Str.ofString "up")]) := upd_same
    generalize upd J10 b3 (.tup [.str (Str.ofString "a"), .str (Str.ofString "up")]) = J11 at f11 e_b3 ⊢
    walk_at "g"
    refine ⟨szN (n := 2) (by decide), fun b4 h_b4 => ?_⟩
    have f12 : XT J11 (upd J11 b4 (.tup [.str (Str.ofString "a"), .str (Str.ofString "down")])) := XT.refl.new h_b4
    have e_b4 : (upd J11 b4 (.tup [.str (Str.ofString "a"), .str (Str.ofString "down")])) b4 = some (.tup [.str (Str.ofString "a"), .str (Str.ofString "down")]) := upd_same
    generalize upd J11 b4 (.tup [.str (Str.ofString "a"), .str (Str.ofString "down")]) = J12 at f12 e_b4 ⊢
    walk_at "g"
    refine ⟨szN (n := 2) (by decide), fun b5 h_b5 => ?_⟩
    have f13 : XT J12 (upd J12 b5 (.lst [.ref b3, .ref b4])) := XT.refl.new h_b5
    have e_b5 : (upd J12 b5 (.lst [.ref b3, .ref b4])) b5 = some (.lst [.ref b3, .ref b4]) := upd_same
    generalize upd J12 b5 (.lst [.ref b3, .ref b4]) = J13 at f13 e_b5 ⊢
    walk_at "g"
    refine ⟨szN (n := 2) (by decide), fun b6 h_b6 => ?_⟩
    have f14 : XT J13 (upd J13 b6 (.tup [.str (Str.ofString "sort"), .ref b5])) := XT.refl.new h_b6
    have e_b6 : (upd J13 b6 (.tup [.str (Str.ofString "sort"), .ref b5])) b6 = some (.tup [.str (Str.ofString "sort"), .ref b5]) := upd_same
    generalize upd J13 b6 (.tup [.str (Str.ofString "sort"), .ref b5]) = J14 at f14 e_b6 ⊢
    walk_at "g"
    refine ⟨szN (n := 2) (by decide), fun b7 h_b7 => ?_⟩
    have f15 : XT J14 (upd J14 b7 (.lst [.str (Str.ofString "a"), .str (Str.ofString "a")])) := XT.refl.new h_b7
    have e_b7 : (upd J14 b7 (.lst [.str (Str.ofString "a"), .str (Str.ofString "a")])) b7 = some (.lst [.str (Str.ofString "a"), .str (Str.ofString "a")]) := upd_same
    generalize upd J14 b7 (.lst [.str (Str.ofString "a"), .str (Str.ofString "a")]) = J15 at f15 e_b7 ⊢
    walk_at "g"
    refine ⟨szN (n := 2) (by decide), fun b8 h_b8 => ?_⟩
    have f16 : XT J15 (upd J15 b8 (.tup [.str (Str.ofString "distinct"), .ref b7])) := XT.refl.new h_b8
    have e_b8 : (upd J15 b8 (.tup [.str (Str.ofString "distinct"), .ref b7])) b8 = some (.tup [.str (Str.ofString "distinct"), .ref b7]) := upd_same
    generalize upd J15 b8 (.tup [.str (Str.ofString "distinct"), .ref b7]) = J16 at f16 e_b8 ⊢
    walk_at "g"
    refine ⟨szN (n := 2) (by decide), fun b9 h_b9 => ?_⟩
    have f17 : XT J16 (upd J16 b9 (.tup [.str (Str.ofString "distinct"), .str (Str.ofString "a")])) := XT.refl.new h_b9
    have e_b9 : (upd J16 b9 (.tup [.str (Str.ofString "distinct"), .str (Str.ofString "a")])) b9 = some (.tup [.str (Str.ofString "distinct"), .str (Str.ofString "a")]) := upd_same
    generalize upd J16 b9 (.tup [.str (Str.ofString "distinct"), .str (Str.ofString "a")]) = J17 at f17 e_b9 ⊢
    walk_at "g"
    refine ⟨szN (n := 4) (by decide), fun l2 h_l2 => ?_⟩
    have f18 : XT J17 (upd J17 l2 (.lst [.ref b2, .ref b6, .ref b8, .ref b9])) := XT.refl.new h_l2
    have e_l2 : (upd J17 l2 (.lst [.ref b2, .ref b6, .ref b8, .ref b9])) l2 = some (.lst [.ref b2, .ref b6, .ref b8, .ref b9]) := upd_same
    generalize upd J17 l2 (.lst [.ref b2, .ref b6, .ref b8, .ref b9]) = J18 at f18 e_l2 ⊢
    walk_at "g"
    refine .inr (.inr ⟨l1, l2, _, _, rfl, rfl, f18 _ _ (f17 _ _ (f16 _ _ (f15 _ _ (f14 _ _ (f13 _ _ (f12 _ _ (f11 _ _ (f10 _ _ (f9 _ _ (e_l1)))))))))), e_l2, cat_len (by show 8 + 4 ≤ 1000; decide), fun l3 h_l3 => ?_⟩)
    have f19 : XT J18 (upd J18 l3 (.lst ([.non, .str (Str.ofString "first"), .ref a1, .ref a2, .ref a3, .ref a4, .ref a5, .ref a7] ++ [.ref b2, .ref b6, .ref b8, .ref b9]))) := XT.refl.new h_l3
    have e_l3 : (upd J18 l3 (.lst ([.non, .str (Str.ofString "first"), .ref a1, .ref a2, .ref a3, .ref a4, .ref a5, .ref a7] ++ [.ref b2, .ref b6, .ref b8, .ref b9]))) l3 = some (.lst [.non, .str (Str.ofString "first"), .ref a1, .ref a2, .ref a3, .ref a4, .ref a5, .ref a7, .ref b2, .ref b6, .ref b8, .ref b9]) := upd_same
    generalize upd J18 l3 (.lst ([.non, .str (Str.ofString "first"), .ref a1, .ref a2, .ref a3, .ref a4, .ref a5, .ref a7] ++ [.ref b2, .ref b6, .ref b8, .ref b9])) = J19 at f19 e_l3 ⊢
    walk_at "g"
    refine ⟨szN (n := 1) (by decide), fun c1 h_c1 => ?_⟩
    have f20 : XT J19 (upd J19 c1 (.lst [.str (Str.ofString "in")])) := XT.refl.new h_c1
    have e_c1 : (upd J19 c1 (.lst [.str (Str.ofString "in")])) c1 = some (.lst [.str (Str.ofString "in")]) := upd_same
    generalize upd J19 c1 (.lst [.str (Str.ofString "in")]) = J20 at f20 e_c1 ⊢
    walk_at "g"
    refine ⟨szN (n := 2) (by decide), fun c2 h_c2 => ?_⟩
    have f21 : XT J20 (upd J20 c2 (.tup [.str (Str.ofString "distinct"), .ref c1])) := XT.refl.new h_c2
    have e_c2 : (upd J20 c2 (.tup [.str (Str.ofString "distinct"), .ref c1])) c2 = some (.tup [.str (Str.ofString "distinct"), .ref c1]) := upd_same
    generalize upd J20 c2 (.tup [.str (Str.ofString "distinct"), .ref c1]) = J21 at f21 e_c2 ⊢
    walk_at "g"
    refine ⟨szN (n := 4) (by decide), fun c3 h_c3 => ?_⟩
    have f22 : XT J21 (upd J21 c3 (.lst [.str (Str.ofString "a"), .str (Str.ofString "b"), .str (Str.ofString "c"), .str (Str.ofString "d")])) := XT.refl.new h_c3
    have e_c3 : (upd J21 c3 (.lst [.str (Str.ofString "a"), .str (Str.ofString "b"), .str (Str.ofString "c"), .str (Str.ofString "d")])) c3 = some (.lst [.str (Str.ofString "a"), .str (Str.ofString "b"), .str (Str.ofString "c"), .str (Str.ofString "d")]) := upd_same
    generalize upd J21 c3 (.lst [.str (Str.ofString "a"), .str (Str.ofString "b"), .str (Str.ofString "c"), .str (Str.ofString "d")]) = J22 at f22 e_c3 ⊢
    walk_at "g"
    refine ⟨szN (n := 2) (by decide), fun c4 h_c4 => ?_⟩
    have f23 : XT J22 (upd J22 c4 (.tup [.str (Str.ofString "distinct"), .ref c3])) := XT.refl.new h_c4
    have e_c4 : (upd J22 c4 (.tup [.str (Str.ofString "distinct"), .ref c3])) c4 = some (.tup [.str (Str.ofString "distinct"), .ref c3]) := upd_same
    generalize upd J22 c4 (.tup [.str (Str.ofString "distinct"), .ref c3]) = J23 at f23 e_c4 ⊢
    walk_at "g"
    refine ⟨szN (n := 1) (by decide), fun c5 h_c5 => ?_⟩
    have f24 : XT J23 (upd J23 c5 (.tup [.str (Str.ofString "Flip")])) := XT.refl.new h_c5
    have e_c5 : (upd J23 c5 (.tup [.str (Str.ofString "Flip")])) c5 = some (.tup [.str (Str.ofString "Flip")]) := upd_same
    generalize upd J23 c5 (.tup [.str (Str.ofString "Flip")]) = J24 at f24 e_c5 ⊢
    walk_at "g"
    refine ⟨szN (n := 0) (by decide), fun c6 h_c6 => ?_⟩
    have f25 : XT J24 (upd J24 c6 (.tup [])) := XT.refl.new h_c6
    have e_c6 : (upd J24 c6 (.tup [])) c6 = some (.tup []) := upd_same
    generalize upd J24 c6 (.tup []) = J25 at f25 e_c6 ⊢
    walk_at "g"
    refine ⟨szN (n := 2) (by decide), fun c7 h_c7 => ?_⟩
    have f26 : XT J25 (upd J25 c7 (.tup [.str (Str.ofString "flip"), .ref c6])) := XT.refl.new h_c7
    have e_c7 : (upd J25 c7 (.tup [.str (Str.ofString "flip"), .ref c6])) c7 = some (.tup [.str (Str.ofString "flip"), .ref c6]) := upd_same
    generalize upd J25 c7 (.tup [.str (Str.ofString "flip"), .ref c6]) = J26 at f26 e_c7 ⊢
    walk_at "g"
    refine ⟨szN (n := 0) (by decide), fun c8 h_c8 => ?_⟩
    have f27 : XT J26 (upd J26 c8 (.lst [])) := XT.refl.new h_c8
    have e_c8 : (upd J26 c8 (.lst [])) c8 = some (.lst []) := upd_same
    generalize upd J26 c8 (.lst []) = J27 at f27 e_c8 ⊢
    walk_at "g"
    refine ⟨szN (n := 1) (by decide), fun c9 h_c9 => ?_⟩
    have f28 : XT J27 (upd J27 c9 (.tup [.ref c8])) := XT.refl.new h_c9
    have e_c9 : (upd J27 c9 (.tup [.ref c8])) c9 = some (.tup [.ref c8]) := upd_same
    generalize upd J27 c9 (.tup [.ref c8]) = J28 at f28 e_c9 ⊢
    walk_at "g"
    refine ⟨szN (n := 2) (by decide), fun c10 h_c10 => ?_⟩
    have f29 : XT J28 (upd J28 c10 (.tup [.str (Str.ofString "sort"), .non])) := XT.refl.new h_c10
    have e_c10 : (upd J28 c10 (.tup [.str (Str.ofString "sort"), .non])) c10 = some (.tup [.str (Str.ofString "sort"), .non]) := upd_same
    generalize upd J28 c10 (.tup [.str (Str.ofString "sort"), .non]) = J29 at f29 e_c10 ⊢
    walk_at "g"
    refine ⟨szN (n := 6) (by decide), fun l4 h_l4 => ?_⟩
    have f30 : XT J29 (upd J29 l4 (.lst [.ref c2, .ref c4, .ref c5, .ref c7, .ref c9, .ref c10])) := XT.refl.new h_l4
    have e_l4 : (upd J29 l4 (.lst [.ref c2, .ref c4, .ref c5, .ref c7, .ref c9, .ref c10])) l4 = some (.lst [.ref c2, .ref c4, .ref c5, .ref c7, .ref c9, .ref c10]) := upd_same
    generalize upd J29 l4 (.lst [.ref c2, .ref c4, .ref c5, .ref c7, .ref c9, .ref c10]) = J30 at f30 e_l4 ⊢
    walk_at "g"
    refine .inr (.inr ⟨l3, l4, _, _, rfl, rfl, f30 _ _ (f29 _ _ (f28 _ _ (f27 _ _ (f26 _ _ (f25 _ _ (f24 _ _ (f23 _ _ (f22 _ _ (f21 _ _ (f20 _ _ (e_l3))))))))))), e_l4, cat_len (by show 12 + 6 ≤ 1000; decide), fun l5 h_l5 => ?_⟩)
    have f31 : XT J30 (upd J30 l5 (.lst ([.non, .str (Str.ofString "first"), .ref a1, .ref a2, .ref a3, .ref a4, .ref a5, .ref a7, .ref b2, .ref b6, .ref b8, .ref b9] ++ [.ref c2, .ref c4, .ref c5, .ref c7, .ref c9, .ref c10]))) := XT.refl.new h_l5
    have e_l5 : (upd J30 l5 (.lst ([.non, .str (Str.ofString "first"), .ref a1, .ref a2, .ref a3, .ref a4, .ref a5, .ref a7, .ref b2, .ref b6, .ref b8, .ref b9] ++ [.ref c2, .ref c4, .ref c5, .ref c7, .ref c9, .ref c10]))) l5 = some (.lst [.non, .str (Str.ofString "first"), .ref a1, .ref a2, .ref a3, .ref a4, .ref a5, .ref a7, .ref b2, .ref b6, .ref b8, .ref b9, .ref c2, .ref c4, .ref c5, .ref c7, .ref c9, .ref c10]) := upd_same
    generalize upd J30 l5 (.lst ([.non, .str (Str.ofString "first"), .ref a1, .ref a2, .ref a3, .ref a4, .ref a5, .ref a7, .ref b2, .ref b6, .ref b8, .ref b9] ++ [.ref c2, .ref c4, .ref c5, .ref c7, .ref c9, .ref c10])) = J31 at f31 e_l5 ⊢
    walk_at "g"
    have t0 : XT H H := XT.refl
    have t1 : XT H J1 := t0.trans f1
    have t2 : XT H J2 := t1.trans f2
    have t3 : XT H J3 := t2.trans f3
    have t4 : XT H J4 := t3.trans f4
    have t5 : XT H J5 := t4.trans f5
    have t6 : XT H J6 := t5.trans f6
    have t7 : XT H J7 := t6.trans f7
    have t8 : XT H J8 := t7.trans f8
    have t9 : XT H J9 := t8.trans f9
    have t10 : XT H J10 := t9.trans f10
    have t11 : XT H J11 := t10.trans f11
    have t12 : XT H J12 := t11.trans f12
    have t13 : XT H J13 := t12.trans f13
    have t14 : XT H J14 := t13.trans f14
    have t15 : XT H J15 := t14.trans f15
    have t16 : XT H J16 := t15.trans f16
    have t17 : XT H J17 := t16.trans f17
    have t18 : XT H J18 := t17.trans f18
    have t19 : XT H J19 := t18.trans f19
    have t20 : XT H J20 := t19.trans f20
    have t21 : XT H J21 := t20.trans f21
    have t22 : XT H J22 := t21.trans f22
    have t23 : XT H J23 := t22.trans f23
    have t24 : XT H J24 := t23.trans f24
    have t25 : XT H J25 := t24.trans f25
    have t26 : XT H J26 := t25.trans f26
    have t27 : XT H J27 := t26.trans f27
    have t28 : XT H J28 := t27.trans f28
    have t29 : XT H J29 := t28.trans f29
    have t30 : XT H J30 := t29.trans f30
    have t31 : XT H J31 := t30.trans f31
    have g31 : XT J31 J31 := XT.refl
    have g30 : XT J30 J31 := f31.trans g31
    have g29 : XT J29 J31 := f30.trans g30
    have g28 : XT J28 J31 := f29.trans g29
    have g27 : XT J27 J31 := f28.trans g28
    have g26 : XT J26 J31 := f27.trans g27
    have g25 : XT J25 J31 := f26.trans g26
    have g24 : XT J24 J31 := f25.trans g25
    have g23 : XT J23 J31 := f24.trans g24
    have g22 : XT J22 J31 := f23.trans g23
    have g21 : XT J21 J31 := f22.trans g22
    have g20 : XT J20 J31 := f21.trans g21
    have g19 : XT J19 J31 := f20.trans g20
    have g18 : XT J18 J31 := f19.trans g19
    have g17 : XT J17 J31 := f18.trans g18
    have g16 : XT J16 J31 := f17.trans g17
    have g15 : XT J15 J31 := f16.trans g16
    have g14 : XT J14 J31 := f15.trans g15
    have g13 : XT J13 J31 := f14.trans g14
    have g12 : XT J12 J31 := f13.trans g13
    have g11 : XT J11 J31 := f12.trans g12
    have g10 : XT J10 J31 := f11.trans g11
    have g9 : XT J9 J31 := f10.trans g10
    have g8 : XT J8 J31 := f9.trans g9
    have g7 : XT J7 J31 := f8.trans g8
    have g6 : XT J6 J31 := f7.trans g7
    have g5 : XT J5 J31 := f6.trans g6
    have g4 : XT J4 J31 := f5.trans g5
    have g3 : XT J3 J31 := f4.trans g4
    have g2 : XT J2 J31 := f3.trans g3
    have g1 : XT J1 J31 := f2.trans g2
    replace e_a1 := g1 _ _ e_a1
    replace e_a2 := g2 _ _ e_a2
    replace e_a3 := g3 _ _ e_a3
    replace e_a4 := g4 _ _ e_a4
    replace e_a5 := g5 _ _ e_a5
    replace e_a6 := g6 _ _ e_a6
    replace e_a7 := g7 _ _ e_a7
    replace e_l1 := g8 _ _ e_l1
    replace e_b1 := g9 _ _ e_b1
    replace e_b2 := g10 _ _ e_b2
    replace e_b3 := g11 _ _ e_b3
    replace e_b4 := g12 _ _ e_b4
    replace e_b5 := g13 _ _ e_b5
    replace e_b6 := g14 _ _ e_b6
    replace e_b7 := g15 _ _ e_b7
    replace e_b8 := g16 _ _ e_b8
    replace e_b9 := g17 _ _ e_b9
    replace e_l2 := g18 _ _ e_l2
    replace e_l3 := g19 _ _ e_l3
    replace e_c1 := g20 _ _ e_c1
    replace e_c2 := g21 _ _ e_c2
    replace e_c3 := g22 _ _ e_c3
    replace e_c4 := g23 _ _ e_c4
    replace e_c5 := g24 _ _ e_c5
    replace e_c6 := g25 _ _ e_c6
    replace e_c7 := g26 _ _ e_c7
    replace e_c8 := g27 _ _ e_c8
    replace e_c9 := g28 _ _ e_c9
    replace e_c10 := g29 _ _ e_c10
    replace e_l4 := g30 _ _ e_l4
    replace e_l5 := g31 _ _ e_l5
    have s0 : NoStep S J31 (.non) := .nos (T := "NoneType") (by decide) .non (by decide) (by decide)
    have s1 : NoStep S J31 (.str (Str.ofString "first")) := .nos (T := "str") (by decide) (.str _) (by decide) (by decide)
    have s2 : NoStep S J31 (.ref a1) := .nil (.inr e_a1)
    have s3 : NoStep S J31 (.ref a2) := .size (n := 1) (.inr e_a2) (by show 1 ≤ 5; decide) (List.mem_cons_of_mem _ (List.mem_cons_of_mem _ (List.mem_cons_of_mem _ List.mem_cons_self))) (by show ((1 : Nat) : Int) + 1 ≠ 1; decide)
    have s4 : NoStep S J31 (.ref a3) := .size (n := 2) (.inr e_a3) (by show 0 ≤ 5; decide) List.mem_cons_self (by show ((0 : Nat) : Int) + 1 ≠ 2; decide)
    have s5 : NoStep S J31 (.ref a4) := .keep (.inr e_a4) (.inr ⟨_, rfl⟩)
    have s6 : NoStep S J31 (.ref a5) := .keep (.inr e_a5) (.inl rfl)
    have s7 : NoStep S J31 (.ref a7) := .sort (d := some [none, none]) (i := 0) (.inr e_a7) (.inr ⟨a6, _, [none, none], rfl, .inr e_a6, rfl, rfl, fun i v r hv hr => by
        match i with
        | 0 => injection hv with hv; injection hr with hr; exact .inl ⟨_, hv.symm, hr.symm⟩
        | 1 => injection hv with hv; injection hr with hr; exact .inl ⟨_, hv.symm, hr.symm⟩
        | i + 2 => simp at hv⟩) (by rfl)
    have s8 : NoStep S J31 (.ref b2) := .sort (d := some []) (i := -1) (.inr e_b2) (.inr ⟨b1, [], [], rfl, .inl ⟨e_b1, (far hS t8 h_b1)⟩, rfl, rfl, fun i v r hv hr => by simp at hv⟩) (by rfl)
    have s9 : NoStep S J31 (.ref b6) := .sort (d := some [some (Str.ofString "a", true), some (Str.ofString "a", false)]) (i := 1) (.inr e_b6) (.inr ⟨b5, _, [some (Str.ofString "a", true), some (Str.ofString "a", false)], rfl, .inl ⟨e_b5, (far hS t12 h_b5)⟩, rfl, rfl, fun i v r hv hr => by
        match i with
        | 0 => injection hv with hv; injection hr with hr; exact .inr ⟨b3, (Str.ofString "a", true), hv.symm, e_b3, nm_a, hr.symm⟩
        | 1 => injection hv with hv; injection hr with hr; exact .inr ⟨b4, (Str.ofString "a", false), hv.symm, e_b4, nm_a, hr.symm⟩
        | i + 2 => simp at hv⟩) (by decide +kernel)
    have s10 : NoStep S J31 (.ref b8) := .dist (.inr e_b8) (.inr ⟨b7, [Str.ofString "a", Str.ofString "a"], rfl, .inl ⟨e_b7, (far hS t14 h_b7)⟩, by decide, fun z hz => by
        have : ∀ z ∈ [Str.ofString "a", Str.ofString "a"], z.length ≤ 100 := by decide +kernel
        exact this z hz, fun h => by have := h.2.1; simp at this⟩)
    have s11 : NoStep S J31 (.ref b9) := .dist (.inr e_b9) (.inl ⟨_, rfl⟩)
    have s12 : NoStep S J31 (.ref c2) := .dist (.inr e_c2) (.inr ⟨c1, [Str.ofString "in"], rfl, .inl ⟨e_c1, (far hS t19 h_c1)⟩, by decide, fun z hz => by
        have : ∀ z ∈ [Str.ofString "in"], z.length ≤ 100 := by decide +kernel
        exact this z hz, fun h => nm_in (h.1 _ List.mem_cons_self)⟩)
    have s13 : NoStep S J31 (.ref c4) := .dist (.inr e_c4) (.inr ⟨c3, [Str.ofString "a", Str.ofString "b", Str.ofString "c", Str.ofString "d"], rfl, .inl ⟨e_c3, (far hS t21 h_c3)⟩, by decide, fun z hz => by
        have : ∀ z ∈ [Str.ofString "a", Str.ofString "b", Str.ofString "c", Str.ofString "d"], z.length ≤ 100 := by decide +kernel
        exact this z hz, fun h => absurd h.2.2 (by decide)⟩)
    have s14 : NoStep S J31 (.ref c5) := .word (.inr e_c5) (by show 0 ≤ 5; decide) (by decide +kernel)
    have s15 : NoStep S J31 (.ref c7) := .size (n := 1) (.inr e_c7) (by show 1 ≤ 5; decide) (List.mem_cons_of_mem _ (List.mem_cons_of_mem _ (List.mem_cons_of_mem _ (List.mem_cons_of_mem _ List.mem_cons_self)))) (by show ((1 : Nat) : Int) + 1 ≠ 1; decide)
    have s16 : NoStep S J31 (.ref c9) := .wd0 (.inr e_c9) e_c8 (by show 0 ≤ 5; decide) (far hS t26 h_c8)
    have s17 : NoStep S J31 (.ref c10) := .sort (d := none) (i := -1) (.inr e_c10) (.inl ⟨rfl, rfl⟩) (by rfl)
    have all : ∀ v ∈ ([.non, .str (Str.ofString "first"), .ref a1, .ref a2, .ref a3, .ref a4, .ref a5, .ref a7, .ref b2, .ref b6, .ref b8, .ref b9, .ref c2, .ref c4, .ref c5, .ref c7, .ref c9, .ref c10] : List V), NoStep S J31 v := by
      intro v hv
      simp only [List.mem_cons, List.not_mem_nil, or_false] at hv
      rcases hv with rfl | rfl | rfl | rfl | rfl | rfl | rfl | rfl | rfl | rfl | rfl | rfl | rfl | rfl | rfl | rfl | rfl | rfl
      · exact s0
      · exact s1
      · exact s2
      · exact s3
      · exact s4
      · exact s5
      · exact s6
      · exact s7
      · exact s8
      · exact s9
      · exact s10
      · exact s11
      · exact s12
      · exact s13
      · exact s14
      · exact s15
      · exact s16
      · exact s17
    have nl : l5 ≠ p := fun z => by
      obtain ⟨xs, e⟩ := D0.at
      have := t30 _ _ e
      rw [← z, h_l5] at this
      cases this
    have hSN : ListsAt S J31 := fun a m => by
      obtain ⟨xs, e⟩ := hS a m
      exact ⟨xs, t31 _ _ e⟩
    refine ⟨p, 18, n, rfl, D0.xt t31, by omega, by decide, by decide, fun r H' r0 r1 D1 K1 => ?_⟩
    generalize hall : ([.non, .str (Str.ofString "first"), .ref a1, .ref a2, .ref a3, .ref a4, .ref a5, .ref a7, .ref b2, .ref b6, .ref b8, .ref b9, .ref c2, .ref c4, .ref c5, .ref c7, .ref c9, .ref c10] : List V) = vs at all e_l5
    have hlen : vs.length = 18 := by rw [← hall]; rfl
    obtain ⟨m, rfl⟩ := Int.eq_ofNat_of_zero_le r0
    obtain ⟨v, hv⟩ : ∃ v, vs[m]? = some v := ⟨_, List.getElem?_eq_getElem (by omega)⟩
    refine g_ixL (SqL.of (K1 _ _ nl e_l5)) (v := v) (atI_nat hv) ?_
    refine k v H' ((all v (List.mem_of_getElem? hv)).keepS hSN fun q o nq e => K1 q o (fun z => nq (by rw [z]; exact hpS)) e) D1 fun q o nq e => K1 q o nq (t31 q o e)
end
section
variable {P : Program} {w : World} {K : PySem.W.Frag} {mg : Str → Option Value} {base : Heap}
theorem ok__law_due (T : TxtW w K mg) : Def P w K mg base 1 "_law_due" ["_law_things"] (fun vs H Q _ => ∃ (L : Addr) (ys : List V) (ss : List Sx), vs = [.ref L] ∧ H L = some (.lst ys) ∧ ys.length = ss.length ∧ ss.length ≤ 10 ∧ (∀ (i : Nat) y s, ys[i]? = some y → ss[i]? = some s → ItAt (cadr mg "Test") [] H y (some s)) ∧
    ∀ (M : Addr) (ds : List Addr) H', H M = none → XT H H' → H' M = some (.lst (ds.map V.ref)) → ds.length = ss.length → (∀ (i : Nat) d s, ds[i]? = some d → ss[i]? = some s → SC (cadr mg "Test") H' d s) → Q (.ref M) H') := by
  obtain ⟨f, fd, h⟩ := T.d__law_due
  refine h.def (Fun.okM h.fn sc__law_due (fun vs H Q E h => ?_) (fun cdv A outer s H vs Q E hr h => ?_))
  · obtain ⟨L, ys, ss, rfl, _⟩ := h
    rfl
  · obtain ⟨L, ys, ss, rfl, hL, hyl, h10, hI, k⟩ := h
    refine ⟨_, (pss_cons (ps_set (i := 1) sc__law_due.nd rfl (Or.inl rfl) (pe_lst pa_nil))
  (pss_cons (ps_for PassesOwn.never rfl (pi_list (pv 0)) (pg_name (i := 2) sc__law_due.nd rfl (Or.inl rfl))
  (pss_one (ps_if (pt_cmpR op_eq (pe_ix (ix_seqG (K := K) rfl) (pv 2) pe_int (fun _ _ => rfl)) pe_str (nomark _))
  (pss_one (ps_expr (pe_bm PySem.F.plainAttrs_list PySem.F.slot_list_append PySem.F.type_list_append mt_append (pv 1) (pa_cons (pe_tup (pa_cons pe_str (pa_cons (pe_callTy (call_tupleG (K := K) rfl) (by rfl) T.h_tuple (by decide +kernel) (pa_cons (pe_lc (own := [("_law_part", 3)]) rfl sc__law_due.nd (pi_seqG (K := K) rfl (pe_ix (ix_seqG (K := K) rfl) (pv 2) pe_int (fun _ _ => rfl))) (blkOk_by (N := N__law_due) (sc := defScope S__law_due) (by decide +kernel)) (fun _ _ _ _ _ => pg_name (i := 3) sc__law_due.nd rfl (Or.inl rfl)) (fun _ _ _ _ _ => pts_nil) (fun _ _ _ _ _ => (pe_tup (pa_cons (pe_ix (ix_seqG (K := K) rfl) (pv 3) pe_int (fun _ _ => rfl)) (pa_cons (pe_ix (ix_seqG (K := K) rfl) (pv 3) pe_int (fun _ _ => rfl)) pa_nil))))) pa_nil)) pa_nil))) pa_nil))))
  (pss_one (ps_if (pt_cmpR op_eq (pe_ix (ix_seqG (K := K) rfl) (pv 2) pe_int (fun _ _ => rfl)) pe_str (nomark _))
  (pss_one (ps_expr (pe_bm PySem.F.plainAttrs_list PySem.F.slot_list_append PySem.F.type_list_append mt_append (pv 1) (pa_cons (pe_tup (pa_cons pe_str (pa_cons (pe_callTy (call_tupleG (K := K) rfl) (by rfl) T.h_tuple (by decide +kernel) (pa_cons (pe_ix (ix_seqG (K := K) rfl) (pv 2) pe_int (fun _ _ => rfl)) pa_nil)) pa_nil))) pa_nil))))
  (pss_one (ps_expr (pe_bm PySem.F.plainAttrs_list PySem.F.slot_list_append PySem.F.type_list_append mt_append (pv 1) (pa_cons (pe_callTy (call_tupleG (K := K) rfl) (by rfl) T.h_tuple (by decide +kernel) (pa_cons (pv 2) pa_nil)) pa_nil)))))))))
  (pss_one (ps_ret (pv 1))))), ?_⟩
    walk_at "g"
    refine ⟨Nat.zero_le _, fun M hM => ?_⟩
    have x1 : XT H (upd H M (.lst [])) := XT.refl.new hM
    have e1 : (upd H M (.lst [])) M = some (.lst []) := upd_same
    generalize upd H M (.lst []) = H1 at x1 e1
    walk_at "g"
    refine ⟨L, rfl, ⟨_, SqL.of (x1 _ _ hL)⟩, ?_⟩
    refine for_listA (xs := ys) (fun i σ' H' => ∃ (s2 : Option V) (ds : List Addr), σ' = [some (.ref L), some (.ref M), s2, none] ∧ XT H H' ∧ H' M = some (.lst (ds.map V.ref)) ∧ ds.length = i ∧ ∀ (j : Nat) d s, ds[j]? = some d → ss[j]? = some s → SC (cadr mg "Test") H' d s) ⟨none, [], rfl, x1, e1, rfl, fun j d s h => by simp at h⟩ (fun i σ H' _ e => by obtain ⟨_, _, _, x, _⟩ := e; exact SqL.of (x _ _ hL)) ?_ ?_
    · rintro i y σ' H2 D' hy ⟨s2, ds, rfl, x2, e2, hdl, hds⟩ hnx hct hbk hrt
      have hil : i < ys.length := (List.getElem?_eq_some_iff.mp hy).1
      obtain ⟨s, hs⟩ : ∃ s, ss[i]? = some s := ⟨_, List.getElem?_eq_getElem (by omega)⟩
      obtain ⟨q, rfl, hin, hok⟩ := hI i y s hy hs
      have hin := hin.keep x2
      have l2 : (ds.map V.ref).length < 10000000 := by rw [List.length_map]; omega
      have add : ∀ (d : Addr) (H3 : Hp) (s2' : Option V), XT H2 H3 → SC (cadr mg "Test") H3 d s → D'.nx [some (.ref L), some (.ref M), s2', none] (upd H3 M (.lst (ds.map V.ref ++ [.ref d]))) := fun d H3 s2' x3 hd => by
        have kt : KT H3 (upd H3 M (.lst (ds.map V.ref ++ [.ref d]))) := fun q o n e => by rw [upd_ne (fun z => by rw [z, x3 _ _ e2] at e; injection e with e; exact n _ e.symm)]; exact e
        refine hnx _ _ ⟨_, ds ++ [d], rfl, fun q o h => by rw [upd_ne (ne_of_none h hM)]; exact x3 _ _ (x2 _ _ h), by rw [upd_same, List.map_append]; rfl, by rw [List.length_append, hdl]; rfl, fun j d' s' hj hs' => ?_⟩
        by_cases e : j < ds.length
        · rw [List.getElem?_append_left e] at hj
          exact ((hds j d' s' hj hs').keepT (.of x3)).keepT kt
        · rw [List.getElem?_append_right (by omega)] at hj
          obtain ⟨h0, _⟩ := List.getElem?_eq_some_iff.mp hj
          have e0 : j - ds.length = 0 := by simpa using h0
          rw [e0] at hj
          obtain rfl : d = d' := by simpa using hj
          obtain rfl : j = i := by omega
          rw [hs] at hs'
          injection hs' with hs'
          subst hs'
          exact hd.keepT kt
      walk_at "g"
      cases s with
      | keep t a =>
        have hl := hin.1.sq
        refine g_ixA hl (v := .str "keep") (by rfl) ?_
        walk_at "g"
        refine g_dec (fun h => absurd h (show ("keep" : Str) ≠ "sort" by decide +kernel)) (fun _ => ?_)
        walk_at "g"
        refine g_ixA hl (v := .str "keep") (by rfl) ?_
        walk_at "g"
        refine g_dec (fun h => absurd h (show ("keep" : Str) ≠ "distinct" by decide +kernel)) (fun _ => ?_)
        walk_at "g"
        refine g_tupA hl fun u H3 x3 hu => ?_
        have e3 := x3 _ _ e2
        walk_at "g"
        exact add u H3 _ x3 ⟨hu, hin.2.keep x3⟩
      | sort o =>
        obtain ⟨l, hl, qs, h1, h2, h3⟩ := hin
        have hl := hl.sq
        have h1 := h1.sq
        have ho := hok.le
        refine g_ixA hl (v := .str "sort") (by rfl) ?_
        walk_at "g"
        refine g_dec (fun _ => ?_) (fun h => absurd rfl h)
        walk_at "g"
        refine g_seqG ?_
        walk_at "g"
        refine g_ixA hl (v := .ref l) (by rfl) ?_
        refine ⟨l, qs.map V.ref, rfl, seq_a h1, fun J hJ D hD => ?_⟩
        refine lc_new (qs.map V.ref) (fun i y H' => ∃ q, y = .ref q ∧ ∀ c, o[i]? = some c → H' q = some (.tup (pt c))) hD (fun H3 k3 => hJ H3 (seq_same h1 k3)) (by rw [List.length_map]; omega) ?_ ?_ ?_
        · rintro i y Ha Hb ⟨zs, hz⟩ ⟨q, rfl, h⟩ hk
          exact ⟨q, rfl, fun c hc => hk _ _ (fun z => by have := h c hc; rw [z, hz] at this; cases this) (h c hc)⟩
        · intro j y Hh R Sx' hy2 kh _ hR
          rw [List.getElem?_map] at hy2
          obtain ⟨q2, hq2, rfl⟩ := Option.map_eq_some_iff.mp hy2
          obtain ⟨c, hc⟩ : ∃ c, o[j]? = some c := ⟨_, List.getElem?_eq_getElem (by have := (List.getElem?_eq_some_iff.mp hq2).1; omega)⟩
          have eq2 := kh _ _ (h3 j q2 c hq2 hc)
          walk_at "g"
          refine ⟨rfl, ?_⟩
          walk_at "g"
          refine g_ixT (SqT.of eq2) (v := .str c.1) (by rfl) ?_
          walk_at "g"
          refine g_ixT (SqT.of eq2) (v := .str (dS c.2)) (by rfl) ?_
          walk_at "g"
          refine ⟨szN (n := 2) (by decide), fun t ht => ?_⟩
          exact hR _ _ (ext_newO ht) ⟨t, rfl, fun c' hc' => by
            rw [hc] at hc'
            injection hc' with hc'
            rw [← hc']
            exact upd_same⟩
        · intro H3 zs x3 hW hzl hzs
          obtain ⟨ts, rfl, hts⟩ := refs_of (H := H3) (R := fun q i => ∀ c, o[i]? = some c → H3 q = some (.tup (pt c))) hzs
          rw [List.length_map, List.length_map] at hzl
          walk_at "g"
          refine g_tupL (SqL.of hW) fun t ht => ?_
          have x4 : XT H3 (upd H3 t (.tup (ts.map V.ref))) := ext_newO ht
          have et : (upd H3 t (.tup (ts.map V.ref))) t = some (.tup (ts.map V.ref)) := upd_same
          generalize upd H3 t (.tup (ts.map V.ref)) = H4 at x4 et
          have e4 := x4 _ _ (x3 _ _ e2)
          walk_at "g"
          refine ⟨szN (n := 2) (by decide), fun u hu => ?_⟩
          have e5 := ext_newO (o := .tup [.str (Str.ofString "sort"), .ref t]) hu _ _ e4
          walk_at "g"
          exact add u _ _ (fun q o h => ext_newO hu _ _ (x4 _ _ (x3 _ _ h))) ⟨t, upd_same, ts, ext_newO hu _ _ et, by omega, fun i q c hq hc => ext_newO hu _ _ (x4 _ _ (hts i q hq c hc))⟩
      | dist ns =>
        obtain ⟨l, hl, hN⟩ := hin
        have hl := hl.sq
        refine g_ixA hl (v := .str "distinct") (by rfl) ?_
        walk_at "g"
        refine g_dec (fun h => absurd h (show ("distinct" : Str) ≠ "sort" by decide +kernel)) (fun _ => ?_)
        walk_at "g"
        refine g_ixA hl (v := .str "distinct") (by rfl) ?_
        walk_at "g"
        refine g_dec (fun _ => ?_) (fun h => absurd rfl h)
        walk_at "g"
        refine g_ixA hl (v := .ref l) (by rfl) ?_
        walk_at "g"
        refine g_tupA hN.sq fun t H3 x3 ht => ?_
        have e3 := x3 _ _ e2
        walk_at "g"
        refine ⟨szN (n := 2) (by decide), fun u hu => ?_⟩
        have e5 := ext_newO (o := .tup [.str (Str.ofString "distinct"), .ref t]) hu _ _ e3
        walk_at "g"
        exact add u _ _ (fun q o h => ext_newO hu _ _ (x3 _ _ h)) ⟨t, upd_same, ext_newO hu _ _ ht⟩
      | first =>
        have hl := Lq.sq hin
        refine g_ixA hl (v := .str "first") (by rfl) ?_
        walk_at "g"
        refine g_dec (fun h => absurd h (show ("first" : Str) ≠ "sort" by decide +kernel)) (fun _ => ?_)
        walk_at "g"
        refine g_ixA hl (v := .str "first") (by rfl) ?_
        walk_at "g"
        refine g_dec (fun h => absurd h (show ("first" : Str) ≠ "distinct" by decide +kernel)) (fun _ => ?_)
        walk_at "g"
        refine g_tupA hl fun u H3 x3 hu => ?_
        have e3 := x3 _ _ e2
        walk_at "g"
        exact add u H3 _ x3 hu
      | flip =>
        have hl := Lq.sq hin
        refine g_ixA hl (v := .str "flip") (by rfl) ?_
        walk_at "g"
        refine g_dec (fun h => absurd h (show ("flip" : Str) ≠ "sort" by decide +kernel)) (fun _ => ?_)
        walk_at "g"
        refine g_ixA hl (v := .str "flip") (by rfl) ?_
        walk_at "g"
        refine g_dec (fun h => absurd h (show ("flip" : Str) ≠ "distinct" by decide +kernel)) (fun _ => ?_)
        walk_at "g"
        refine g_tupA hl fun u H3 x3 hu => ?_
        have e3 := x3 _ _ e2
        walk_at "g"
        exact add u H3 _ x3 hu
    · rintro σ' H2 ⟨s2, ds, rfl, x2, e2, hdl, hds⟩
      walk_at "g"
      exact k M ds H2 hM x2 e2 (by omega) hds
theorem ok__law_said (T : TxtW w K mg) : Def P w K mg base 9 "_law_said" ["_law_thing"] (fun vs H Q _ => ∃ (v : V) (d : Option (List (Option Sx))), vs = [v] ∧ HdAt (cadr mg "Test") [] H v d ∧ ∀ t H', XT H H' → (∀ i, faultP d = some i → H' t = some (.tup [.str "refused", .str "steps", .int i])) →
    (∀ ss, d = some (ss.map some) → faultP d = none → ∃ x, H' t = some (.tup [.str "told", .ref x]) ∧ PlanAt (cadr mg "Plan") (cadr mg "Test") H' ss x) → Q (.ref t) H') := by
  obtain ⟨f, fd, h⟩ := T.d__law_said
  obtain ⟨fE_BadPlan, EB_BadPlan⟩ := T.x_BadPlan
  refine h.def (Fun.okM h.fn sc__law_said (fun vs H Q E h => ?_) (fun cdv A outer s H vs Q E hr h => ?_))
  · obtain ⟨v, d, rfl, _⟩ := h
    rfl
  · obtain ⟨v, d, rfl, hv, k⟩ := h
    refine ⟨_, (pss_one (ps_try_as (i := 1) (Wout := fun _ _ _ _ => False) rfl rfl sc__law_said.nd rfl rfl ⟨rfl, by decide, Or.inl EB_BadPlan.gC⟩ takes0 (fun W pn xe tk _ =>
  (pss_one (ps_ret (pe_tup (pa_cons pe_str (pa_cons (pe_newX tk (ok_Plan_init T) hr rfl T.e_Plan (pa_cons (pv 0) pa_nil)) pa_nil))))))
  (fun a oe cls d pn hz hf => (pss_one (ps_ret (pe_tup (pa_cons pe_str (pa_cons (pe_byBadPlan_why EB_BadPlan hz hf (pv 1)) (pa_cons (pe_byBadPlan_at EB_BadPlan hz hf (pv 1)) pa_nil))))))))), ?_⟩
    walk_at "g"
    refine g_newX ?_
    walk_at "g"
    intro x dx hx hdx hne
    have xN : XT H (upd (upd H dx (.own x)) x (.ins (cadr mg "Plan") dx [])) := fun q o h => by rw [upd_ne (ne_of_none h hx), upd_ne (ne_of_none h hdx)]; exact h
    refine ⟨x, dx, v, d, rfl, upd_same, hv.keep xN, fun i hi e H' k' he => ?_, fun ss hd hn H' k' hP => ⟨rfl, ?_⟩⟩
    · have xx : XT H H' := fun q o h => k' q o (xN q o h)
      refine ⟨true, EB_BadPlan.te, fun _ a0 ha0 => ?_, fun q => Bool.noConfusion q⟩
      walk_at "g"
      refine ⟨_, rfl, rfl, rfl, e, _, _, rfl, he, ?_⟩
      walk_at "g"
      refine ⟨_, rfl, rfl, rfl, e, _, _, rfl, he, ?_⟩
      walk_at "g"
      refine ⟨szN (n := 3) (by decide), fun t ht => ?_⟩
      refine k t _ (xx.new ht) (fun j hj => ?_) (fun ss _ hn => by rw [hi] at hn; cases hn)
      rw [hi] at hj
      injection hj with hj
      rw [← hj]
      exact upd_same
    · have xx : XT H H' := fun q o h => k' q o (ne_of_none h hx) (xN q o h)
      walk_at "g"
      refine ⟨szN (n := 2) (by decide), fun t ht => ?_⟩
      refine k t _ (xx.new ht) (fun i hi => by rw [hn] at hi; cases hi) fun ss' hd' _ => ⟨x, upd_same, ?_⟩
      have e : ss = ss' := some_inj (Option.some.inj (hd.symm.trans hd'))
      rw [← e]
      exact hP.keep (XT.refl.new ht)
end
theorem SIn.front {C : Addr} {S : List Addr} {H : Hp} {q : Addr} {s : Sx} (h : SIn C S H q s) : ∃ r, Lq S H q (.str s.word :: r) := by
  cases s with
  | keep t a => exact ⟨_, h.1⟩
  | sort o => obtain ⟨l, a, _⟩ := h; exact ⟨_, a⟩
  | dist ns => obtain ⟨l, a, _⟩ := h; exact ⟨_, a⟩
  | first => exact ⟨_, h⟩
  | flip => exact ⟨_, h⟩
theorem opts_of {α : Type} {R : V → α → Prop} : ∀ {ys : List V}, (∀ y ∈ ys, ∃ s, R y s) → ∃ ss : List α, ss.length = ys.length ∧ ∀ (i : Nat) y s, ys[i]? = some y → ss[i]? = some s → R y s
  | [], _ => ⟨[], rfl, fun i y s h => by simp at h⟩
  | y :: ys, h => by
    obtain ⟨s, hs⟩ := h y List.mem_cons_self
    obtain ⟨ss, h1, h2⟩ := opts_of fun z hz => h z (List.mem_cons_of_mem _ hz)
    refine ⟨s :: ss, by rw [List.length_cons, List.length_cons, h1], fun i z t hz ht => ?_⟩
    cases i with
    | zero =>
      simp at hz ht
      subst hz ht
      exact hs
    | succ i =>
      simp at hz ht
      exact h2 i z t hz ht
theorem firstN_app {r : Option Sx} : ∀ {l : List (Option Sx)} {k : Nat}, firstN k (l ++ [r]) = match firstN k l with
    | some j => some j
    | none => if r.isSome = true then none else some (k + l.length)
  | [], k => by cases r <;> rfl
  | none :: l, k => rfl
  | some s :: l, k => by
    show firstN (k + 1) (l ++ [r]) = _
    rw [firstN_app]
    show (match firstN (k + 1) l with | some j => some j | none => if r.isSome = true then none else some (k + 1 + l.length)) = (match firstN (k + 1) l with | some j => some j | none => if r.isSome = true then none else some (k + (l.length + 1)))
    rw [show k + 1 + l.length = k + (l.length + 1) by omega]
def fV : Option Int → V
  | none => .non
  | some i => .int i
/-- what is told of the first i things -/
def fTake (rs : List (Option Sx)) (i : Nat) : Option Int := if 5 < rs.length then some (-1) else (firstN 0 (rs.take i)).map Int.ofNat
theorem fTake_all {rs : List (Option Sx)} : fTake rs rs.length = faultP (some rs) := by
  unfold fTake
  rw [List.take_length]
  rfl
theorem fTake_step {rs : List (Option Sx)} {i : Nat} {r : Option Sx} (h : rs[i]? = some r) : fTake rs (i + 1) = match fTake rs i with
    | some j => some j
    | none => if r.isSome = true then none else some (i : Int) := by
  unfold fTake
  have hi := (List.getElem?_eq_some_iff.mp h).1
  by_cases h5 : 5 < rs.length
  · rw [if_pos h5, if_pos h5]
  · rw [if_neg h5, if_neg h5, List.take_succ, h]
    show (firstN 0 (rs.take i ++ [r])).map Int.ofNat = _
    rw [firstN_app, List.length_take, Nat.min_eq_left (by omega), Nat.zero_add]
    cases firstN 0 (rs.take i) with
    | some j => rfl
    | none => cases r <;> rfl
theorem ixN_nat {n j : Nat} (h : j < n) : ixN n (j : Int) = some j := by
  unfold ixN
  rw [if_pos (by omega), if_pos (by omega), Int.toNat_natCast]
theorem cut_tail {xs : List V} : cutV xs (some 1) none = xs.tail := by
  unfold cutV
  rw [show ((1 : Int)) = ((1 : Nat) : Int) from rfl, HT.sIx_nat, HT.sIx_none]
  cases xs with
  | nil => rfl
  | cons x r =>
    rw [List.length_cons, Nat.min_eq_left (by omega)]
    show (r.take (r.length + 1 - 1)) = r
    rw [Nat.add_sub_cancel, List.take_length]
theorem PD.lists {H : Hp} {p G : Addr} {n : Nat} {ys : List V} (D : PD H p n) (hG : H G = some (.lst ys)) : ListsAt [G, p] H := fun a m => by
  rcases List.mem_cons.mp m with rfl | m
  · exact ⟨_, hG⟩
  · rw [List.mem_singleton.mp m]; exact D.at
/-- the law's things -/
structure Things (C : Addr) (H : Hp) (p G N : Addr) (ys : List V) (rs : List (Option Sx)) (us : List Addr) : Prop where
  g : H G = some (.lst ys)
  len : ys.length = rs.length
  six : rs.length ≤ 6
  it : ∀ (i : Nat) y r, ys[i]? = some y → rs[i]? = some r → ItAt C [G, p] H y r
  n : H N = some (.lst (us.map V.ref))
  ten : us.length ≤ 6
  ts : ∀ u ∈ us, ∃ (a : At) (κ : List (Str × Bool)), TestAt C H a.ts u ∧ a.Wf κ
  mem : ∀ t a, some (Sx.keep t a) ∈ rs → t ∈ us
  gn : G ≠ N
theorem Things.keep {C : Addr} {H H' : Hp} {p G N : Addr} {ys : List V} {rs : List (Option Sx)} {us : List Addr} {n : Nat} (h : Things C H p G N ys rs us) (D : PD H p n) (ng : G ≠ p) (nn : N ≠ p) (k : Keep p H H') : Things C H' p G N ys rs us := by
  have hS := D.lists h.g
  have k2 : KeepS [G, p] H H' := fun q o n e => k q o (fun z => n (by rw [z]; exact List.mem_cons_of_mem _ List.mem_cons_self)) e
  exact ⟨k _ _ ng h.g, h.len, h.six, fun i y r hy hr => (h.it i y r hy hr).keepS hS k2, k _ _ nn h.n, h.ten, fun u hu => by
    obtain ⟨a, κ, h1, h2⟩ := h.ts u hu
    exact ⟨a, κ, h1.keepT (hS.kt k2), h2⟩, h.mem, h.gn⟩
theorem Things.keepX {C : Addr} {H H' : Hp} {p G N : Addr} {ys : List V} {rs : List (Option Sx)} {us : List Addr} (h : Things C H p G N ys rs us) (D : ListsAt [G, p] H) (k : XT H H') : Things C H' p G N ys rs us :=
  ⟨k _ _ h.g, h.len, h.six, fun i y r hy hr => (h.it i y r hy hr).keepS D (.of k), k _ _ h.n, h.ten, fun u hu => by
    obtain ⟨a, κ, h1, h2⟩ := h.ts u hu
    exact ⟨a, κ, h1.keep k, h2⟩, h.mem, h.gn⟩
theorem Things.set {C : Addr} {H : Hp} {p G N : Addr} {ys : List V} {rs : List (Option Sx)} {us : List Addr} {v : V} {j : Nat} (h : Things C H p G N ys rs us) (D : ListsAt [G, p] H) (hj : j < ys.length) (hv : NoStep [G, p] H v) : Things C (upd H G (.lst (ys.set j v))) p G N (ys.set j v) (rs.set j none) us := by
  have k2 : KeepS [G, p] H (upd H G (.lst (ys.set j v))) := fun q o n e => by rw [upd_ne (fun z => n (by rw [z]; exact List.mem_cons_self))]; exact e
  refine ⟨upd_same, by rw [List.length_set, List.length_set, h.len], by rw [List.length_set]; exact h.six, fun i y r hy hr => ?_, by rw [upd_ne (Ne.symm h.gn)]; exact h.n, h.ten, fun u hu => ?_, fun t a hm => ?_, h.gn⟩
  · by_cases e : j = i
    · subst e
      rw [List.getElem?_set_self hj] at hy
      rw [List.getElem?_set_self (by have := h.len; omega)] at hr
      injection hy with hy
      injection hr with hr
      subst hy hr
      exact NoStep.keepS hv D k2
    · rw [List.getElem?_set_ne e] at hy hr
      exact (h.it i y r hy hr).keepS D k2
  · obtain ⟨a, κ, h1, h2⟩ := h.ts u hu
    exact ⟨a, κ, h1.keepT (D.kt k2), h2⟩
  · rcases List.mem_or_eq_of_mem_set hm with hm | hm
    · exact h.mem t a hm
    · cases hm
theorem word_ne {s : Sx} (h : ∀ t a, s ≠ .keep t a) : s.word ≠ Str.ofString "keep" := by
  cases s with
  | keep t a => exact absurd rfl (h t a)
  | sort o => show Str.ofString "sort" ≠ _; decide +kernel
  | dist ns => show Str.ofString "distinct" ≠ _; decide +kernel
  | first => show Str.ofString "first" ≠ _; decide +kernel
  | flip => show Str.ofString "flip" ≠ _; decide +kernel
theorem upd_twice {H : Hp} {p : Addr} {a b : HO} : upd (upd H p a) p b = upd H p b := by
  funext q
  by_cases h : q = p
  · rw [h, upd_same, upd_same]
  · rw [upd_ne h, upd_ne h, upd_ne h]
theorem ListsAt.keep {S : List Addr} {H H' : Hp} (h : ListsAt S H) (k : XT H H') : ListsAt S H' := fun a m => by
  obtain ⟨xs, e⟩ := h a m
  exact ⟨xs, k _ _ e⟩
/-- kept steps, a list of them -/
def DueAt (C : Addr) (H : Hp) (M : Addr) (ss : List Sx) : Prop := ∃ ds : List Addr, H M = some (.lst (ds.map V.ref)) ∧ ds.length = ss.length ∧ ∀ (i : Nat) d s, ds[i]? = some d → ss[i]? = some s → SC C H d s
theorem DueAt.keep {C : Addr} {H H' : Hp} {M : Addr} {ss : List Sx} (h : DueAt C H M ss) (k : XT H H') : DueAt C H' M ss := by
  obtain ⟨ds, h1, h2, h3⟩ := h
  exact ⟨ds, k _ _ h1, h2, fun i d s hd hs => (h3 i d s hd hs).keepT (.of k)⟩
theorem DueAt.keepL {C : Addr} {H : Hp} {M l : Addr} {ss : List Sx} {xs ys : List V} (h : DueAt C H M ss) (hl : H l = some (.lst xs)) (n : M ≠ l) : DueAt C (upd H l (.lst ys)) M ss := by
  obtain ⟨ds, h1, h2, h3⟩ := h
  exact ⟨ds, by rw [upd_ne n]; exact h1, h2, fun i d s hd hs => (h3 i d s hd hs).keepT fun q o no e => by rw [upd_ne (fun z => by rw [z, hl] at e; injection e with e; exact no _ e.symm)]; exact e⟩
theorem kt_list {H : Hp} {l : Addr} {xs ys : List V} (hl : H l = some (.lst xs)) : KT H (upd H l (.lst ys)) := fun q o no e => by rw [upd_ne (fun z => by rw [z, hl] at e; injection e with e; exact no _ e.symm)]; exact e
theorem due_items {C : Addr} {K : PySem.W.Frag} {H : Hp} {ts ds : List Addr} {ss : List Sx} (h1 : ts.length = ss.length) (h2 : ∀ (i : Nat) t s, ts[i]? = some t → ss[i]? = some s → SC C H t s) (g2 : ∀ (i : Nat) d s, ds[i]? = some d → ss[i]? = some s → SC C H d s) : ∀ (i : Nat) x y, (ts.map V.ref)[i]? = some x → (ds.map V.ref)[i]? = some y → EqNest K H 4 x y true := by
  intro i x y hx hy
  rw [List.getElem?_map] at hx hy
  obtain ⟨p, hp, rfl⟩ := Option.map_eq_some_iff.mp hx
  obtain ⟨q, hq, rfl⟩ := Option.map_eq_some_iff.mp hy
  obtain ⟨s, hs⟩ : ∃ s, ss[i]? = some s := ⟨_, List.getElem?_eq_getElem (by have := (List.getElem?_eq_some_iff.mp hp).1; omega)⟩
  exact sc_eq (h2 i p s hp hs) (g2 i q s hq hs)
/-- things of references, each a step -/
theorem hd_refs {C : Addr} {H : Hp} {l : Addr} {qs : List Addr} {ss : List Sx} (h : H l = some (.lst (qs.map V.ref))) (hl : qs.length = ss.length) (hs : ∀ (i : Nat) q s, qs[i]? = some q → ss[i]? = some s → SIn C [] H q s ∧ XOk s) : HdAt C [] H (.ref l) (some (ss.map some)) := by
  refine .seq (.inl h) (by rw [List.length_map, List.length_map, hl]) fun i x r hx hr => ?_
  rw [List.getElem?_map] at hx hr
  obtain ⟨q, hq, rfl⟩ := Option.map_eq_some_iff.mp hx
  obtain ⟨s, hs1, rfl⟩ := Option.map_eq_some_iff.mp hr
  obtain ⟨a, b⟩ := hs i q s hq hs1
  exact ⟨q, rfl, a, b⟩
theorem firstN_some : ∀ {ss : List Sx} {i : Nat}, firstN i (ss.map some) = none
  | [], _ => rfl
  | _ :: r, i => firstN_some (ss := r) (i := i + 1)
theorem fault_no {ss : List Sx} (h : ss.length ≤ 5) : faultP (some (ss.map some)) = none := by
  rw [fault_short (by rw [List.length_map]; omega), firstN_some]
  rfl
theorem app_get {qs : List Addr} {ss : List Sx} {R : Addr → Sx → Prop} {q0 : Addr} {s0 : Sx} (hl : qs.length = ss.length) (h : ∀ (i : Nat) q s, qs[i]? = some q → ss[i]? = some s → R q s) (h0 : R q0 s0) : ∀ (i : Nat) q s, (qs ++ [q0])[i]? = some q → (ss ++ [s0])[i]? = some s → R q s := by
  intro i q s hq hs
  by_cases e : i < qs.length
  · rw [List.getElem?_append_left e] at hq
    rw [List.getElem?_append_left (by omega)] at hs
    exact h i q s hq hs
  · rw [List.getElem?_append_right (by omega)] at hq
    rw [List.getElem?_append_right (by omega), ← hl] at hs
    obtain ⟨h1, _⟩ := List.getElem?_eq_some_iff.mp hq
    have e0 : i - qs.length = 0 := by simpa using h1
    rw [e0] at hq hs
    obtain rfl : q0 = q := by simpa using hq
    obtain rfl : s0 = s := by simpa using hs
    exact h0
theorem tail_get {α : Type} {xs : List α} {i : Nat} : xs.tail[i]? = xs[i + 1]? := by cases xs <;> simp
theorem sq_inj {H : Hp} {q : Addr} {xs ys : List V} (h : H q = some (.lst xs) ∨ H q = some (.tup xs)) (h' : H q = some (.lst ys) ∨ H q = some (.tup ys)) : xs = ys := by
  rcases h with h | h <;> rcases h' with h' | h' <;> rw [h] at h' <;> injection h' with h' <;> injection h'
theorem SIn.copy {C : Addr} {S : List Addr} {H : Hp} {q l : Addr} {s : Sx} {xs : List V} (h : SIn C S H q s) (hx : H q = some (.lst xs) ∨ H q = some (.tup xs)) (hl : H l = none) (hS : l ∉ S) : SIn C S (upd H l (.lst xs)) l s := by
  have k : XT H (upd H l (.lst xs)) := ext_newO hl
  cases s with
  | keep t a =>
    obtain rfl := sq_inj h.1.sq hx
    exact ⟨.inl ⟨upd_same, hS⟩, h.2.keep k⟩
  | sort o =>
    obtain ⟨l', a, qs, h1, h2, h3⟩ := h
    obtain rfl := sq_inj a.sq hx
    exact ⟨l', .inl ⟨upd_same, hS⟩, qs, h1.keep k, h2, fun i q c hq hc => k _ _ (h3 i q c hq hc)⟩
  | dist ns =>
    obtain ⟨l', a, b⟩ := h
    obtain rfl := sq_inj a.sq hx
    exact ⟨l', .inl ⟨upd_same, hS⟩, b.keep k⟩
  | first =>
    obtain rfl := sq_inj (Lq.sq h) hx
    exact .inl ⟨upd_same, hS⟩
  | flip =>
    obtain rfl := sq_inj (Lq.sq h) hx
    exact .inl ⟨upd_same, hS⟩
def spLaw (K : PySem.W.Frag) : Sp := fun vs H Q _ => ∃ (a : Addr) (ns : List Int), vs = [.ref a] ∧ SqL K H a (ns.map V.int) ∧ ns.length ≤ 63 ∧ ∀ H', Q (.bl true) H'
section
variable {P : Program} {w : World} {K : PySem.W.Frag} {mg : Str → Option Value} {base : Heap}
theorem ok_law (T : TxtW w K mg) {f : Addr} {fd : FuncData} (F : Fun K "law" "law" S_law f fd) : FnOk P w K mg base CX0 12 f fd ["_law_script"] (spLaw K) := by
  refine Fun.okM F sc_law (fun vs H Q E h => ?_) (fun cdv A outer s H vs Q E hr h => ?_)
  · obtain ⟨a, ns, rfl, _⟩ := h
    rfl
  · obtain ⟨a, ns, rfl, hS, hlen, k⟩ := h
    refine ⟨_, (pss_cons (ps_set (i := 1) sc_law.nd rfl (Or.inl rfl) (pe_def (ok__law_pool T) hr rfl (pa_cons (pv 0) (pa_cons pe_int pa_nil))))
  (pss_cons (ps_set (i := 2) sc_law.nd rfl (Or.inl rfl) (pe_def (ok__law_draw T) hr rfl (pa_cons (pv 1) (pa_cons pe_int pa_nil))))
  (pss_cons (ps_set (i := 3) sc_law.nd rfl (Or.inl rfl) (pe_cmpR op_eq (pe_def (ok__law_draw T) hr rfl (pa_cons (pv 1) (pa_cons pe_int pa_nil))) pe_int (nomark _)))
  (pss_cons (ps_set (i := 4) sc_law.nd rfl (Or.inr rfl) (pe_def (ok__law_columns T) hr rfl (pa_cons (pe_def (ok__law_pool T) hr rfl (pa_cons (pv 0) (pa_cons pe_int pa_nil))) (pa_cons pe_int pa_nil))))
  (pss_cons (ps_setLc (i := 5) (own := [("_law_k", 15)]) rfl sc_law.nd rfl rfl (sw_true rfl rfl rfl (by decide +kernel)) (pi_range1 rfl T.h_range (pa_cons (pe_def (ok__law_draw T) hr rfl (pa_cons (pv 1) (pa_cons pe_int pa_nil))) pa_nil)) (blkOk_by (N := N_law) (sc := defScope S_law) (by decide +kernel)) (fun _ _ _ _ _ => pg_name (i := 15) sc_law.nd rfl (Or.inl rfl)) (fun _ _ _ _ _ => pts_nil) (fun _ _ _ _ _ => (pe_def (ok__law_made_step T) hr rfl (pa_cons (pe_def (ok__law_step T) hr rfl (pa_cons (pe_def (ok__law_pool T) hr rfl (pa_cons (pv 0) (pa_cons (pe_op op_addG pe_int (pv 15)) pa_nil))) (pa_cons (pv 4) pa_nil))) pa_nil))))
  (pss_cons (ps_setLc (i := 6) (own := [("_law_thing", 16)]) rfl sc_law.nd rfl rfl (sw_true rfl rfl rfl (by decide +kernel)) (pi_list (pv 5)) (blkOk_by (N := N_law) (sc := defScope S_law) (by decide +kernel)) (fun _ _ _ _ _ => pg_name (i := 16) sc_law.nd rfl (Or.inl rfl)) (fun _ _ _ _ _ => pts_one (pt_cmpR op_eq (pe_ix (ix_seqG (K := K) rfl) (pv 16) pe_int (fun _ _ => rfl)) pe_str (nomark _))) (fun _ _ _ _ _ => (pe_ix (ix_seqG (K := K) rfl) (pv 16) pe_int (fun _ _ => rfl))))
  (Evl.pss_cut (ps_if (PW.pt (pw_and (pt_cmpR op_gtG (pv 2) pe_int (nomark _)) (pw_and1 (pt_cmpR op_gtG (pe_callB (call_lenG (K := K) rfl) (by rfl) T.h_len (by decide +kernel) (pa_cons (pv 5) pa_nil)) pe_int (nomark _)))))
  (pss_one (ps_asg (pe_def (ok__law_odd T) hr rfl (pa_cons (pv 1) pa_nil)) (pg_sub (pv 5) (pe_def (ok__law_draw T) hr rfl (pa_cons (pv 1) (pa_cons (pe_callB (call_lenG (K := K) rfl) (by rfl) T.h_len (by decide +kernel) (pa_cons (pv 5) pa_nil)) pa_nil))) set_list)))
  pss_nil)
  (pss_cons (ps_set (i := 7) sc_law.nd rfl (Or.inl rfl) pe_non)
  (Evl.pss_cut (ps_if (pt_cmpR op_gtG (pe_callB (call_lenG (K := K) rfl) (by rfl) T.h_len (by decide +kernel) (pa_cons (pv 5) pa_nil)) pe_int (nomark _))
  (pss_one (ps_set (i := 7) sc_law.nd rfl (Or.inl rfl) (pe_un un_negG pe_int)))
  pss_nil)
  (pss_cons (ps_for PassesOwn.never rfl (pi_range1 rfl T.h_range (pa_cons (pe_callB (call_lenG (K := K) rfl) (by rfl) T.h_len (by decide +kernel) (pa_cons (pv 5) pa_nil)) pa_nil)) (pg_name (i := 8) sc_law.nd rfl (Or.inl rfl))
  (pss_one (ps_if (PW.pt (pw_and (pt_cmpR op_isNG (pv 7) pe_non (nomark _)) (pw_and1 (pt_not (pt_val (pe_def (ok__law_right T) hr rfl (pa_cons (pe_ix (ix_seqG (K := K) rfl) (pv 5) (pv 8) (fun _ _ => rfl)) (pa_cons (pv 6) pa_nil))))))))
  (pss_one (ps_set (i := 7) sc_law.nd rfl (Or.inl rfl) (pv 8)))
  pss_nil)))
  (pss_cons (ps_set (i := 9) sc_law.nd rfl (Or.inl rfl) (pe_callTy (call_listG (K := K) rfl) (by rfl) T.h_list (by decide +kernel) (pa_cons (pv 5) pa_nil)))
  (Evl.pss_cut (ps_if (pt_val (pv 3))
  (pss_one (ps_set (i := 9) sc_law.nd rfl (Or.inl rfl) (pe_callTy (call_tupleG (K := K) rfl) (by rfl) T.h_tuple (by decide +kernel) (pa_cons (pv 5) pa_nil))))
  pss_nil)
  (Evl.pss_cut (ps_if (pt_cmpR op_eq (pv 2) pe_int (nomark _))
  (pss_cons (ps_set (i := 9) sc_law.nd rfl (Or.inl rfl) (pe_ix (ix_seqG (K := K) rfl) (pe_lst (pa_cons pe_non (pa_cons pe_str (pa_cons pe_int (pa_cons (pe_disp (pps_cons pe_str pe_int pps_nil) (by rfl) (by rfl) (fun z => by cases z) (by decide)) (pa_cons pe_bl pa_nil)))))) (pe_def (ok__law_draw T) hr rfl (pa_cons (pv 1) (pa_cons pe_int pa_nil))) (fun _ _ => rfl)))
  (pss_one (ps_set (i := 7) sc_law.nd rfl (Or.inl rfl) (pe_un un_negG pe_int))))
  pss_nil)
  (pss_cons (ps_set (i := 10) sc_law.nd rfl (Or.inl rfl) (pe_def (ok__law_said T) hr rfl (pa_cons (pv 9) pa_nil)))
  (pss_cons (ps_if (pt_cmpR op_notNG (pv 7) pe_non (nomark _))
  (pss_one (ps_ret (pe_and (pe_cmpR op_eq (pe_ix (ix_seqG (K := K) rfl) (pv 10) pe_int (fun _ _ => rfl)) pe_str (nomark _)) (pe_and (pe_cmpR op_eq (pe_ix (ix_seqG (K := K) rfl) (pv 10) pe_int (fun _ _ => rfl)) pe_str (nomark _)) (pe_and (pe_def (ok__law_int T) hr rfl (pa_cons (pe_ix (ix_seqG (K := K) rfl) (pv 10) pe_int (fun _ _ => rfl)) pa_nil)) (pe_one (pe_cmpR op_eq (pe_ix (ix_seqG (K := K) rfl) (pv 10) pe_int (fun _ _ => rfl)) (pv 7) (nomark _))))))))
  pss_nil)
  (pss_cons (ps_if (pt_cmpR op_ne (pe_ix (ix_seqG (K := K) rfl) (pv 10) pe_int (fun _ _ => rfl)) pe_str (nomark _))
  (pss_one (ps_ret pe_bl))
  pss_nil)
  (pss_cons (ps_set (i := 11) sc_law.nd rfl (Or.inl rfl) (pe_def (ok__law_due T) hr rfl (pa_cons (pv 5) pa_nil)))
  (pss_cons (ps_set (i := 12) sc_law.nd rfl (Or.inl rfl) (pe_ix (ix_seqG (K := K) rfl) (pv 10) pe_int (fun _ _ => rfl)))
  (pss_cons (ps_set (i := 13) sc_law.nd rfl (Or.inl rfl) (pe_newX takes0 (ok_Plan_init T) hr rfl T.e_Plan (pa_cons (pe_lc (own := [("_law_thing", 16)]) rfl sc_law.nd (pi_list (pv 5)) (blkOk_by (N := N_law) (sc := defScope S_law) (by decide +kernel)) (fun _ _ _ _ _ => pg_name (i := 16) sc_law.nd rfl (Or.inl rfl)) (fun _ _ _ _ _ => pts_nil) (fun _ _ _ _ _ => (pe_callTy (call_listG (K := K) rfl) (by rfl) T.h_list (by decide +kernel) (pa_cons (pv 16) pa_nil)))) pa_nil)))
  (Evl.pss_cut (ps_if (pt_not (pt_val (pv 3)))
  (pss_one (ps_expr (pe_bm PySem.F.plainAttrs_list PySem.F.slot_list_append PySem.F.type_list_append mt_append (pv 9) (pa_cons (pe_tup (pa_cons pe_str pa_nil)) pa_nil))))
  pss_nil)
  (pss_cons (ps_set (i := 14) sc_law.nd rfl (Or.inl rfl) (pe_me0 (pv 12) T.cl_Plan (ok_Plan_steps T) hr))
  (pss_cons (ps_if (PW.pt (pw_or (pt_not (pt_val (pe_callB (call_isiG (K := K) rfl) (by rfl) T.h_isinstance (by decide +kernel) (pa_cons (pv 14) (pa_cons (pe_bltn (v := .ty "list") (by rfl) T.h_list (by decide +kernel) rfl) pa_nil))))) (pw_or (pt_cmpR (op_neNest (K := K) rfl (hu64_of hr)) (pv 14) (pv 11) (nomark _)) (pw_or (pt_not (pt_val (pe_def (ok__law_int T) hr rfl (pa_cons (pe_callB (call_lenOwn (ok_Plan_len T) hr) (by rfl) T.h_len (by decide +kernel) (pa_cons (pv 12) pa_nil)) pa_nil)))) (pw_or1 (pt_cmpR op_ne (pe_callB (call_lenOwn (ok_Plan_len T) hr) (by rfl) T.h_len (by decide +kernel) (pa_cons (pv 12) pa_nil)) (pe_callB (call_lenG (K := K) rfl) (by rfl) T.h_len (by decide +kernel) (pa_cons (pv 11) pa_nil)) (nomark _)))))))
  (pss_one (ps_ret pe_bl))
  pss_nil)
  (pss_cons (ps_expr (pe_bm PySem.F.plainAttrs_list PySem.F.slot_list_append PySem.F.type_list_append mt_append (pv 14) (pa_cons (pe_tup (pa_cons pe_str pa_nil)) pa_nil)))
  (pss_cons (ps_if (PW.pt (pw_or (pt_cmpR (op_neNest (K := K) rfl (hu64_of hr)) (pe_me0 (pv 12) T.cl_Plan (ok_Plan_steps T) hr) (pv 11) (nomark _)) (pw_or (pt_not (pt_cmpR (op_eqOwn (K := K) rfl (ok_Plan_eq T) hr) (pv 12) (pv 13) (nomark _))) (pw_or (pt_cmpR (op_neOwn (K := K) rfl T.ne_Plan (ok_Plan_eq T) hr) (pv 12) (pv 13) (nomark _)) (pw_or1 (pt_cmpR (op_eqOwn (K := K) rfl (ok_Plan_eq T) hr) (pv 12) (pv 11) (nomark _)))))))
  (pss_one (ps_ret pe_bl))
  pss_nil)
  (pss_one (ps_ret (pe_or (pe_cmpR op_eq (pe_callB (call_lenG (K := K) rfl) (by rfl) T.h_len (by decide +kernel) (pa_cons (pv 11) pa_nil)) pe_int (nomark _)) (pe_one (pe_and (pe_cmpR (op_neOwn (K := K) rfl T.ne_Plan (ok_Plan_eq T) hr) (pv 12) (pe_newX takes0 (ok_Plan_init T) hr rfl T.e_Plan (pa_cons (pe_op op_addG (pv 11) (pe_lst (pa_cons (pe_tup (pa_cons pe_str pa_nil)) pa_nil))) pa_nil)) (nomark _)) (pe_one (pe_cmpR (op_eqOwn (K := K) rfl (ok_Plan_eq T) hr) (pe_newX takes0 (ok_Plan_init T) hr rfl T.e_Plan (pa_cons (pe_op op_addG (pe_slice (sl_G (K := K) rfl) (pv 11) (po_some pe_int) po_none) (pe_lst (pa_cons (pe_tup (pa_cons pe_str pa_nil)) pa_nil))) pa_nil)) (pe_newX takes0 (ok_Plan_init T) hr rfl T.e_Plan (pa_cons (pe_op op_addG (pe_slice (sl_G (K := K) rfl) (pv 11) (po_some pe_int) po_none) (pe_lst (pa_cons (pe_lst (pa_cons pe_str pa_nil)) pa_nil))) pa_nil)) (nomark _)))))))))))))))))))))))))))))))), ?_⟩
    walk_at "g"
    refine ⟨a, ns, 0, rfl, hS, hlen, by decide, fun p H1 hp S1 D0 => ?_⟩
    walk_at "g"
    refine ⟨p, 8, 200000, rfl, D0, by decide, by decide, by decide, fun r1 H2 r10 r11 D1 K1 => ?_⟩
    walk_at "g"
    refine ⟨p, 2, _, rfl, D1, by decide, by decide, by decide, fun r2 H3 r20 r21 D2 K2 => ?_⟩
    have x03 : XT H H3 := XT.pool S1 hp (K1.trans K2)
    clear D0 D1 S1 K1 K2
    walk_at "g"
    generalize decide (r2 = 1) = tp
    clear r20 r21
    refine ⟨a, ns, 1, rfl, xtL hS x03, hlen, by decide, fun p1 H4 hp1 S4 D4 => ?_⟩
    walk_at "g"
    refine ⟨p1, 3, 200000, rfl, D4, by decide, by decide, by decide, fun L cs H5 hcs hC hL0 K5 => ?_⟩
    have x35 : XT H3 H5 := XT.pool S4 hp1 K5
    have D5 := D2.xt x35
    have x05 := x03.trans x35
    have hLp : L ≠ p := by
      obtain ⟨qs, e, _⟩ := hC
      rintro rfl
      obtain ⟨xs, e2⟩ := D2.at
      have hL4 := hL0
      have := S4 _ _ e2
      rw [hL0] at this
      cases this
    clear D2 D4 S4 K5 hp1 x03 x35
    walk_at "g"
    refine ⟨p, 7, _, rfl, D5, by decide, by decide, by decide, fun r6 H6 r60 r61 D6 K6 => ?_⟩
    have hC6 : LAt H6 L (cs.map ct) := hC.keepP hLp D5.at K6
    have x06 : XT H H6 := XT.pool x05 hp K6
    clear K6 D5 x05 hC hL0
    walk_at "g"
    refine ⟨_, rfl, by omega, by omega, fun G hG => ?_⟩
    have hGp : G ≠ p := D6.ne hG
    refine lc_range (fun i Hi => XT H6 Hi ∧ ∃ ys : List V, ys.length = i ∧ Hi G = some (.lst ys) ∧ ∀ y ∈ ys, ∃ s, ItAt (cadr mg "Test") [G, p] Hi y (some s)) ?_ ?_ ?_
    · exact ⟨ext_new hG, [], rfl, upd_same, fun y hy => nomatch hy⟩
    · rintro i Hi hi ⟨xi, ys, rfl, hGi, hys⟩ --S
      have hi6 : ys.length < 6 := by omega
      have Di := D6.xt xi
      have hCi := hC6.keep xi
      refine ⟨rfl, ?_⟩
      walk_at "g"
      refine ⟨a, ns, 2 + ys.length, by rw [show ((2 + ys.length : Nat) : Int) = 2 + (0 + (ys.length : Int)) by omega], xtL hS (x06.trans xi), hlen, by omega, fun p2 H7 hp2 S7 D7 => ?_⟩
      have hLp2 : L ≠ p2 := by obtain ⟨qs, h1, _⟩ := hCi; exact ne_of_none h1 hp2
      walk_at "g"
      refine ⟨p2, L, cs, _, rfl, D7, by omega, hCi.keep S7, hcs, hLp2, fun q s H8 hF hk hfr K8 => ?_⟩
      have x78 : XT Hi H8 := XT.pool S7 hp2 K8
      walk_at "g"
      refine ⟨q, s, rfl, hF, hk, fun t x H9 x9 hx hin => ?_⟩
      have x79 : XT Hi H9 := x78.trans x9
      have hG9 := x79 _ _ hGi
      have D9 := Di.xt x79
      have hS9 : ListsAt [G, p] H9 := D9.lists hG9
      have kU : KeepS [G, p] H9 (upd H9 G (.lst (ys ++ [.ref t]))) := fun q o n e => by rw [upd_ne (fun z => n (by rw [z]; exact List.mem_cons_self))]; exact e
      refine ⟨_, hG9, ?_, fun q o e => ?_, ys ++ [.ref t], by simp, upd_same, fun y hy => ?_⟩
      · rw [sizeLine_eq]; omega
      · rw [upd_ne (ne_of_none e hG)]
        exact x79 _ _ (xi _ _ e)
      · rcases List.mem_append.mp hy with hy | hy
        · obtain ⟨s0, h0⟩ := hys y hy
          exact ⟨s0, (h0.keepS (Di.lists hGi) (.of x79)).keepS hS9 kU⟩
        · rw [List.mem_singleton.mp hy]
          refine ⟨x, t, rfl, (hin [G, p] fun b hb => ?_).keepS hS9 kU, hx⟩
          obtain ⟨zs, hz⟩ := Di.lists hGi b hb
          rw [x78 _ _ hz]
          exact fun e => nomatch e
    · rintro H7 ⟨x7, ys, hyl, hG7, hys⟩
      have hyl6 : ys.length ≤ 6 := by omega
      have D7 := D6.xt x7
      obtain ⟨ss, hsl, hss⟩ := opts_of hys
      clear hys hyl r60 r61 hC6 D6
      walk_at "g"
      refine ⟨G, rfl, ⟨_, SqL.of hG7⟩, fun N hN => ?_⟩
      have hGN : G ≠ N := ne_of_none hG7 hN
      have hNp : N ≠ p := D7.ne hN
      refine lc_inv ys (fun i acc H' => XT H7 H' ∧ H' N = some (.lst acc) ∧ acc.length ≤ i ∧ ∃ us : List Addr, acc = us.map V.ref ∧ (∀ u ∈ us, ∃ (a : At) (κ : List (Str × Bool)), TestAt (cadr mg "Test") H7 a.ts u ∧ a.Wf κ) ∧ ∀ (j : Nat) t a, j < i → ss[j]? = some (.keep t a) → t ∈ us) ⟨XT.refl.new hN, upd_same, Nat.le_refl _, [], rfl, (fun u h => nomatch h), fun j t a h => absurd h (Nat.not_lt_zero _)⟩ ?_ (by omega) ?_ ?_ ?_
      · rintro i acc H' ⟨x8, _⟩
        exact fits_l (SqL.of (x8 _ _ hG7))
      · rintro i acc H' ⟨x8, e8, l8, _⟩
        exact ⟨e8, l8⟩
      · rintro i acc y Hh R S hy ⟨x8, e8, l8, us, rfl, hus, hmem⟩ hR hS2 --S
        obtain ⟨s, hs⟩ : ∃ s, ss[i]? = some s := ⟨_, List.getElem?_eq_getElem (by have := (List.getElem?_eq_some_iff.mp hy).1; omega)⟩
        obtain ⟨q, rfl, hin, hok⟩ := hss i y s hy hs
        obtain ⟨r, hq⟩ := hin.front
        have hq8 := seq_keep hq.sq x8
        walk_at "g"
        refine ⟨rfl, ?_⟩
        walk_at "g"
        refine g_ixA hq8 (v := .str s.word) (atI_nat (j := 0) rfl) ?_
        walk_at "g"
        cases s with
        | keep t at0 =>
          obtain ⟨κ, hw⟩ := hok
          refine g_dec (fun _ => ?_) (fun h => absurd rfl h)
          walk_at "g"
          refine g_ixA (seq_keep hin.1.sq x8) (v := .ref t) (by rfl) ?_
          refine hR _ _ e8 ⟨fun q o e => by rw [upd_ne (ne_of_none e hN)]; exact x8 _ _ e, upd_same, by rw [List.length_append]; show _ + 1 ≤ _; omega, us ++ [t], by rw [List.map_append]; rfl, fun u hu => ?_, fun j t' a' hj hj2 => ?_⟩
          · rcases List.mem_append.mp hu with hu | hu
            · exact hus u hu
            · rw [List.mem_singleton.mp hu]
              exact ⟨at0, κ, hin.2, hw⟩
          · by_cases e : j = i
            · subst e
              rw [hs] at hj2
              injection hj2 with hj2
              injection hj2 with e1 e2
              rw [← e1]
              exact List.mem_append.mpr (.inr (List.mem_singleton.mpr rfl))
            · exact List.mem_append.mpr (.inl (hmem j t' a' (by omega) hj2))
        | _ =>
          refine g_dec (fun h => absurd h (word_ne fun t a e => by cases e)) (fun _ => ?_)
          refine hS2 _ ⟨x8, e8, by omega, us, rfl, hus, fun j t' a' hj hj2 => ?_⟩
          by_cases e : j = i
          · subst e
            rw [hs] at hj2
            cases hj2
          · exact hmem j t' a' (by omega) hj2
      · rintro acc H8 ⟨x8, e8, l8, us, rfl, hus, hmem⟩
        rw [List.length_map] at l8
        have Th : Things (cadr mg "Test") H8 p G N ys (ss.map some) us := ⟨x8 _ _ hG7, by rw [List.length_map, hsl], by rw [List.length_map]; omega, fun i y r hy hr => by
          rw [List.getElem?_map] at hr
          obtain ⟨s, hs, rfl⟩ := Option.map_eq_some_iff.mp hr
          exact (hss i y s hy hs).keepS (D7.lists hG7) (.of x8), e8, by omega, fun u hu => by
          obtain ⟨a, κ, h1, h2⟩ := hus u hu
          exact ⟨a, κ, h1.keep x8, h2⟩, fun t a hm => by
          obtain ⟨s, hs, e⟩ := List.mem_map.mp hm
          injection e with e
          subst e
          obtain ⟨j, hj⟩ := List.getElem?_of_mem hs
          exact hmem j t a (by have := (List.getElem?_eq_some_iff.mp hj).1; omega) hj, hGN⟩
        have D8 := D7.xt x8
        clear hss hus hmem hsl l8 e8 hG7 hN D7 x8 x7 x06 hyl6
        walk_at "g"
        refine g_cutA (M := fun σ' H' => ∃ (ys : List V) (rs : List (Option Sx)), σ' = [some (.ref a), some (.ref p), some (.int r1), some (.bl tp), some (.ref L), some (.ref G), some (.ref N), none, none, none, none, none, none, none, none, none, none] ∧ Things (cadr mg "Test") H' p G N ys rs us ∧ PD H' p 300000) (fun D' hn1 hrt _ _ => ?_) ?_
        · walk_at "g" --S
          refine g_dec (fun hsp => ?_) (fun hsp => ?_)
          · walk_at "g"
            refine g_lenL (SqL.of Th.g) ?_
            walk_at "g"
            refine g_dec (fun hpos => ?_) (fun hpos => ?_)
            · walk_at "g"
              refine ⟨p, _, [G, p], rfl, D8, by omega, List.mem_cons_of_mem _ List.mem_cons_self, D8.lists Th.g, fun v H9 hv D9 K9 => ?_⟩
              have Th9 := Th.keep D8 hGp hNp K9
              walk_at "g"
              refine g_lenL (SqL.of Th9.g) ?_
              walk_at "g"
              have six := Th.six
              have hln := Th.len
              refine ⟨p, _, _, rfl, D9, by omega, by omega, log_len (by omega), fun r9 H10 r90 r91 D10 K10 => ?_⟩
              have Th10 := Th9.keep D9 hGp hNp K10
              have hv10 : NoStep [G, p] H10 v := hv.keepS (D9.lists Th9.g) fun q o n e => K10 q o (fun z => n (by rw [z]; exact List.mem_cons_of_mem _ List.mem_cons_self)) e
              obtain ⟨j, rfl⟩ := Int.eq_ofNat_of_zero_le r90
              have hj : j < ys.length := by omega
              refine g_setL Th10.g (n := j) (ixN_nat hj) ?_
              exact hn1 _ _ ⟨_, _, rfl, Th10.set (D10.lists Th10.g) hj hv10, (D10.other hGp).mono (by omega)⟩
            · walk_at "g"
              exact hn1 _ _ ⟨_, _, rfl, Th, D8.mono (by omega)⟩
          · walk_at "g"
            exact hn1 _ _ ⟨_, _, rfl, Th, D8.mono (by omega)⟩
        clear Th D8 H8 H7
        rintro σ' H8 ⟨ys, rs, rfl, Th, D8⟩
        walk_at "g"
        have hln := Th.len
        have six := Th.six
        refine g_cutA (M := fun σ' H' => σ' = [some (.ref a), some (.ref p), some (.int r1), some (.bl tp), some (.ref L), some (.ref G), some (.ref N), some (fV (fTake rs 0)), none, none, none, none, none, none, none, none, none] ∧ H' = H8) (fun D' hn1 hrt _ _ => ?_) ?_
        · walk_at "g" --S
          refine g_lenL (SqL.of Th.g) ?_
          walk_at "g"
          refine g_dec (fun h5 => ?_) (fun h5 => ?_)
          · walk_at "g"
            exact hn1 _ _ ⟨by rw [show fTake rs 0 = some (-1) from if_pos (by omega)]; rfl, rfl⟩
          · walk_at "g"
            exact hn1 _ _ ⟨by rw [show fTake rs 0 = none from by unfold fTake; rw [if_neg (by omega)]; rfl]; rfl, rfl⟩
        rintro σ' H8 ⟨rfl, rfl⟩
        walk_at "g"
        refine g_lenL (SqL.of Th.g) ?_
        refine ⟨_, rfl, by omega, by omega, ?_⟩
        refine for_rangeA (fun i σ' H' => ∃ s8 : Option V, σ' = [some (.ref a), some (.ref p), some (.int r1), some (.bl tp), some (.ref L), some (.ref G), some (.ref N), some (fV (fTake rs i)), s8, none, none, none, none, none, none, none, none] ∧ XT H8 H') ⟨none, rfl, XT.refl⟩ ?_ ?_
        · rintro i σ' H9 D' hi ⟨s8, rfl, x9⟩ hnx hct hbk hrt --S
          have hil : i < ys.length := by simpa using hi
          obtain ⟨y, hy⟩ : ∃ y, ys[i]? = some y := ⟨_, List.getElem?_eq_getElem hil⟩
          obtain ⟨r, hro⟩ : ∃ r, rs[i]? = some r := ⟨_, List.getElem?_eq_getElem (by omega)⟩
          have e0 : (0 + (i : Int)) = ((i : Nat) : Int) := Int.zero_add _
          have Th9 := Th.keepX (D8.lists Th.g) x9
          have est := fTake_step hro
          cases hw : fTake rs i with
          | some j =>
            rw [hw] at est
            rw [show fV (some j) = V.int j from rfl]
            walk_at "g"
            exact hnx _ _ ⟨_, by rw [est]; rfl, x9⟩
          | none =>
            rw [hw] at est
            rw [show fV none = V.non from rfl]
            walk_at "g"
            refine g_ixL (SqL.of Th9.g) (i := 0 + (i : Int)) (v := y) (by rw [e0]; exact atI_nat hy) ?_
            walk_at "g"
            refine ⟨y, r, N, us, rfl, (Th9.it i y r hy hro).nil, Th9.n, by have := Th9.ten; omega, Th9.ts, fun t a e => Th9.mem t a (by rw [← e]; exact List.mem_of_getElem? hro), fun H10 x10 => ?_⟩
            cases r with
            | none =>
              rw [show (none : Option Sx).isSome = false from rfl]
              walk_at "g"
              exact hnx _ _ ⟨_, by rw [est, e0]; rfl, x9.trans x10⟩
            | some s =>
              rw [show (some s).isSome = true from rfl]
              walk_at "g"
              exact hnx _ _ ⟨_, by rw [est]; rfl, x9.trans x10⟩
        rintro σ' H9 ⟨s8, rfl, x9⟩
        rw [Int.toNat_natCast, hln, fTake_all]
        have Th9 := Th.keepX (D8.lists Th.g) x9
        have D9 := D8.xt x9
        clear Th D8 x9 H8
        walk_at "g"
        refine ⟨G, ys, rfl, .inl (SqL.of Th9.g), fun Z hZ => ?_⟩
        have eZ : (upd H9 Z (.lst ys)) Z = some (.lst ys) := upd_same
        have xZ : XT H9 (upd H9 Z (.lst ys)) := XT.refl.new hZ
        generalize upd H9 Z (.lst ys) = H10 at eZ xZ
        have Th10 := Th9.keepX (D9.lists Th9.g) xZ
        have D10 := D9.xt xZ
        have hZp : Z ≠ p := D9.ne hZ
        have hGZ : G ≠ Z := ne_of_none Th9.g hZ
        clear Th9 D9 xZ hZ H9
        walk_at "g"
        refine g_cutA (M := fun σ' H' => ∃ z : Addr, σ' = [some (.ref a), some (.ref p), some (.int r1), some (.bl tp), some (.ref L), some (.ref G), some (.ref N), some (fV (faultP (some rs))), s8, some (.ref z), none, none, none, none, none, none, none] ∧ Things (cadr mg "Test") H' p G N ys rs us ∧ PD H' p 300000 ∧ (H' z = some (.lst ys) ∨ H' z = some (.tup ys)) ∧ (tp = false → z = Z ∧ H' Z = some (.lst ys))) (fun D' hn1 hrt _ _ => ?_) ?_
        · walk_at "g" --S
          cases tp with
          | true =>
            refine g_T ?_
            walk_at "g"
            refine g_tupL (SqL.of Th10.g) fun u hu => ?_
            have xu := XT.refl.new (o := .tup ys) hu
            exact hn1 _ _ ⟨u, rfl, Th10.keepX (D10.lists Th10.g) xu, D10.xt xu, .inr upd_same, fun e => by cases e⟩
          | false =>
            refine g_F ?_
            walk_at "g"
            exact hn1 _ _ ⟨Z, rfl, Th10, D10, .inl eZ, fun _ => ⟨rfl, eZ⟩⟩
        clear Th10 D10 eZ H10
        rintro σ' H10 ⟨z, rfl, Th10, D10, ez, hzZ⟩
        refine g_cutA (M := fun σ' H' => ∃ (v : V) (d : Option (List (Option Sx))), σ' = [some (.ref a), some (.ref p), some (.int r1), some (.bl tp), some (.ref L), some (.ref G), some (.ref N), some (fV (faultP d)), s8, some v, none, none, none, none, none, none, none] ∧ HdAt (cadr mg "Test") [] H' v d ∧ (d = none ∨ (d = some rs ∧ Things (cadr mg "Test") H' p G N ys rs us ∧ ListsAt [G, p] H' ∧ (tp = false → v = .ref Z ∧ H' Z = some (.lst ys))))) (fun D' hn1 hrt _ _ => ?_) ?_
        · walk_at "g" --S
          refine g_dec (fun h0 => ?_) (fun h0 => ?_)
          · walk_at "g"
            intro dk hdk
            refine ⟨upd_same, [(Sum.inr (Str.ofString "first"), .int 1)], rfl, by decide, ?_⟩
            generalize mergeK [] [((Sum.inr (Str.ofString "first") : Key), V.int 1)] = kvo
            rw [upd_twice]
            have x11 : XT H10 (upd H10 dk (.dK kvo)) := XT.refl.new hdk
            have e11 : (upd H10 dk (.dK kvo)) dk = some (.dK kvo) := upd_same
            generalize upd H10 dk (.dK kvo) = H11 at x11 e11 ⊢
            walk_at "g"
            refine ⟨szN (n := 5) (by decide), fun l5 hl5 => ?_⟩
            have x12 := x11.new (o := .lst [.non, .str (Str.ofString "flip"), .int 7, .ref dk, .bl true]) hl5
            have e12 : (upd H11 l5 (.lst [.non, .str (Str.ofString "flip"), .int 7, .ref dk, .bl true])) dk = some (.dK kvo) := by rw [upd_ne (ne_of_none e11 hl5)]; exact e11
            have f12 : (upd H11 l5 (.lst [.non, .str (Str.ofString "flip"), .int 7, .ref dk, .bl true])) l5 = some (.lst [.non, .str (Str.ofString "flip"), .int 7, .ref dk, .bl true]) := upd_same
            generalize upd H11 l5 (.lst [.non, .str (Str.ofString "flip"), .int 7, .ref dk, .bl true]) = H12 at x12 e12 f12 ⊢
            have D12 := D10.xt x12
            have n5 : l5 ≠ p := fun q => by
              obtain ⟨a1, b1, c1, h1, _⟩ := D12
              rw [← q, f12] at h1
              injection h1 with h1
              injection h1 with h1
              cases h1
            have ndk : dk ≠ p := fun q => by
              obtain ⟨a1, b1, c1, h1, _⟩ := D12
              rw [← q, e12] at h1
              injection h1 with h1
              cases h1
            walk_at "g"
            refine ⟨p, 5, _, rfl, D12, by omega, by decide, by decide, fun r5 H13 r50 r51 D13 K13 => ?_⟩
            have e13 := K13 _ _ ndk e12
            have f13 := K13 _ _ n5 f12
            obtain ⟨v, hv, hTv⟩ : ∃ v, atI [V.non, .str (Str.ofString "flip"), .int 7, .ref dk, .bl true] r5 = some v ∧ HdAt (cadr mg "Test") [] H13 v none := by
              have : r5 = 0 ∨ r5 = 1 ∨ r5 = 2 ∨ r5 = 3 ∨ r5 = 4 := by omega
              rcases this with rfl | rfl | rfl | rfl | rfl
              · exact ⟨_, rfl, .nos (by decide) .non (by decide) (by decide)⟩
              · exact ⟨_, rfl, .nos (by decide) (.str _) (by decide) (by decide)⟩
              · exact ⟨_, rfl, .nos (by decide) (.int _) (by decide) (by decide)⟩
              · exact ⟨_, rfl, .nos (by decide) (.dct e13) (by decide) (by decide)⟩
              · exact ⟨_, rfl, .nos (by decide) (.bl _) (by decide) (by decide)⟩
            refine g_ixL (SqL.of f13) hv ?_
            walk_at "g"
            exact hn1 _ _ ⟨v, none, rfl, hTv, .inl rfl⟩
          · walk_at "g"
            exact hn1 _ _ ⟨_, some rs, rfl, .seq ez Th10.len fun i y r hy hr => (Th10.it i y r hy hr).nil,   .inr ⟨rfl, Th10, D10.lists Th10.g, fun e => ⟨by rw [(hzZ e).1], (hzZ e).2⟩⟩⟩
        clear Th10 D10 ez hzZ H10
        rintro σ' H10 ⟨v, d, rfl, hd, hcase⟩
        walk_at "g"
        refine ⟨v, d, rfl, hd, fun t H11 x11 hE hP => ?_⟩
        cases hf : faultP d with
        | some i =>
          have et := hE i hf
          rw [show fV (some i) = V.int i from rfl]
          walk_at "g"
          refine g_ixT (SqT.of et) (v := .str "refused") (by rfl) ?_
          walk_at "g"
          rw [decide_eq_true (rfl : Str.ofString "refused" = Str.ofString "refused")]
          walk_at "g"
          refine g_ixT (SqT.of et) (v := .str "steps") (by rfl) ?_
          walk_at "g"
          rw [decide_eq_true (rfl : Str.ofString "steps" = Str.ofString "steps")]
          walk_at "g"
          refine g_ixT (SqT.of et) (v := .int i) (by rfl) ?_
          walk_at "g"
          refine ⟨i, rfl, ?_⟩
          walk_at "g"
          refine g_ixT (SqT.of et) (v := .int i) (by rfl) ?_
          walk_at "g"
          rw [decide_eq_true (rfl : i = i)]
          exact k _
        | none =>
          rcases hcase with rfl | ⟨rfl, Th, hLs, hz⟩
          · cases hf
          have h5 : ¬ 5 < rs.length := fun h => by rw [fault_long h] at hf; cases hf
          obtain ⟨ss, rfl⟩ : ∃ ss : List Sx, rs = ss.map some := firstN_none (i := 0) (by
            rw [fault_short h5] at hf
            cases e : firstN 0 rs with
            | none => rfl
            | some j => rw [e] at hf; cases hf)
          rw [List.length_map] at h5
          obtain ⟨x, et, hPl⟩ := hP ss rfl hf
          rw [show fV none = V.non from rfl]
          walk_at "g"
          refine g_ixT (SqT.of et) (v := .str "told") (by rfl) ?_
          walk_at "g"
          rw [show (!decide (Str.ofString "told" = Str.ofString "told")) = false by decide +kernel]
          have Th11 := Th.keepX hLs x11
          have hz11 : tp = false → v = .ref Z ∧ H11 Z = some (.lst ys) := fun e => ⟨(hz e).1, x11 _ _ (hz e).2⟩
          have hyl : ys.length = ss.length := by rw [Th.len, List.length_map]
          have hok : ∀ (i : Nat) s, ss[i]? = some s → XOk s := fun i s hs => by
            obtain ⟨y, hy⟩ : ∃ y, ys[i]? = some y := ⟨_, List.getElem?_eq_getElem (by have := (List.getElem?_eq_some_iff.mp hs).1; omega)⟩
            obtain ⟨q, _, _, h⟩ := Th.it i y (some s) hy (by rw [List.getElem?_map, hs]; rfl)
            exact h
          clear Th hLs hz hE hP hd hf x11 H10
          walk_at "g"
          refine ⟨G, ys, ss, rfl, Th11.g, hyl, by omega, fun i y s hy hs => (Th11.it i y (some s) hy (by rw [List.getElem?_map, hs]; rfl)).nil, fun M ds H12 hM x12 e12 hdl hds => ?_⟩
          have hDu : DueAt (cadr mg "Test") H12 M ss := ⟨ds, e12, hdl, hds⟩
          have hMZ : tp = false → M ≠ Z := fun e z => by
            have := (hz11 e).2
            rw [← z, hM] at this
            cases this
          have hz12 : tp = false → v = .ref Z ∧ H12 Z = some (.lst ys) := fun e => ⟨(hz11 e).1, x12 _ _ (hz11 e).2⟩
          have it12 : ∀ (i : Nat) y s, ys[i]? = some y → ss[i]? = some s → ItAt (cadr mg "Test") [] H12 y (some s) := fun i y s hy hs => (Th11.it i y (some s) hy (by rw [List.getElem?_map, hs]; rfl)).nil.keep x12
          have g12 := x12 _ _ Th11.g
          have et12 := x12 _ _ et
          have hP12 := hPl.keep x12
          clear hz11 hPl et Th11 x12 e12 hM hds hdl H11
          walk_at "g"
          refine g_ixT (SqT.of et12) (v := .ref x) (by rfl) ?_
          walk_at "g"
          refine g_newX ?_
          walk_at "g"
          refine ⟨G, rfl, ⟨_, SqL.of g12⟩, fun D hD => ?_⟩
          refine lc_new ys (fun i y H' => ∃ l, y = .ref l ∧ ∀ s, ss[i]? = some s → SIn (cadr mg "Test") [D] H' l s) hD (fun H2 k2 => fits_l (SqL.of (k2 _ _ g12))) (by omega) ?_ ?_ ?_
          · rintro i y Ha Hb ⟨zs, hz⟩ ⟨l, rfl, h⟩ hk
            exact ⟨l, rfl, fun s hs => (h s hs).keepS (fun b m => by rw [List.mem_singleton.mp m]; exact ⟨zs, hz⟩) fun q o n e => hk q o (fun z => n (by rw [z]; exact List.mem_cons_self)) e⟩
          · intro i y Hh R S hy kh hDl hR
            obtain ⟨zs, hDz⟩ := hDl
            obtain ⟨s, hs⟩ : ∃ s, ss[i]? = some s := ⟨_, List.getElem?_eq_getElem (by have := (List.getElem?_eq_some_iff.mp hy).1; omega)⟩
            obtain ⟨q, rfl, hin0, _⟩ := (it12 i y s hy hs).add hD
            have hin := hin0.keep kh
            obtain ⟨rr, hq⟩ := hin.front
            walk_at "g"
            refine ⟨rfl, ?_⟩
            walk_at "g"
            refine ⟨q, _, rfl, hq.sq.elim (fun h => .inl (SqL.of h)) (fun h => .inr (SqT.of h)), fun l hl => ?_⟩
            refine hR _ _ (ext_newO hl) ⟨l, rfl, fun s' hs' => ?_⟩
            rw [hs] at hs'
            injection hs' with hs'
            rw [← hs']
            exact hin.copy hq.sq hl fun m => by
              rw [List.mem_singleton.mp m, hDz] at hl
              cases hl
          · intro H13 zs x13 hW hzl hzs
            obtain ⟨qs, rfl, hqs⟩ := refs_of (H := H13) (R := fun l i => ∀ s, ss[i]? = some s → SIn (cadr mg "Test") [D] H13 l s) hzs
            rw [List.length_map] at hzl
            walk_at "g"
            intro x2 dx2 hx2 hdx2 hne2
            have xN : XT H13 (upd (upd H13 dx2 (.own x2)) x2 (.ins (cadr mg "Plan") dx2 [])) := fun q o h => by rw [upd_ne (ne_of_none h hx2), upd_ne (ne_of_none h hdx2)]; exact h
            have hd2 : HdAt (cadr mg "Test") [] (upd (upd H13 dx2 (.own x2)) x2 (.ins (cadr mg "Plan") dx2 [])) (.ref D) (some (ss.map some)) := (hd_refs hW (by omega) fun i q s hq hs => ⟨(hqs i q hq s hs).mono (fun b m => absurd m List.not_mem_nil), hok i s hs⟩).keep xN
            refine ⟨x2, dx2, .ref D, some (ss.map some), rfl, upd_same, hd2, fun i hi => by rw [fault_no (by omega)] at hi; (cases hi), fun ss' hd' _ H14 k14 hPa => ⟨rfl, ?_⟩⟩
            obtain rfl : ss = ss' := some_inj (Option.some.inj hd')
            have x14 : XT H12 H14 := fun q o h => k14 q o (ne_of_none (x13 _ _ h) hx2) (xN q o (x13 _ _ h))
            have hP14 := hP12.keep x14
            have hDu14 := hDu.keep x14
            have hz14 : tp = false → v = .ref Z ∧ H14 Z = some (.lst ys) := fun e => ⟨(hz12 e).1, x14 _ _ (hz12 e).2⟩
            clear hd2 hqs hW x13 xN k14 x14 hP12 hDu hz12 it12 g12 et12 hD hx2 hdx2 hne2 hzl hzs H13 H12
            walk_at "g"
            refine g_cutA (M := fun σ' H' => σ' = [some (.ref a), some (.ref p), some (.int r1), some (.bl tp), some (.ref L), some (.ref G), some (.ref N), some .non, s8, some v, some (.ref t), some (.ref M), some (.ref x), some (.ref x2), none, none, none] ∧ PlanAt (cadr mg "Plan") (cadr mg "Test") H' ss x ∧ PlanAt (cadr mg "Plan") (cadr mg "Test") H' ss x2 ∧ DueAt (cadr mg "Test") H' M ss) (fun D' hn1 hrt _ _ => ?_) ?_
            · walk_at "g" --S
              cases tp with
              | true =>
                walk_at "g"
                exact hn1 _ _ ⟨rfl, hP14, hPa, hDu14⟩
              | false =>
                obtain ⟨rfl, eZ⟩ := hz14 rfl
                have lZ : ys.length < 10000000 := by omega
                walk_at "g"
                refine ⟨szN (n := 1) (by decide), fun u hu => ?_⟩
                have xu : XT H14 (upd H14 u (.tup [.str (Str.ofString "flip")])) := ext_newO hu
                have eZ2 := xu _ _ eZ
                walk_at "g"
                exact hn1 _ _ ⟨rfl, (hP14.keep xu).keepT (kt_list eZ2), (hPa.keep xu).keepT (kt_list eZ2), (hDu14.keep xu).keepL eZ2 (hMZ rfl)⟩
            clear hP14 hPa hDu14 hz14 hMZ H14
            rintro σ' H14 ⟨rfl, hP, hP2, hDu⟩
            obtain ⟨ds, eM, hdl, hds⟩ := id hDu
            obtain ⟨dx, fs, T0, ts0, hx1, -, hns, hnl, -⟩ := id hP
            obtain ⟨dx2, fs2, T2, ts2, hx21, -⟩ := id hP2
            walk_at "g"
            refine ⟨x, dx, fs, rfl, hx1, hns, ?_⟩
            walk_at "g"
            refine ⟨x, ss, rfl, hP, fun l ts hl htl hts => ?_⟩
            have xl : XT H14 (upd H14 l (.lst (ts.map V.ref))) := ext_newO hl
            have el : (upd H14 l (.lst (ts.map V.ref))) l = some (.lst (ts.map V.ref)) := upd_same
            have hMl : M ≠ l := ne_of_none eM hl
            generalize upd H14 l (.lst (ts.map V.ref)) = H15 at xl el
            walk_at "g"
            refine g_isi (.base (.lst el)) (show kitB "list" "list" = some true by decide +kernel) ?_
            walk_at "g"
            refine ⟨4, l, M, _, _, by decide, rfl, rfl, SqL.of el, SqL.of (xl _ _ eM), by rw [List.length_map, List.length_map, htl, hdl], due_items htl (fun i t s ht hs => (hts i t s ht hs).keepT (.of xl)) (fun i d s hd hs => (hds i d s hd hs).keepT (.of xl)), ?_⟩
            walk_at "g"
            refine ⟨x, dx, fs, rfl, xl _ _ hx1, x, ss, rfl, hP.keep xl, ss.length, rfl, by omega, ?_⟩
            walk_at "g"
            refine ⟨(ss.length : Nat), rfl, ?_⟩
            walk_at "g"
            refine ⟨x, dx, fs, rfl, xl _ _ hx1, x, ss, rfl, hP.keep xl, ss.length, rfl, by omega, ?_⟩
            walk_at "g"
            refine g_lenL (SqL.of (xl _ _ eM)) ?_
            walk_at "g"
            rw [List.length_map, hdl]
            refine g_ndec (fun h => absurd rfl h) (fun _ => ?_)
            have hP15 := hP.keep xl
            have hP25 := hP2.keep xl
            have hDu15 := hDu.keep xl
            have lT : (ts.map V.ref).length < 10000000 := by rw [List.length_map]; omega
            clear hP hP2 hDu eM hdl hds hx1 hx21 hts xl hl H14
            walk_at "g"
            refine ⟨szN (n := 1) (by decide), fun u hu => ?_⟩
            have xu : XT H15 (upd H15 u (.tup [.str (Str.ofString "flip")])) := ext_newO hu
            have el2 := xu _ _ el
            walk_at "g"
            have k16 : KT H15 (upd (upd H15 u (.tup [.str (Str.ofString "flip")])) l (.lst (ts.map V.ref ++ [.ref u]))) := fun q o no e => kt_list el2 q o no (xu q o e)
            have hP16 := hP15.keepT k16
            have hP26 := hP25.keepT k16
            have hDu16 := (hDu15.keep xu).keepL (ys := ts.map V.ref ++ [.ref u]) el2 hMl
            generalize upd (upd H15 u (.tup [.str (Str.ofString "flip")])) l (.lst (ts.map V.ref ++ [.ref u])) = H16 at hP16 hP26 hDu16
            clear hP15 hP25 hDu15 k16 el2 xu el hu H15
            obtain ⟨ds, eM, hdl, hds⟩ := id hDu16
            obtain ⟨dx, fs, T0, ts0, hx1, -, hns, hnl, -⟩ := id hP16
            obtain ⟨dx2, fs2, T2, ts2, hx21, -⟩ := id hP26
            refine ⟨x, dx, fs, rfl, hx1, hns, ?_⟩
            walk_at "g"
            refine ⟨x, ss, rfl, hP16, fun l2 ts3 hl2 htl3 hts3 => ?_⟩
            have xl : XT H16 (upd H16 l2 (.lst (ts3.map V.ref))) := ext_newO hl2
            have el : (upd H16 l2 (.lst (ts3.map V.ref))) l2 = some (.lst (ts3.map V.ref)) := upd_same
            generalize upd H16 l2 (.lst (ts3.map V.ref)) = H17 at xl el
            have eM7 := xl _ _ eM
            have hP7 := hP16.keep xl
            have hP27 := hP26.keep xl
            have hDu7 := hDu16.keep xl
            have hds7 : ∀ (i : Nat) d s, ds[i]? = some d → ss[i]? = some s → SC (cadr mg "Test") H17 d s := fun i d s hd hs => (hds i d s hd hs).keepT (.of xl)
            have hx17 := xl _ _ hx1
            have hx217 := xl _ _ hx21
            walk_at "g"
            refine ⟨4, l2, M, _, _, by decide, rfl, rfl, SqL.of el, SqL.of eM7, by rw [List.length_map, List.length_map, htl3, hdl], due_items htl3 (fun i t s ht hs => (hts3 i t s ht hs).keepT (.of xl)) hds7, ?_⟩
            clear hP16 hP26 hDu16 hds eM hx1 hx21 hts3 xl hl2 H16
            walk_at "g"
            refine ⟨x, dx, fs, rfl, hx17, .inl ⟨x2, dx2, fs2, rfl, hx217⟩, x, ss, .ref x2, rfl, hP7, .inl ⟨x2, rfl, hP27, ?_⟩⟩
            walk_at "g"
            refine ⟨x, dx, fs, rfl, hx17, .inl ⟨x2, dx2, fs2, rfl, hx217⟩, x, ss, .ref x2, rfl, hP7, .inl ⟨x2, rfl, hP27, true, rfl, ?_⟩⟩
            walk_at "g"
            refine ⟨x, dx, fs, rfl, hx17, .inr ⟨"list", by decide, .base (.lst eM7)⟩, x, ss, .ref M, rfl, hP7, .inr (.inr ⟨"list", by decide, .lst eM7, ?_⟩)⟩
            walk_at "g"
            refine g_dec (fun _ => k _) (fun h55 => ?_)
            rw [List.length_map, hdl] at h55
            have five : ss.length < 5 := by omega
            have sin7 : ∀ {H' : Hp}, XT H17 H' → ∀ (i : Nat) q s, ds[i]? = some q → ss[i]? = some s → SIn (cadr mg "Test") [] H' q s ∧ XOk s := fun {H'} x i q s hq hs => ⟨((hds7 i q s hq hs).keepT (.of x)).sin, hok i s hs⟩
            have tl : ds.tail.length = ss.tail.length := by rw [List.length_tail, List.length_tail, hdl]
            have sinT : ∀ {H' : Hp}, XT H17 H' → ∀ (i : Nat) q s, ds.tail[i]? = some q → ss.tail[i]? = some s → SIn (cadr mg "Test") [] H' q s ∧ XOk s := fun {H'} x i q s hq hs => sin7 x (i + 1) q s (by rw [← tail_get]; exact hq) (by rw [← tail_get]; exact hs)
            walk_at "g"
            refine g_newX ?_
            walk_at "g"
            refine ⟨szN (n := 1) (by decide), fun u hu => ?_⟩
            have x8 : XT H17 (upd H17 u (.tup [.str (Str.ofString "flip")])) := ext_newO hu
            have eu : (upd H17 u (.tup [.str (Str.ofString "flip")])) u = some (.tup [.str (Str.ofString "flip")]) := upd_same
            generalize upd H17 u (.tup [.str (Str.ofString "flip")]) = H18 at x8 eu
            walk_at "g"
            refine ⟨szN (n := 1) (by decide), fun l3 hl3 => ?_⟩
            have x9 := x8.new (o := .lst [.ref u]) hl3
            have y9 : XT H18 (upd H18 l3 (.lst [.ref u])) := ext_newO hl3
            have e3 : (upd H18 l3 (.lst [.ref u])) l3 = some (.lst [.ref u]) := upd_same
            generalize upd H18 l3 (.lst [.ref u]) = H19 at x9 y9 e3
            walk_at "g"
            refine .inr (.inr ⟨M, l3, _, _, rfl, rfl, x9 _ _ eM7, e3, cat_len (by rw [List.length_map]; show ds.length + 1 ≤ 1000; omega), fun l4 hl4 => ?_⟩)
            rw [show ds.map V.ref ++ [V.ref u] = (ds ++ [u]).map V.ref by rw [List.map_append]; rfl]
            have x10 := x9.new (o := .lst ((ds ++ [u]).map V.ref)) hl4
            have eu10 := ext_newO (o := .lst ((ds ++ [u]).map V.ref)) hl4 _ _ (y9 _ _ eu)
            have e4 : (upd H19 l4 (.lst ((ds ++ [u]).map V.ref))) l4 = some (.lst ((ds ++ [u]).map V.ref)) := upd_same
            generalize upd H19 l4 (.lst ((ds ++ [u]).map V.ref)) = H20 at x10 eu10 e4
            have hd3 := hd_refs (C := cadr mg "Test") (ss := ss ++ [.flip]) e4 (by rw [List.length_append, List.length_append, hdl]; rfl) (app_get (R := fun q s => SIn (cadr mg "Test") [] H20 q s ∧ XOk s) (q0 := u) (s0 := .flip) hdl (sin7 x10) ⟨.inr eu10, True.intro⟩)
            clear eu10 e4 hl4 e3 hl3 y9 x9 eu hu x8 H18
            walk_at "g"
            intro x3 dx3 hx3 hdx3 hne3
            have xN : XT H20 (upd (upd H20 dx3 (.own x3)) x3 (.ins (cadr mg "Plan") dx3 [])) := fun q o h => by rw [upd_ne (ne_of_none h hx3), upd_ne (ne_of_none h hdx3)]; exact h
            refine ⟨x3, dx3, _, _, rfl, upd_same, hd3.keep xN, fun i hi => by rw [fault_no (by rw [List.length_append]; show ss.length + 1 ≤ 5; omega)] at hi; (cases hi), fun ss' hd' _ H21 k21 hPb => ⟨rfl, ?_⟩⟩
            obtain rfl : ss ++ [.flip] = ss' := some_inj (Option.some.inj hd')
            have x21 : XT H17 H21 := fun q o h => k21 q o (ne_of_none (x10 _ _ h) hx3) (xN q o (x10 _ _ h))
            obtain ⟨dx3', fs3, T3, ts3', hx31, -⟩ := id hPb
            walk_at "g"
            refine ⟨x, dx, fs, rfl, x21 _ _ hx17, .inl ⟨x3, dx3', fs3, rfl, hx31⟩, x, ss, .ref x3, rfl, hP7.keep x21, .inr (.inl ⟨x3, .flip, rfl, hPb, false, rfl, ?_⟩)⟩
            have eM21 := x21 _ _ eM7
            have sin21 := fun {H' : Hp} (x : XT H21 H') => sinT (x21.trans x)
            clear hPb hx31 xN hd3 k21 x10 hx3 hdx3 hne3 hd' sin7 sinT H20 H19
            walk_at "g"
            have cutE : cutV (ds.map V.ref) (some 1) none = ds.tail.map V.ref := by rw [cut_tail]; cases ds <;> rfl
            refine g_newX ?_
            walk_at "g"
            refine g_slL (SqL.of eM21) fun l5 hl5 => ?_
            rw [cutE]
            have x1 : XT H21 (upd H21 l5 (.lst (ds.tail.map V.ref))) := ext_newO hl5
            have e5 : (upd H21 l5 (.lst (ds.tail.map V.ref))) l5 = some (.lst (ds.tail.map V.ref)) := upd_same
            generalize upd H21 l5 (.lst (ds.tail.map V.ref)) = J1 at x1 e5
            walk_at "g"
            refine ⟨szN (n := 1) (by decide), fun u hu => ?_⟩
            have x2' := x1.new (o := .tup [.str (Str.ofString "flip")]) hu
            have y2 : XT J1 (upd J1 u (.tup [.str (Str.ofString "flip")])) := ext_newO hu
            have eu : (upd J1 u (.tup [.str (Str.ofString "flip")])) u = some (.tup [.str (Str.ofString "flip")]) := upd_same
            generalize upd J1 u (.tup [.str (Str.ofString "flip")]) = J2 at x2' y2 eu
            walk_at "g"
            refine ⟨szN (n := 1) (by decide), fun l3 hl3 => ?_⟩
            have x3' := x2'.new (o := .lst [.ref u]) hl3
            have y3 : XT J2 (upd J2 l3 (.lst [.ref u])) := ext_newO hl3
            have e3 : (upd J2 l3 (.lst [.ref u])) l3 = some (.lst [.ref u]) := upd_same
            generalize upd J2 l3 (.lst [.ref u]) = J3 at x3' y3 e3
            walk_at "g"
            refine .inr (.inr ⟨l5, l3, _, _, rfl, rfl, y3 _ _ (y2 _ _ e5), e3, cat_len (by rw [List.length_map, List.length_tail]; show ds.length - 1 + 1 ≤ 1000; omega), fun l4 hl4 => ?_⟩)
            rw [show ds.tail.map V.ref ++ [V.ref u] = (ds.tail ++ [u]).map V.ref by rw [List.map_append]; rfl]
            have x4' := x3'.new (o := .lst ((ds.tail ++ [u]).map V.ref)) hl4
            have eu4 := ext_newO (o := .lst ((ds.tail ++ [u]).map V.ref)) hl4 _ _ (y3 _ _ eu)
            have e4 : (upd J3 l4 (.lst ((ds.tail ++ [u]).map V.ref))) l4 = some (.lst ((ds.tail ++ [u]).map V.ref)) := upd_same
            generalize upd J3 l4 (.lst ((ds.tail ++ [u]).map V.ref)) = J4 at x4' eu4 e4
            have hd4 := hd_refs (C := cadr mg "Test") (ss := ss.tail ++ [.flip]) e4 (by rw [List.length_append, List.length_append, tl]; rfl) (app_get (R := fun q s => SIn (cadr mg "Test") [] J4 q s ∧ XOk s) (q0 := u) (s0 := .flip) tl (sin21 x4') ⟨.inr eu4, True.intro⟩)
            clear eu4 e4 hl4 e3 hl3 y3 x3' eu hu y2 x2' e5 hl5 x1 J1 J2
            walk_at "g"
            intro x5 dx5 hx5 hdx5 hne5
            have xN : XT J4 (upd (upd J4 dx5 (.own x5)) x5 (.ins (cadr mg "Plan") dx5 [])) := fun q o h => by rw [upd_ne (ne_of_none h hx5), upd_ne (ne_of_none h hdx5)]; exact h
            refine ⟨x5, dx5, _, _, rfl, upd_same, hd4.keep xN, fun i hi => by rw [fault_no (by rw [List.length_append, List.length_tail]; show ss.length - 1 + 1 ≤ 5; omega)] at hi; (cases hi), fun ss' hd' _ J5 k5 hP5 => ⟨rfl, ?_⟩⟩
            obtain rfl : ss.tail ++ [.flip] = ss' := some_inj (Option.some.inj hd')
            have x5' : XT H21 J5 := fun q o h => k5 q o (ne_of_none (x4' _ _ h) hx5) (xN q o (x4' _ _ h))
            clear xN hd4 k5 x4' hx5 hdx5 hne5 hd' J4 J3
            have eM22 := x5' _ _ eM21
            have sin22 := fun {H' : Hp} (x : XT J5 H') => sin21 (x5'.trans x)
            clear eM21 sin21 x5'
            walk_at "g"
            refine g_newX ?_
            walk_at "g"
            refine g_slL (SqL.of eM22) fun l5 hl5 => ?_
            rw [cutE]
            have x1 : XT J5 (upd J5 l5 (.lst (ds.tail.map V.ref))) := ext_newO hl5
            have e5 : (upd J5 l5 (.lst (ds.tail.map V.ref))) l5 = some (.lst (ds.tail.map V.ref)) := upd_same
            generalize upd J5 l5 (.lst (ds.tail.map V.ref)) = K1q at x1 e5
            walk_at "g"
            refine ⟨szN (n := 1) (by decide), fun u hu => ?_⟩
            have x2' := x1.new (o := .lst [.str (Str.ofString "flip")]) hu
            have y2 : XT K1q (upd K1q u (.lst [.str (Str.ofString "flip")])) := ext_newO hu
            have eu : (upd K1q u (.lst [.str (Str.ofString "flip")])) u = some (.lst [.str (Str.ofString "flip")]) := upd_same
            generalize upd K1q u (.lst [.str (Str.ofString "flip")]) = K2q at x2' y2 eu
            walk_at "g"
            refine ⟨szN (n := 1) (by decide), fun l3 hl3 => ?_⟩
            have x3' := x2'.new (o := .lst [.ref u]) hl3
            have y3 : XT K2q (upd K2q l3 (.lst [.ref u])) := ext_newO hl3
            have e3 : (upd K2q l3 (.lst [.ref u])) l3 = some (.lst [.ref u]) := upd_same
            generalize upd K2q l3 (.lst [.ref u]) = K3q at x3' y3 e3
            walk_at "g"
            refine .inr (.inr ⟨l5, l3, _, _, rfl, rfl, y3 _ _ (y2 _ _ e5), e3, cat_len (by rw [List.length_map, List.length_tail]; show ds.length - 1 + 1 ≤ 1000; omega), fun l4 hl4 => ?_⟩)
            rw [show ds.tail.map V.ref ++ [V.ref u] = (ds.tail ++ [u]).map V.ref by rw [List.map_append]; rfl]
            have x4' := x3'.new (o := .lst ((ds.tail ++ [u]).map V.ref)) hl4
            have eu4 := ext_newO (o := .lst ((ds.tail ++ [u]).map V.ref)) hl4 _ _ (y3 _ _ eu)
            have e4 : (upd K3q l4 (.lst ((ds.tail ++ [u]).map V.ref))) l4 = some (.lst ((ds.tail ++ [u]).map V.ref)) := upd_same
            generalize upd K3q l4 (.lst ((ds.tail ++ [u]).map V.ref)) = K4q at x4' eu4 e4
            have hd4 := hd_refs (C := cadr mg "Test") (ss := ss.tail ++ [.flip]) e4 (by rw [List.length_append, List.length_append, tl]; rfl) (app_get (R := fun q s => SIn (cadr mg "Test") [] K4q q s ∧ XOk s) (q0 := u) (s0 := .flip) tl (sin22 x4') ⟨.inl ⟨eu4, List.not_mem_nil⟩, True.intro⟩)
            clear eu4 e4 hl4 e3 hl3 y3 x3' eu hu y2 x2' e5 hl5 x1 K1q K2q
            walk_at "g"
            intro x6 dx6 hx6 hdx6 hne6
            have xN : XT K4q (upd (upd K4q dx6 (.own x6)) x6 (.ins (cadr mg "Plan") dx6 [])) := fun q o h => by rw [upd_ne (ne_of_none h hx6), upd_ne (ne_of_none h hdx6)]; exact h
            refine ⟨x6, dx6, _, _, rfl, upd_same, hd4.keep xN, fun i hi => by rw [fault_no (by rw [List.length_append, List.length_tail]; show ss.length - 1 + 1 ≤ 5; omega)] at hi; (cases hi), fun ss' hd' _ K5q k5 hP6 => ⟨rfl, ?_⟩⟩
            obtain rfl : ss.tail ++ [.flip] = ss' := some_inj (Option.some.inj hd')
            have x5' : XT J5 K5q := fun q o h => k5 q o (ne_of_none (x4' _ _ h) hx6) (xN q o (x4' _ _ h))
            have hP52 := hP5.keep x5'
            obtain ⟨dx5', fs5, T5, ts5', hx51, -⟩ := id hP52
            obtain ⟨dx6', fs6, T6, ts6', hx61, -⟩ := id hP6
            walk_at "g"
            refine ⟨x5, dx5', fs5, rfl, hx51, .inl ⟨x6, dx6', fs6, rfl, hx61⟩, x5, ss.tail ++ [.flip], .ref x6, rfl, hP52, .inl ⟨x6, rfl, hP6, ?_⟩⟩
            exact k _
end
theorem kitSelf {K : PySem.W.Frag} {C : Addr} : PySem.W.kitOne K (.ref C) (.ref C) = some true := by
  unfold PySem.W.kitOne
  rw [if_pos (beq_self_eq_true _)]
theorem kitNo {K : PySem.W.Frag} {C : Addr} {T : String} (h2 : PySem.W.isClsIn K C = true) (h3 : PySem.W.typeIn K (.ref C) = some (.type "type")) (h4 : PySem.W.subIn K (.type T) (.ref C) = some false) : PySem.W.kitOne K (.type T) (.ref C) = some false := by
  have e1 : ¬ (Value.type T == Value.ref C) = true := fun z => nomatch (beq_iff_eq.mp z)
  have e2 : ((PySem.W.clsIn K C).isSome && PySem.W.typeIn K (.ref C) == some (.type "type")) = true := by
    have h2' : (PySem.W.clsIn K C).isSome = true := h2
    rw [h2', h3] <;> rfl
  show (if (Value.type T == Value.ref C) = true then some true else (if ((PySem.W.clsIn K C).isSome && PySem.W.typeIn K (.ref C) == some (.type "type")) = true then PySem.W.subIn K (.type T) (.ref C) else none)) = some false
  rw [if_neg e1, if_pos e2]
  exact h4
theorem kitOwnT {K : PySem.W.Frag} {C R : Addr} (h2 : PySem.W.isClsIn K R = true) (h3 : PySem.W.typeIn K (.ref R) = some (.type "type")) (h4 : PySem.W.subIn K (.ref C) (.ref R) = some true) : PySem.W.kitOne K (.ref C) (.ref R) = some true := by
  have e2 : ((PySem.W.clsIn K R).isSome && PySem.W.typeIn K (.ref R) == some (.type "type")) = true := by
    have h2' : (PySem.W.clsIn K R).isSome = true := h2
    rw [h2', h3] <;> rfl
  show (if (Value.ref C == Value.ref R) = true then some true else (if ((PySem.W.clsIn K R).isSome && PySem.W.typeIn K (.ref R) == some (.type "type")) = true then PySem.W.subIn K (.ref C) (.ref R) else none)) = some true
  by_cases e1 : (Value.ref C == Value.ref R) = true
  · rw [if_pos e1]
  · rw [if_neg e1, if_pos e2]
    exact h4
theorem kitOwn {K : PySem.W.Frag} {C R : Addr} (h1 : PySem.W.subIn K (.ref C) (.ref C) = some true) (h2 : PySem.W.isClsIn K R = true) (h3 : PySem.W.typeIn K (.ref R) = some (.type "type")) (h4 : PySem.W.subIn K (.ref C) (.ref R) = some false) : PySem.W.kitOne K (.ref C) (.ref R) = some false := by
  have e2 : ((PySem.W.clsIn K R).isSome && PySem.W.typeIn K (.ref R) == some (.type "type")) = true := by
    have h2' : (PySem.W.clsIn K R).isSome = true := h2
    rw [h2', h3] <;> rfl
  show (if (Value.ref C == Value.ref R) = true then some true else (if ((PySem.W.clsIn K R).isSome && PySem.W.typeIn K (.ref R) == some (.type "type")) = true then PySem.W.subIn K (.ref C) (.ref R) else none)) = some false
  rw [if_neg (fun e => by
    have e' : C = R := Value.ref.inj (beq_iff_eq.mp e)
    rw [e'] at h1 h4
    rw [h1] at h4
    cases h4), if_pos e2]
  exact h4
theorem exmSelf {K : PySem.W.Frag} {S : Addr} (h1 : PySem.W.subIn K (.ref S) (.type "BaseException") = some true) (h2 : PySem.W.isClsIn K S = true) (h3 : PySem.W.typeIn K (.ref S) = some (.type "type")) (h4 : PySem.W.subIn K (.ref S) (.ref S) = some true) : PySem.W.exmOne K (.ref S) (.ref S) = some true := by
  have e1 : (PySem.W.subIn K (.ref S) (.type "BaseException") == some true) = true := by rw [h1] <;> rfl
  have e2 : ((PySem.W.clsIn K S).isSome && PySem.W.typeIn K (.ref S) == some (.type "type")) = true := by
    have h2' : (PySem.W.clsIn K S).isSome = true := h2
    rw [h2', h3] <;> rfl
  show (if (PySem.W.subIn K (.ref S) (.type "BaseException") == some true) = true then (if ((PySem.W.clsIn K S).isSome && PySem.W.typeIn K (.ref S) == some (.type "type")) = true then PySem.W.subIn K (.ref S) (.ref S) else none) else none) = some true
  rw [if_pos e1, if_pos e2]
  exact h4
theorem all_mk {l : PySem.W.OpenLaw} {w : World} {K : PySem.W.Frag} {h : Heap} {mg : Str → Option Value} {fa f_is_integer f_is_sequence f_is_worded f_is_text f_is_name f_kind_of f_Test_init f_Test_and f_Test_or f_Test_invert f_Test_eq f_size_of f_depth_of f_combined f_need_column f_need_op f_need_values f_compare f_against f_among f_begins f_empty f_always f_never f_sure f_is_short f_are_names f_is_part f_need_order f_Plan_init f_Plan_steps f_Plan_eq f_Plan_len f_is_step f_is_order f_step_of f__law_int f__law_pool f__law_draw f__law_value f__law_name f__law_columns f__law_atom f__law_make f__law_order f__law_step f__law_made_step f__law_is_name f__law_order_right f__law_right f__law_odd f__law_due f__law_said f_law : Addr} {c_Test c_Plan : Addr} {c_BadTest feBadTest : Addr} {c_BadOrder feBadOrder : Addr} {c_BadPlan feBadPlan : Addr} (X : K.In h) (G : h.Ns mainGlobals mg) (hfa : mg "law" = some (.ref fa))
    {od_is_integer an_is_integer : Option Addr} {sl_is_integer : Array (Option Value)} {oc_is_integer kV_is_integer dc_is_integer pm_is_integer cd_is_integer ct_is_integer : Value}
    {od_is_sequence an_is_sequence : Option Addr} {sl_is_sequence : Array (Option Value)} {oc_is_sequence kV_is_sequence dc_is_sequence pm_is_sequence cd_is_sequence ct_is_sequence : Value}
    {od_is_worded an_is_worded : Option Addr} {sl_is_worded : Array (Option Value)} {oc_is_worded kV_is_worded dc_is_worded pm_is_worded cd_is_worded ct_is_worded : Value}
    {od_is_text an_is_text : Option Addr} {sl_is_text : Array (Option Value)} {oc_is_text kV_is_text dc_is_text pm_is_text cd_is_text ct_is_text : Value}
    {od_is_name an_is_name : Option Addr} {sl_is_name : Array (Option Value)} {oc_is_name kV_is_name dc_is_name pm_is_name cd_is_name ct_is_name : Value}
    {od_kind_of an_kind_of : Option Addr} {sl_kind_of : Array (Option Value)} {oc_kind_of kV_kind_of dc_kind_of pm_kind_of cd_kind_of ct_kind_of : Value}
    {od_Test_init an_Test_init : Option Addr} {sl_Test_init : Array (Option Value)} {oc_Test_init kV_Test_init dc_Test_init pm_Test_init cd_Test_init ct_Test_init : Value}
    {od_Test_and an_Test_and : Option Addr} {sl_Test_and : Array (Option Value)} {oc_Test_and kV_Test_and dc_Test_and pm_Test_and cd_Test_and ct_Test_and : Value}
    {od_Test_or an_Test_or : Option Addr} {sl_Test_or : Array (Option Value)} {oc_Test_or kV_Test_or dc_Test_or pm_Test_or cd_Test_or ct_Test_or : Value}
    {od_Test_invert an_Test_invert : Option Addr} {sl_Test_invert : Array (Option Value)} {oc_Test_invert kV_Test_invert dc_Test_invert pm_Test_invert cd_Test_invert ct_Test_invert : Value}
    {od_Test_eq an_Test_eq : Option Addr} {sl_Test_eq : Array (Option Value)} {oc_Test_eq kV_Test_eq dc_Test_eq pm_Test_eq cd_Test_eq ct_Test_eq : Value}
    {od_size_of an_size_of : Option Addr} {sl_size_of : Array (Option Value)} {oc_size_of kV_size_of dc_size_of pm_size_of cd_size_of ct_size_of : Value}
    {od_depth_of an_depth_of : Option Addr} {sl_depth_of : Array (Option Value)} {oc_depth_of kV_depth_of dc_depth_of pm_depth_of cd_depth_of ct_depth_of : Value}
    {od_combined an_combined : Option Addr} {sl_combined : Array (Option Value)} {oc_combined kV_combined dc_combined pm_combined cd_combined ct_combined : Value}
    {od_need_column an_need_column : Option Addr} {sl_need_column : Array (Option Value)} {oc_need_column kV_need_column dc_need_column pm_need_column cd_need_column ct_need_column : Value}
    {od_need_op an_need_op : Option Addr} {sl_need_op : Array (Option Value)} {oc_need_op kV_need_op dc_need_op pm_need_op cd_need_op ct_need_op : Value}
    {od_need_values an_need_values : Option Addr} {sl_need_values : Array (Option Value)} {oc_need_values kV_need_values dc_need_values pm_need_values cd_need_values ct_need_values : Value}
    {od_compare an_compare : Option Addr} {sl_compare : Array (Option Value)} {oc_compare kV_compare dc_compare pm_compare cd_compare ct_compare : Value}
    {od_against an_against : Option Addr} {sl_against : Array (Option Value)} {oc_against dc_against pm_against cd_against ct_against : Value}
    {od_among an_among : Option Addr} {sl_among : Array (Option Value)} {oc_among kV_among dc_among pm_among cd_among ct_among : Value}
    {od_begins an_begins : Option Addr} {sl_begins : Array (Option Value)} {oc_begins kV_begins dc_begins pm_begins cd_begins ct_begins : Value}
    {od_empty an_empty : Option Addr} {sl_empty : Array (Option Value)} {oc_empty kV_empty dc_empty pm_empty cd_empty ct_empty : Value}
    {od_always an_always : Option Addr} {sl_always : Array (Option Value)} {oc_always kV_always dc_always pm_always cd_always ct_always : Value}
    {od_never an_never : Option Addr} {sl_never : Array (Option Value)} {oc_never kV_never dc_never pm_never cd_never ct_never : Value}
    {od_sure an_sure : Option Addr} {sl_sure : Array (Option Value)} {oc_sure kV_sure dc_sure pm_sure cd_sure ct_sure : Value}
    {od_is_short an_is_short : Option Addr} {sl_is_short : Array (Option Value)} {oc_is_short kV_is_short dc_is_short pm_is_short cd_is_short ct_is_short : Value}
    {od_are_names an_are_names : Option Addr} {sl_are_names : Array (Option Value)} {oc_are_names kV_are_names dc_are_names pm_are_names cd_are_names ct_are_names : Value}
    {od_is_part an_is_part : Option Addr} {sl_is_part : Array (Option Value)} {oc_is_part kV_is_part dc_is_part pm_is_part cd_is_part ct_is_part : Value}
    {od_need_order an_need_order : Option Addr} {sl_need_order : Array (Option Value)} {oc_need_order kV_need_order dc_need_order pm_need_order cd_need_order ct_need_order : Value}
    {od_Plan_init an_Plan_init : Option Addr} {sl_Plan_init : Array (Option Value)} {oc_Plan_init kV_Plan_init dc_Plan_init pm_Plan_init cd_Plan_init ct_Plan_init : Value}
    {od_Plan_steps an_Plan_steps : Option Addr} {sl_Plan_steps : Array (Option Value)} {oc_Plan_steps kV_Plan_steps dc_Plan_steps pm_Plan_steps cd_Plan_steps ct_Plan_steps : Value}
    {od_Plan_eq an_Plan_eq : Option Addr} {sl_Plan_eq : Array (Option Value)} {oc_Plan_eq kV_Plan_eq dc_Plan_eq pm_Plan_eq cd_Plan_eq ct_Plan_eq : Value}
    {od_Plan_len an_Plan_len : Option Addr} {sl_Plan_len : Array (Option Value)} {oc_Plan_len kV_Plan_len dc_Plan_len pm_Plan_len cd_Plan_len ct_Plan_len : Value}
    {od_is_step an_is_step : Option Addr} {sl_is_step : Array (Option Value)} {oc_is_step kV_is_step dc_is_step pm_is_step cd_is_step ct_is_step : Value}
    {od_is_order an_is_order : Option Addr} {sl_is_order : Array (Option Value)} {oc_is_order kV_is_order dc_is_order pm_is_order cd_is_order ct_is_order : Value}
    {od_step_of an_step_of : Option Addr} {sl_step_of : Array (Option Value)} {oc_step_of kV_step_of dc_step_of pm_step_of cd_step_of ct_step_of : Value}
    {od__law_int an__law_int : Option Addr} {sl__law_int : Array (Option Value)} {oc__law_int kV__law_int dc__law_int pm__law_int cd__law_int ct__law_int : Value}
    {od__law_pool an__law_pool : Option Addr} {sl__law_pool : Array (Option Value)} {oc__law_pool kV__law_pool dc__law_pool pm__law_pool cd__law_pool ct__law_pool : Value}
    {od__law_draw an__law_draw : Option Addr} {sl__law_draw : Array (Option Value)} {oc__law_draw kV__law_draw dc__law_draw pm__law_draw cd__law_draw ct__law_draw : Value}
    {od__law_value an__law_value : Option Addr} {sl__law_value : Array (Option Value)} {oc__law_value kV__law_value dc__law_value pm__law_value cd__law_value ct__law_value : Value}
    {od__law_name an__law_name : Option Addr} {sl__law_name : Array (Option Value)} {oc__law_name kV__law_name dc__law_name pm__law_name cd__law_name ct__law_name : Value}
    {od__law_columns an__law_columns : Option Addr} {sl__law_columns : Array (Option Value)} {oc__law_columns kV__law_columns dc__law_columns pm__law_columns cd__law_columns ct__law_columns : Value}
    {od__law_atom an__law_atom : Option Addr} {sl__law_atom : Array (Option Value)} {oc__law_atom kV__law_atom dc__law_atom pm__law_atom cd__law_atom ct__law_atom : Value}
    {od__law_make an__law_make : Option Addr} {sl__law_make : Array (Option Value)} {oc__law_make kV__law_make dc__law_make pm__law_make cd__law_make ct__law_make : Value}
    {od__law_order an__law_order : Option Addr} {sl__law_order : Array (Option Value)} {oc__law_order kV__law_order dc__law_order pm__law_order cd__law_order ct__law_order : Value}
    {od__law_step an__law_step : Option Addr} {sl__law_step : Array (Option Value)} {oc__law_step kV__law_step dc__law_step pm__law_step cd__law_step ct__law_step : Value}
    {od__law_made_step an__law_made_step : Option Addr} {sl__law_made_step : Array (Option Value)} {oc__law_made_step kV__law_made_step dc__law_made_step pm__law_made_step cd__law_made_step ct__law_made_step : Value}
    {od__law_is_name an__law_is_name : Option Addr} {sl__law_is_name : Array (Option Value)} {oc__law_is_name kV__law_is_name dc__law_is_name pm__law_is_name cd__law_is_name ct__law_is_name : Value}
    {od__law_order_right an__law_order_right : Option Addr} {sl__law_order_right : Array (Option Value)} {oc__law_order_right kV__law_order_right dc__law_order_right pm__law_order_right cd__law_order_right ct__law_order_right : Value}
    {od__law_right an__law_right : Option Addr} {sl__law_right : Array (Option Value)} {oc__law_right kV__law_right dc__law_right pm__law_right cd__law_right ct__law_right : Value}
    {od__law_odd an__law_odd : Option Addr} {sl__law_odd : Array (Option Value)} {oc__law_odd kV__law_odd dc__law_odd pm__law_odd cd__law_odd ct__law_odd : Value}
    {od__law_due an__law_due : Option Addr} {sl__law_due : Array (Option Value)} {oc__law_due kV__law_due dc__law_due pm__law_due cd__law_due ct__law_due : Value}
    {od__law_said an__law_said : Option Addr} {sl__law_said : Array (Option Value)} {oc__law_said kV__law_said dc__law_said pm__law_said cd__law_said ct__law_said : Value}
    {od_law an_law : Option Addr} {sl_law : Array (Option Value)} {oc_law kV_law dc_law pm_law cd_law ct_law : Value}
    (a_Test : PySem.W.nsIn K mainGlobals "Test" = some (some (.ref c_Test))) (pg_Test : PySem.W.plainGet K c_Test Str.empty = true) (hd_Test : PySem.W.hasDictIn K c_Test = true) (po_Test : PySem.W.plainOver K c_Test = true) (sa_Test : PySem.W.findIn K (.ref c_Test) "__setattr__" = some (some (.builtin "object.__setattr__"))) (mk_Test : PySem.W.makesIn K c_Test = true) (kc_Test : PySem.W.keepIn K (.ref c_Test) = true)
    (sf_Test : PySem.W.selfFirst K c_Test = true)
    (nn_Test : PySem.W.findIn K (.ref c_Test) "__ne__" = some (some (.builtin "object.__ne__"))) (nz_Test : PySem.W.subIn K (.ref c_Test) (.type "object") = some true)
    (nr_Test_and : PySem.W.findIn K (.ref c_Test) (dunderR "and") = some none)
    (nr_Test_or : PySem.W.findIn K (.ref c_Test) (dunderR "or") = some none)
    (ia_Test : PySem.W.findIn K (.ref c_Test) "__class__" = some (some (.builtin "object.__class__"))) (in_Test : PySem.W.specialIn K (.builtin "object.__class__") "__get__" = some (some (.builtin "getset_descriptor.__get__"))) (it_Test : PySem.W.takesIn K (.builtin "object.__class__") = some true) (im_Test : PySem.W.mroIn K c_Test (.type "object") = some true) (io_Test : PySem.W.isClsIn K c_Test = true) (iy_Test : PySem.W.typeIn K (.ref c_Test) = some (.type "type"))
    (iz_Test_NoneType : PySem.W.subIn K (.type "NoneType") (.ref c_Test) = some false)
    (iz_Test_bool : PySem.W.subIn K (.type "bool") (.ref c_Test) = some false)
    (iz_Test_int : PySem.W.subIn K (.type "int") (.ref c_Test) = some false)
    (iz_Test_str : PySem.W.subIn K (.type "str") (.ref c_Test) = some false)
    (iz_Test_list : PySem.W.subIn K (.type "list") (.ref c_Test) = some false)
    (iz_Test_tuple : PySem.W.subIn K (.type "tuple") (.ref c_Test) = some false)
    (iz_Test_dict : PySem.W.subIn K (.type "dict") (.ref c_Test) = some false)
    (n_Test_word : PySem.W.findIn K (.ref c_Test) "word" = some none)
    (n_Test_inner : PySem.W.findIn K (.ref c_Test) "inner" = some none)
    (n_Test_fields : PySem.W.findIn K (.ref c_Test) "fields" = some none)
    (n_Test_terms : PySem.W.findIn K (.ref c_Test) "terms" = some none)
    (n_Test_size : PySem.W.findIn K (.ref c_Test) "size" = some none)
    (n_Test_depth : PySem.W.findIn K (.ref c_Test) "depth" = some none)
    (a_Plan : PySem.W.nsIn K mainGlobals "Plan" = some (some (.ref c_Plan))) (pg_Plan : PySem.W.plainGet K c_Plan Str.empty = true) (hd_Plan : PySem.W.hasDictIn K c_Plan = true) (po_Plan : PySem.W.plainOver K c_Plan = true) (sa_Plan : PySem.W.findIn K (.ref c_Plan) "__setattr__" = some (some (.builtin "object.__setattr__"))) (mk_Plan : PySem.W.makesIn K c_Plan = true) (kc_Plan : PySem.W.keepIn K (.ref c_Plan) = true)
    (sf_Plan : PySem.W.selfFirst K c_Plan = true)
    (nn_Plan : PySem.W.findIn K (.ref c_Plan) "__ne__" = some (some (.builtin "object.__ne__"))) (nz_Plan : PySem.W.subIn K (.ref c_Plan) (.type "object") = some true)
    (nr_Plan_and : PySem.W.findIn K (.ref c_Plan) (dunderR "and") = some none)
    (nr_Plan_or : PySem.W.findIn K (.ref c_Plan) (dunderR "or") = some none)
    (ia_Plan : PySem.W.findIn K (.ref c_Plan) "__class__" = some (some (.builtin "object.__class__"))) (in_Plan : PySem.W.specialIn K (.builtin "object.__class__") "__get__" = some (some (.builtin "getset_descriptor.__get__"))) (it_Plan : PySem.W.takesIn K (.builtin "object.__class__") = some true) (im_Plan : PySem.W.mroIn K c_Plan (.type "object") = some true) (io_Plan : PySem.W.isClsIn K c_Plan = true) (iy_Plan : PySem.W.typeIn K (.ref c_Plan) = some (.type "type"))
    (iz_Plan_NoneType : PySem.W.subIn K (.type "NoneType") (.ref c_Plan) = some false)
    (iz_Plan_bool : PySem.W.subIn K (.type "bool") (.ref c_Plan) = some false)
    (iz_Plan_int : PySem.W.subIn K (.type "int") (.ref c_Plan) = some false)
    (iz_Plan_str : PySem.W.subIn K (.type "str") (.ref c_Plan) = some false)
    (iz_Plan_list : PySem.W.subIn K (.type "list") (.ref c_Plan) = some false)
    (iz_Plan_tuple : PySem.W.subIn K (.type "tuple") (.ref c_Plan) = some false)
    (iz_Plan_dict : PySem.W.subIn K (.type "dict") (.ref c_Plan) = some false)
    (n_Plan_course : PySem.W.findIn K (.ref c_Plan) "course" = some none)
    {nm_eBadTest q_eBadTest : Str} {N_eBadTest : Addr} {bs_eBadTest bm_eBadTest : List Value} {sn_eBadTest : List Str} {su_eBadTest : List Value} {ab_eBadTest : Bool} {co_eBadTest : Option Bool} {dd_eBadTest : Option Addr} {m0_eBadTest m1_eBadTest m2_eBadTest m3_eBadTest m5_eBadTest : Option Value} {oc_eBadTest doc_eBadTest pm_eBadTest cd_eBadTest ct_eBadTest : Value} {od_eBadTest an_eBadTest : Option Addr} {sl_eBadTest : Array (Option Value)} {p1_eBadTest p2_eBadTest q1_eBadTest q2_eBadTest q3_eBadTest q4_eBadTest : Pos} {sc_eBadTest : Scope}
    (a_eBadTest : PySem.W.nsIn K mainGlobals "BadTest" = some (some (.ref c_BadTest))) (x_eBadTest : K.lookup c_BadTest = some (excClassObj nm_eBadTest q_eBadTest c_BadTest N_eBadTest bs_eBadTest bm_eBadTest true sn_eBadTest su_eBadTest ab_eBadTest co_eBadTest dd_eBadTest m0_eBadTest m1_eBadTest m2_eBadTest m3_eBadTest m5_eBadTest "Exception.__new__")) (o_eBadTest : PySem.TwX.OwnEx bm_eBadTest) (sa_eBadTest : PySem.W.findIn K (.ref c_BadTest) "__setattr__" = some (some (.builtin "object.__setattr__"))) (ga_eBadTest : PySem.W.findIn K (.ref c_BadTest) "__getattribute__" = some (some (.builtin "BaseException.__getattribute__"))) (gg_eBadTest : PySem.W.findIn K (.ref c_BadTest) "__getattr__" = some none) (nb_eBadTest : PySem.W.findIn K (.ref c_BadTest) "why" = some none) (i_eBadTest : PySem.W.findIn K (.ref c_BadTest) "__init__" = some (some (.ref feBadTest))) (t_eBadTest : PySem.W.typeIn K (.ref feBadTest) = some (.type "function"))
    (l_eBadTest : K.lookup feBadTest = some ⟨oc_eBadTest, od_eBadTest, .func (PySem.W.fnOf "__init__" "BadTest.__init__" (PySem.ErBadTest.inA p1_eBadTest p2_eBadTest) (PySem.ErBadTest.inB q1_eBadTest q2_eBadTest q3_eBadTest q4_eBadTest) sc_eBadTest .none .none doc_eBadTest pm_eBadTest an_eBadTest cd_eBadTest ct_eBadTest), sl_eBadTest⟩) (cc_eBadTest : PySem.W.codeIn K cd_eBadTest "BadTest.__init__" = true) (s1_eBadTest : sc_eBadTest.kind = .function) (s2_eBadTest : sc_eBadTest.names = [(PySem.Str.ofString "self", .local), (PySem.Str.ofString "why", .local)]) (s3_eBadTest : sc_eBadTest.isGenerator = false) (s4_eBadTest : sc_eBadTest.isCoroutine = false)
    (k_eBadTest : PySem.W.keepIn K (.ref c_BadTest) = true) (eC_eBadTest : PySem.W.subIn K (.ref c_BadTest) (.type "BaseException") = some true) (tC_eBadTest : PySem.W.typeIn K (.ref c_BadTest) = some (.type "type")) (hC_eBadTest : PySem.W.hasDictIn K c_BadTest = true) (te_eBadTest : PySem.W.isClsIn K c_BadTest = true) (tf_eBadTest : PySem.W.subIn K (.ref c_BadTest) (.ref c_BadTest) = some true)
    {nm_eBadOrder q_eBadOrder : Str} {N_eBadOrder : Addr} {bs_eBadOrder bm_eBadOrder : List Value} {sn_eBadOrder : List Str} {su_eBadOrder : List Value} {ab_eBadOrder : Bool} {co_eBadOrder : Option Bool} {dd_eBadOrder : Option Addr} {m0_eBadOrder m1_eBadOrder m2_eBadOrder m3_eBadOrder m5_eBadOrder : Option Value} {oc_eBadOrder doc_eBadOrder pm_eBadOrder cd_eBadOrder ct_eBadOrder : Value} {od_eBadOrder an_eBadOrder : Option Addr} {sl_eBadOrder : Array (Option Value)} {p1_eBadOrder p2_eBadOrder q1_eBadOrder q2_eBadOrder q3_eBadOrder q4_eBadOrder : Pos} {sc_eBadOrder : Scope}
    (a_eBadOrder : PySem.W.nsIn K mainGlobals "BadOrder" = some (some (.ref c_BadOrder))) (x_eBadOrder : K.lookup c_BadOrder = some (excClassObj nm_eBadOrder q_eBadOrder c_BadOrder N_eBadOrder bs_eBadOrder bm_eBadOrder true sn_eBadOrder su_eBadOrder ab_eBadOrder co_eBadOrder dd_eBadOrder m0_eBadOrder m1_eBadOrder m2_eBadOrder m3_eBadOrder m5_eBadOrder "Exception.__new__")) (o_eBadOrder : PySem.TwX.OwnEx bm_eBadOrder) (sa_eBadOrder : PySem.W.findIn K (.ref c_BadOrder) "__setattr__" = some (some (.builtin "object.__setattr__"))) (ga_eBadOrder : PySem.W.findIn K (.ref c_BadOrder) "__getattribute__" = some (some (.builtin "BaseException.__getattribute__"))) (gg_eBadOrder : PySem.W.findIn K (.ref c_BadOrder) "__getattr__" = some none) (nb_eBadOrder : PySem.W.findIn K (.ref c_BadOrder) "at" = some none) (i_eBadOrder : PySem.W.findIn K (.ref c_BadOrder) "__init__" = some (some (.ref feBadOrder))) (t_eBadOrder : PySem.W.typeIn K (.ref feBadOrder) = some (.type "function"))
    (l_eBadOrder : K.lookup feBadOrder = some ⟨oc_eBadOrder, od_eBadOrder, .func (PySem.W.fnOf "__init__" "BadOrder.__init__" (PySem.ErBadOrder.inA p1_eBadOrder p2_eBadOrder) (PySem.ErBadOrder.inB q1_eBadOrder q2_eBadOrder q3_eBadOrder q4_eBadOrder) sc_eBadOrder .none .none doc_eBadOrder pm_eBadOrder an_eBadOrder cd_eBadOrder ct_eBadOrder), sl_eBadOrder⟩) (cc_eBadOrder : PySem.W.codeIn K cd_eBadOrder "BadOrder.__init__" = true) (s1_eBadOrder : sc_eBadOrder.kind = .function) (s2_eBadOrder : sc_eBadOrder.names = [(PySem.Str.ofString "self", .local), (PySem.Str.ofString "at", .local)]) (s3_eBadOrder : sc_eBadOrder.isGenerator = false) (s4_eBadOrder : sc_eBadOrder.isCoroutine = false)
    (k_eBadOrder : PySem.W.keepIn K (.ref c_BadOrder) = true) (eC_eBadOrder : PySem.W.subIn K (.ref c_BadOrder) (.type "BaseException") = some true) (tC_eBadOrder : PySem.W.typeIn K (.ref c_BadOrder) = some (.type "type")) (hC_eBadOrder : PySem.W.hasDictIn K c_BadOrder = true) (te_eBadOrder : PySem.W.isClsIn K c_BadOrder = true) (tf_eBadOrder : PySem.W.subIn K (.ref c_BadOrder) (.ref c_BadOrder) = some true)
    {nm_eBadPlan q_eBadPlan : Str} {N_eBadPlan : Addr} {bs_eBadPlan bm_eBadPlan : List Value} {sn_eBadPlan : List Str} {su_eBadPlan : List Value} {ab_eBadPlan : Bool} {co_eBadPlan : Option Bool} {dd_eBadPlan : Option Addr} {m0_eBadPlan m1_eBadPlan m2_eBadPlan m3_eBadPlan m5_eBadPlan : Option Value} {oc_eBadPlan doc_eBadPlan pm_eBadPlan cd_eBadPlan ct_eBadPlan : Value} {od_eBadPlan an_eBadPlan : Option Addr} {sl_eBadPlan : Array (Option Value)} {p1_eBadPlan p2_eBadPlan p3_eBadPlan q1_eBadPlan q2_eBadPlan q3_eBadPlan q4_eBadPlan q5_eBadPlan q6_eBadPlan q7_eBadPlan q8_eBadPlan : Pos} {sc_eBadPlan : Scope}
    (a_eBadPlan : PySem.W.nsIn K mainGlobals "BadPlan" = some (some (.ref c_BadPlan))) (x_eBadPlan : K.lookup c_BadPlan = some (excClassObj nm_eBadPlan q_eBadPlan c_BadPlan N_eBadPlan bs_eBadPlan bm_eBadPlan true sn_eBadPlan su_eBadPlan ab_eBadPlan co_eBadPlan dd_eBadPlan m0_eBadPlan m1_eBadPlan m2_eBadPlan m3_eBadPlan m5_eBadPlan "Exception.__new__")) (o_eBadPlan : PySem.TwX.OwnEx bm_eBadPlan) (sa_eBadPlan : PySem.W.findIn K (.ref c_BadPlan) "__setattr__" = some (some (.builtin "object.__setattr__"))) (ga_eBadPlan : PySem.W.findIn K (.ref c_BadPlan) "__getattribute__" = some (some (.builtin "BaseException.__getattribute__"))) (gg_eBadPlan : PySem.W.findIn K (.ref c_BadPlan) "__getattr__" = some none) (nb_eBadPlan : PySem.W.findIn K (.ref c_BadPlan) "why" = some none) (i_eBadPlan : PySem.W.findIn K (.ref c_BadPlan) "__init__" = some (some (.ref feBadPlan))) (t_eBadPlan : PySem.W.typeIn K (.ref feBadPlan) = some (.type "function")) (nc_eBadPlan : PySem.W.findIn K (.ref c_BadPlan) "at" = some none)
    (l_eBadPlan : K.lookup feBadPlan = some ⟨oc_eBadPlan, od_eBadPlan, .func (PySem.W.fnOf "__init__" "BadPlan.__init__" (PySem.ErBadPlan.inA p1_eBadPlan p2_eBadPlan p3_eBadPlan) (PySem.ErBadPlan.inB q1_eBadPlan q2_eBadPlan q3_eBadPlan q4_eBadPlan q5_eBadPlan q6_eBadPlan q7_eBadPlan q8_eBadPlan) sc_eBadPlan .none .none doc_eBadPlan pm_eBadPlan an_eBadPlan cd_eBadPlan ct_eBadPlan), sl_eBadPlan⟩) (cc_eBadPlan : PySem.W.codeIn K cd_eBadPlan "BadPlan.__init__" = true) (s1_eBadPlan : sc_eBadPlan.kind = .function) (s2_eBadPlan : sc_eBadPlan.names = [(PySem.Str.ofString "self", .local), (PySem.Str.ofString "why", .local), (PySem.Str.ofString "at", .local)]) (s3_eBadPlan : sc_eBadPlan.isGenerator = false) (s4_eBadPlan : sc_eBadPlan.isCoroutine = false)
    (k_eBadPlan : PySem.W.keepIn K (.ref c_BadPlan) = true) (eC_eBadPlan : PySem.W.subIn K (.ref c_BadPlan) (.type "BaseException") = some true) (tC_eBadPlan : PySem.W.typeIn K (.ref c_BadPlan) = some (.type "type")) (hC_eBadPlan : PySem.W.hasDictIn K c_BadPlan = true) (te_eBadPlan : PySem.W.isClsIn K c_BadPlan = true) (tf_eBadPlan : PySem.W.subIn K (.ref c_BadPlan) (.ref c_BadPlan) = some true)
    (a_is_integer : PySem.W.nsIn K mainGlobals "is_integer" = some (some (.ref f_is_integer))) (l_is_integer : K.lookup f_is_integer = some ⟨oc_is_integer, od_is_integer, .func (PySem.W.fnOf "is_integer" "is_integer" (defArgs S_is_integer) (defBody S_is_integer) (defScope S_is_integer) .none kV_is_integer dc_is_integer pm_is_integer an_is_integer cd_is_integer ct_is_integer), sl_is_integer⟩) (c_is_integer : PySem.W.codeIn K cd_is_integer "is_integer" = true) (k_is_integer : PySem.W.keepIn K (.ref f_is_integer) = true)
    (a_is_sequence : PySem.W.nsIn K mainGlobals "is_sequence" = some (some (.ref f_is_sequence))) (l_is_sequence : K.lookup f_is_sequence = some ⟨oc_is_sequence, od_is_sequence, .func (PySem.W.fnOf "is_sequence" "is_sequence" (defArgs S_is_sequence) (defBody S_is_sequence) (defScope S_is_sequence) .none kV_is_sequence dc_is_sequence pm_is_sequence an_is_sequence cd_is_sequence ct_is_sequence), sl_is_sequence⟩) (c_is_sequence : PySem.W.codeIn K cd_is_sequence "is_sequence" = true) (k_is_sequence : PySem.W.keepIn K (.ref f_is_sequence) = true)
    (a_is_worded : PySem.W.nsIn K mainGlobals "is_worded" = some (some (.ref f_is_worded))) (l_is_worded : K.lookup f_is_worded = some ⟨oc_is_worded, od_is_worded, .func (PySem.W.fnOf "is_worded" "is_worded" (defArgs S_is_worded) (defBody S_is_worded) (defScope S_is_worded) .none kV_is_worded dc_is_worded pm_is_worded an_is_worded cd_is_worded ct_is_worded), sl_is_worded⟩) (c_is_worded : PySem.W.codeIn K cd_is_worded "is_worded" = true) (k_is_worded : PySem.W.keepIn K (.ref f_is_worded) = true)
    (a_is_text : PySem.W.nsIn K mainGlobals "is_text" = some (some (.ref f_is_text))) (l_is_text : K.lookup f_is_text = some ⟨oc_is_text, od_is_text, .func (PySem.W.fnOf "is_text" "is_text" (defArgs S_is_text) (defBody S_is_text) (defScope S_is_text) .none kV_is_text dc_is_text pm_is_text an_is_text cd_is_text ct_is_text), sl_is_text⟩) (c_is_text : PySem.W.codeIn K cd_is_text "is_text" = true) (k_is_text : PySem.W.keepIn K (.ref f_is_text) = true)
    (a_is_name : PySem.W.nsIn K mainGlobals "is_name" = some (some (.ref f_is_name))) (l_is_name : K.lookup f_is_name = some ⟨oc_is_name, od_is_name, .func (PySem.W.fnOf "is_name" "is_name" (defArgs S_is_name) (defBody S_is_name) (defScope S_is_name) .none kV_is_name dc_is_name pm_is_name an_is_name cd_is_name ct_is_name), sl_is_name⟩) (c_is_name : PySem.W.codeIn K cd_is_name "is_name" = true) (k_is_name : PySem.W.keepIn K (.ref f_is_name) = true)
    (a_kind_of : PySem.W.nsIn K mainGlobals "kind_of" = some (some (.ref f_kind_of))) (l_kind_of : K.lookup f_kind_of = some ⟨oc_kind_of, od_kind_of, .func (PySem.W.fnOf "kind_of" "kind_of" (defArgs S_kind_of) (defBody S_kind_of) (defScope S_kind_of) .none kV_kind_of dc_kind_of pm_kind_of an_kind_of cd_kind_of ct_kind_of), sl_kind_of⟩) (c_kind_of : PySem.W.codeIn K cd_kind_of "kind_of" = true) (k_kind_of : PySem.W.keepIn K (.ref f_kind_of) = true)
    (a_Test_init : PySem.W.findIn K (.ref c_Test) "__init__" = some (some (.ref f_Test_init))) (i_Test_init : PySem.W.isFn K (.ref f_Test_init) = true) (l_Test_init : K.lookup f_Test_init = some ⟨oc_Test_init, od_Test_init, .func (PySem.W.fnOf "__init__" "Test.__init__" (defArgs S_Test_init) (defBody S_Test_init) (defScope S_Test_init) .none kV_Test_init dc_Test_init pm_Test_init an_Test_init cd_Test_init ct_Test_init), sl_Test_init⟩) (c_Test_init : PySem.W.codeIn K cd_Test_init "Test.__init__" = true) (k_Test_init : PySem.W.keepIn K (.ref f_Test_init) = true)
    (a_Test_and : PySem.W.findIn K (.ref c_Test) "__and__" = some (some (.ref f_Test_and))) (i_Test_and : PySem.W.isFn K (.ref f_Test_and) = true) (l_Test_and : K.lookup f_Test_and = some ⟨oc_Test_and, od_Test_and, .func (PySem.W.fnOf "__and__" "Test.__and__" (defArgs S_Test_and) (defBody S_Test_and) (defScope S_Test_and) .none kV_Test_and dc_Test_and pm_Test_and an_Test_and cd_Test_and ct_Test_and), sl_Test_and⟩) (c_Test_and : PySem.W.codeIn K cd_Test_and "Test.__and__" = true) (k_Test_and : PySem.W.keepIn K (.ref f_Test_and) = true)
    (a_Test_or : PySem.W.findIn K (.ref c_Test) "__or__" = some (some (.ref f_Test_or))) (i_Test_or : PySem.W.isFn K (.ref f_Test_or) = true) (l_Test_or : K.lookup f_Test_or = some ⟨oc_Test_or, od_Test_or, .func (PySem.W.fnOf "__or__" "Test.__or__" (defArgs S_Test_or) (defBody S_Test_or) (defScope S_Test_or) .none kV_Test_or dc_Test_or pm_Test_or an_Test_or cd_Test_or ct_Test_or), sl_Test_or⟩) (c_Test_or : PySem.W.codeIn K cd_Test_or "Test.__or__" = true) (k_Test_or : PySem.W.keepIn K (.ref f_Test_or) = true)
    (a_Test_invert : PySem.W.findIn K (.ref c_Test) "__invert__" = some (some (.ref f_Test_invert))) (i_Test_invert : PySem.W.isFn K (.ref f_Test_invert) = true) (l_Test_invert : K.lookup f_Test_invert = some ⟨oc_Test_invert, od_Test_invert, .func (PySem.W.fnOf "__invert__" "Test.__invert__" (defArgs S_Test_invert) (defBody S_Test_invert) (defScope S_Test_invert) .none kV_Test_invert dc_Test_invert pm_Test_invert an_Test_invert cd_Test_invert ct_Test_invert), sl_Test_invert⟩) (c_Test_invert : PySem.W.codeIn K cd_Test_invert "Test.__invert__" = true) (k_Test_invert : PySem.W.keepIn K (.ref f_Test_invert) = true)
    (a_Test_eq : PySem.W.findIn K (.ref c_Test) "__eq__" = some (some (.ref f_Test_eq))) (i_Test_eq : PySem.W.isFn K (.ref f_Test_eq) = true) (l_Test_eq : K.lookup f_Test_eq = some ⟨oc_Test_eq, od_Test_eq, .func (PySem.W.fnOf "__eq__" "Test.__eq__" (defArgs S_Test_eq) (defBody S_Test_eq) (defScope S_Test_eq) .none kV_Test_eq dc_Test_eq pm_Test_eq an_Test_eq cd_Test_eq ct_Test_eq), sl_Test_eq⟩) (c_Test_eq : PySem.W.codeIn K cd_Test_eq "Test.__eq__" = true) (k_Test_eq : PySem.W.keepIn K (.ref f_Test_eq) = true)
    (a_size_of : PySem.W.nsIn K mainGlobals "size_of" = some (some (.ref f_size_of))) (l_size_of : K.lookup f_size_of = some ⟨oc_size_of, od_size_of, .func (PySem.W.fnOf "size_of" "size_of" (defArgs S_size_of) (defBody S_size_of) (defScope S_size_of) .none kV_size_of dc_size_of pm_size_of an_size_of cd_size_of ct_size_of), sl_size_of⟩) (c_size_of : PySem.W.codeIn K cd_size_of "size_of" = true) (k_size_of : PySem.W.keepIn K (.ref f_size_of) = true)
    (a_depth_of : PySem.W.nsIn K mainGlobals "depth_of" = some (some (.ref f_depth_of))) (l_depth_of : K.lookup f_depth_of = some ⟨oc_depth_of, od_depth_of, .func (PySem.W.fnOf "depth_of" "depth_of" (defArgs S_depth_of) (defBody S_depth_of) (defScope S_depth_of) .none kV_depth_of dc_depth_of pm_depth_of an_depth_of cd_depth_of ct_depth_of), sl_depth_of⟩) (c_depth_of : PySem.W.codeIn K cd_depth_of "depth_of" = true) (k_depth_of : PySem.W.keepIn K (.ref f_depth_of) = true)
    (a_combined : PySem.W.nsIn K mainGlobals "combined" = some (some (.ref f_combined))) (l_combined : K.lookup f_combined = some ⟨oc_combined, od_combined, .func (PySem.W.fnOf "combined" "combined" (defArgs S_combined) (defBody S_combined) (defScope S_combined) .none kV_combined dc_combined pm_combined an_combined cd_combined ct_combined), sl_combined⟩) (c_combined : PySem.W.codeIn K cd_combined "combined" = true) (k_combined : PySem.W.keepIn K (.ref f_combined) = true)
    (a_need_column : PySem.W.nsIn K mainGlobals "need_column" = some (some (.ref f_need_column))) (l_need_column : K.lookup f_need_column = some ⟨oc_need_column, od_need_column, .func (PySem.W.fnOf "need_column" "need_column" (defArgs S_need_column) (defBody S_need_column) (defScope S_need_column) .none kV_need_column dc_need_column pm_need_column an_need_column cd_need_column ct_need_column), sl_need_column⟩) (c_need_column : PySem.W.codeIn K cd_need_column "need_column" = true) (k_need_column : PySem.W.keepIn K (.ref f_need_column) = true)
    (a_need_op : PySem.W.nsIn K mainGlobals "need_op" = some (some (.ref f_need_op))) (l_need_op : K.lookup f_need_op = some ⟨oc_need_op, od_need_op, .func (PySem.W.fnOf "need_op" "need_op" (defArgs S_need_op) (defBody S_need_op) (defScope S_need_op) .none kV_need_op dc_need_op pm_need_op an_need_op cd_need_op ct_need_op), sl_need_op⟩) (c_need_op : PySem.W.codeIn K cd_need_op "need_op" = true) (k_need_op : PySem.W.keepIn K (.ref f_need_op) = true)
    (a_need_values : PySem.W.nsIn K mainGlobals "need_values" = some (some (.ref f_need_values))) (l_need_values : K.lookup f_need_values = some ⟨oc_need_values, od_need_values, .func (PySem.W.fnOf "need_values" "need_values" (defArgs S_need_values) (defBody S_need_values) (defScope S_need_values) .none kV_need_values dc_need_values pm_need_values an_need_values cd_need_values ct_need_values), sl_need_values⟩) (c_need_values : PySem.W.codeIn K cd_need_values "need_values" = true) (k_need_values : PySem.W.keepIn K (.ref f_need_values) = true)
    (a_compare : PySem.W.nsIn K mainGlobals "compare" = some (some (.ref f_compare))) (l_compare : K.lookup f_compare = some ⟨oc_compare, od_compare, .func (PySem.W.fnOf "compare" "compare" (defArgs S_compare) (defBody S_compare) (defScope S_compare) .none kV_compare dc_compare pm_compare an_compare cd_compare ct_compare), sl_compare⟩) (c_compare : PySem.W.codeIn K cd_compare "compare" = true) (k_compare : PySem.W.keepIn K (.ref f_compare) = true)
    {kD_against : Addr} {kt_against : Tok}
    (a_against : PySem.W.nsIn K mainGlobals "against" = some (some (.ref f_against))) (l_against : K.lookup f_against = some ⟨oc_against, od_against, .func (PySem.W.fnOf "against" "against" (defArgs S_against) (defBody S_against) (defScope S_against) .none (.ref kD_against) dc_against pm_against an_against cd_against ct_against), sl_against⟩) (c_against : PySem.W.codeIn K cd_against "against" = true) (k_against : PySem.W.keepIn K (.ref f_against) = true)
    (kn_against : PySem.W.nsIn K kD_against "more" = some (some (.int 0 kt_against)))
    (a_among : PySem.W.nsIn K mainGlobals "among" = some (some (.ref f_among))) (l_among : K.lookup f_among = some ⟨oc_among, od_among, .func (PySem.W.fnOf "among" "among" (defArgs S_among) (defBody S_among) (defScope S_among) .none kV_among dc_among pm_among an_among cd_among ct_among), sl_among⟩) (c_among : PySem.W.codeIn K cd_among "among" = true) (k_among : PySem.W.keepIn K (.ref f_among) = true)
    (a_begins : PySem.W.nsIn K mainGlobals "begins" = some (some (.ref f_begins))) (l_begins : K.lookup f_begins = some ⟨oc_begins, od_begins, .func (PySem.W.fnOf "begins" "begins" (defArgs S_begins) (defBody S_begins) (defScope S_begins) .none kV_begins dc_begins pm_begins an_begins cd_begins ct_begins), sl_begins⟩) (c_begins : PySem.W.codeIn K cd_begins "begins" = true) (k_begins : PySem.W.keepIn K (.ref f_begins) = true)
    (a_empty : PySem.W.nsIn K mainGlobals "empty" = some (some (.ref f_empty))) (l_empty : K.lookup f_empty = some ⟨oc_empty, od_empty, .func (PySem.W.fnOf "empty" "empty" (defArgs S_empty) (defBody S_empty) (defScope S_empty) .none kV_empty dc_empty pm_empty an_empty cd_empty ct_empty), sl_empty⟩) (c_empty : PySem.W.codeIn K cd_empty "empty" = true) (k_empty : PySem.W.keepIn K (.ref f_empty) = true)
    (a_always : PySem.W.nsIn K mainGlobals "always" = some (some (.ref f_always))) (l_always : K.lookup f_always = some ⟨oc_always, od_always, .func (PySem.W.fnOf "always" "always" (defArgs S_always) (defBody S_always) (defScope S_always) .none kV_always dc_always pm_always an_always cd_always ct_always), sl_always⟩) (c_always : PySem.W.codeIn K cd_always "always" = true) (k_always : PySem.W.keepIn K (.ref f_always) = true)
    (a_never : PySem.W.nsIn K mainGlobals "never" = some (some (.ref f_never))) (l_never : K.lookup f_never = some ⟨oc_never, od_never, .func (PySem.W.fnOf "never" "never" (defArgs S_never) (defBody S_never) (defScope S_never) .none kV_never dc_never pm_never an_never cd_never ct_never), sl_never⟩) (c_never : PySem.W.codeIn K cd_never "never" = true) (k_never : PySem.W.keepIn K (.ref f_never) = true)
    (a_sure : PySem.W.nsIn K mainGlobals "sure" = some (some (.ref f_sure))) (l_sure : K.lookup f_sure = some ⟨oc_sure, od_sure, .func (PySem.W.fnOf "sure" "sure" (defArgs S_sure) (defBody S_sure) (defScope S_sure) .none kV_sure dc_sure pm_sure an_sure cd_sure ct_sure), sl_sure⟩) (c_sure : PySem.W.codeIn K cd_sure "sure" = true) (k_sure : PySem.W.keepIn K (.ref f_sure) = true)
    (a_is_short : PySem.W.nsIn K mainGlobals "is_short" = some (some (.ref f_is_short))) (l_is_short : K.lookup f_is_short = some ⟨oc_is_short, od_is_short, .func (PySem.W.fnOf "is_short" "is_short" (defArgs S_is_short) (defBody S_is_short) (defScope S_is_short) .none kV_is_short dc_is_short pm_is_short an_is_short cd_is_short ct_is_short), sl_is_short⟩) (c_is_short : PySem.W.codeIn K cd_is_short "is_short" = true) (k_is_short : PySem.W.keepIn K (.ref f_is_short) = true)
    (a_are_names : PySem.W.nsIn K mainGlobals "are_names" = some (some (.ref f_are_names))) (l_are_names : K.lookup f_are_names = some ⟨oc_are_names, od_are_names, .func (PySem.W.fnOf "are_names" "are_names" (defArgs S_are_names) (defBody S_are_names) (defScope S_are_names) .none kV_are_names dc_are_names pm_are_names an_are_names cd_are_names ct_are_names), sl_are_names⟩) (c_are_names : PySem.W.codeIn K cd_are_names "are_names" = true) (k_are_names : PySem.W.keepIn K (.ref f_are_names) = true)
    (a_is_part : PySem.W.nsIn K mainGlobals "is_part" = some (some (.ref f_is_part))) (l_is_part : K.lookup f_is_part = some ⟨oc_is_part, od_is_part, .func (PySem.W.fnOf "is_part" "is_part" (defArgs S_is_part) (defBody S_is_part) (defScope S_is_part) .none kV_is_part dc_is_part pm_is_part an_is_part cd_is_part ct_is_part), sl_is_part⟩) (c_is_part : PySem.W.codeIn K cd_is_part "is_part" = true) (k_is_part : PySem.W.keepIn K (.ref f_is_part) = true)
    (a_need_order : PySem.W.nsIn K mainGlobals "need_order" = some (some (.ref f_need_order))) (l_need_order : K.lookup f_need_order = some ⟨oc_need_order, od_need_order, .func (PySem.W.fnOf "need_order" "need_order" (defArgs S_need_order) (defBody S_need_order) (defScope S_need_order) .none kV_need_order dc_need_order pm_need_order an_need_order cd_need_order ct_need_order), sl_need_order⟩) (c_need_order : PySem.W.codeIn K cd_need_order "need_order" = true) (k_need_order : PySem.W.keepIn K (.ref f_need_order) = true)
    (a_Plan_init : PySem.W.findIn K (.ref c_Plan) "__init__" = some (some (.ref f_Plan_init))) (i_Plan_init : PySem.W.isFn K (.ref f_Plan_init) = true) (l_Plan_init : K.lookup f_Plan_init = some ⟨oc_Plan_init, od_Plan_init, .func (PySem.W.fnOf "__init__" "Plan.__init__" (defArgs S_Plan_init) (defBody S_Plan_init) (defScope S_Plan_init) .none kV_Plan_init dc_Plan_init pm_Plan_init an_Plan_init cd_Plan_init ct_Plan_init), sl_Plan_init⟩) (c_Plan_init : PySem.W.codeIn K cd_Plan_init "Plan.__init__" = true) (k_Plan_init : PySem.W.keepIn K (.ref f_Plan_init) = true)
    (a_Plan_steps : PySem.W.findIn K (.ref c_Plan) "steps" = some (some (.ref f_Plan_steps))) (i_Plan_steps : PySem.W.isFn K (.ref f_Plan_steps) = true) (l_Plan_steps : K.lookup f_Plan_steps = some ⟨oc_Plan_steps, od_Plan_steps, .func (PySem.W.fnOf "steps" "Plan.steps" (defArgs S_Plan_steps) (defBody S_Plan_steps) (defScope S_Plan_steps) .none kV_Plan_steps dc_Plan_steps pm_Plan_steps an_Plan_steps cd_Plan_steps ct_Plan_steps), sl_Plan_steps⟩) (c_Plan_steps : PySem.W.codeIn K cd_Plan_steps "Plan.steps" = true) (k_Plan_steps : PySem.W.keepIn K (.ref f_Plan_steps) = true)
    (a_Plan_eq : PySem.W.findIn K (.ref c_Plan) "__eq__" = some (some (.ref f_Plan_eq))) (i_Plan_eq : PySem.W.isFn K (.ref f_Plan_eq) = true) (l_Plan_eq : K.lookup f_Plan_eq = some ⟨oc_Plan_eq, od_Plan_eq, .func (PySem.W.fnOf "__eq__" "Plan.__eq__" (defArgs S_Plan_eq) (defBody S_Plan_eq) (defScope S_Plan_eq) .none kV_Plan_eq dc_Plan_eq pm_Plan_eq an_Plan_eq cd_Plan_eq ct_Plan_eq), sl_Plan_eq⟩) (c_Plan_eq : PySem.W.codeIn K cd_Plan_eq "Plan.__eq__" = true) (k_Plan_eq : PySem.W.keepIn K (.ref f_Plan_eq) = true)
    (a_Plan_len : PySem.W.findIn K (.ref c_Plan) "__len__" = some (some (.ref f_Plan_len))) (i_Plan_len : PySem.W.isFn K (.ref f_Plan_len) = true) (l_Plan_len : K.lookup f_Plan_len = some ⟨oc_Plan_len, od_Plan_len, .func (PySem.W.fnOf "__len__" "Plan.__len__" (defArgs S_Plan_len) (defBody S_Plan_len) (defScope S_Plan_len) .none kV_Plan_len dc_Plan_len pm_Plan_len an_Plan_len cd_Plan_len ct_Plan_len), sl_Plan_len⟩) (c_Plan_len : PySem.W.codeIn K cd_Plan_len "Plan.__len__" = true) (k_Plan_len : PySem.W.keepIn K (.ref f_Plan_len) = true)
    (a_is_step : PySem.W.nsIn K mainGlobals "is_step" = some (some (.ref f_is_step))) (l_is_step : K.lookup f_is_step = some ⟨oc_is_step, od_is_step, .func (PySem.W.fnOf "is_step" "is_step" (defArgs S_is_step) (defBody S_is_step) (defScope S_is_step) .none kV_is_step dc_is_step pm_is_step an_is_step cd_is_step ct_is_step), sl_is_step⟩) (c_is_step : PySem.W.codeIn K cd_is_step "is_step" = true) (k_is_step : PySem.W.keepIn K (.ref f_is_step) = true)
    (a_is_order : PySem.W.nsIn K mainGlobals "is_order" = some (some (.ref f_is_order))) (l_is_order : K.lookup f_is_order = some ⟨oc_is_order, od_is_order, .func (PySem.W.fnOf "is_order" "is_order" (defArgs S_is_order) (defBody S_is_order) (defScope S_is_order) .none kV_is_order dc_is_order pm_is_order an_is_order cd_is_order ct_is_order), sl_is_order⟩) (c_is_order : PySem.W.codeIn K cd_is_order "is_order" = true) (k_is_order : PySem.W.keepIn K (.ref f_is_order) = true)
    (a_step_of : PySem.W.nsIn K mainGlobals "step_of" = some (some (.ref f_step_of))) (l_step_of : K.lookup f_step_of = some ⟨oc_step_of, od_step_of, .func (PySem.W.fnOf "step_of" "step_of" (defArgs S_step_of) (defBody S_step_of) (defScope S_step_of) .none kV_step_of dc_step_of pm_step_of an_step_of cd_step_of ct_step_of), sl_step_of⟩) (c_step_of : PySem.W.codeIn K cd_step_of "step_of" = true) (k_step_of : PySem.W.keepIn K (.ref f_step_of) = true)
    (a__law_int : PySem.W.nsIn K mainGlobals "_law_int" = some (some (.ref f__law_int))) (l__law_int : K.lookup f__law_int = some ⟨oc__law_int, od__law_int, .func (PySem.W.fnOf "_law_int" "_law_int" (defArgs S__law_int) (defBody S__law_int) (defScope S__law_int) .none kV__law_int dc__law_int pm__law_int an__law_int cd__law_int ct__law_int), sl__law_int⟩) (c__law_int : PySem.W.codeIn K cd__law_int "_law_int" = true) (k__law_int : PySem.W.keepIn K (.ref f__law_int) = true)
    (a__law_pool : PySem.W.nsIn K mainGlobals "_law_pool" = some (some (.ref f__law_pool))) (l__law_pool : K.lookup f__law_pool = some ⟨oc__law_pool, od__law_pool, .func (PySem.W.fnOf "_law_pool" "_law_pool" (defArgs S__law_pool) (defBody S__law_pool) (defScope S__law_pool) .none kV__law_pool dc__law_pool pm__law_pool an__law_pool cd__law_pool ct__law_pool), sl__law_pool⟩) (c__law_pool : PySem.W.codeIn K cd__law_pool "_law_pool" = true) (k__law_pool : PySem.W.keepIn K (.ref f__law_pool) = true)
    (a__law_draw : PySem.W.nsIn K mainGlobals "_law_draw" = some (some (.ref f__law_draw))) (l__law_draw : K.lookup f__law_draw = some ⟨oc__law_draw, od__law_draw, .func (PySem.W.fnOf "_law_draw" "_law_draw" (defArgs S__law_draw) (defBody S__law_draw) (defScope S__law_draw) .none kV__law_draw dc__law_draw pm__law_draw an__law_draw cd__law_draw ct__law_draw), sl__law_draw⟩) (c__law_draw : PySem.W.codeIn K cd__law_draw "_law_draw" = true) (k__law_draw : PySem.W.keepIn K (.ref f__law_draw) = true)
    (a__law_value : PySem.W.nsIn K mainGlobals "_law_value" = some (some (.ref f__law_value))) (l__law_value : K.lookup f__law_value = some ⟨oc__law_value, od__law_value, .func (PySem.W.fnOf "_law_value" "_law_value" (defArgs S__law_value) (defBody S__law_value) (defScope S__law_value) .none kV__law_value dc__law_value pm__law_value an__law_value cd__law_value ct__law_value), sl__law_value⟩) (c__law_value : PySem.W.codeIn K cd__law_value "_law_value" = true) (k__law_value : PySem.W.keepIn K (.ref f__law_value) = true)
    (a__law_name : PySem.W.nsIn K mainGlobals "_law_name" = some (some (.ref f__law_name))) (l__law_name : K.lookup f__law_name = some ⟨oc__law_name, od__law_name, .func (PySem.W.fnOf "_law_name" "_law_name" (defArgs S__law_name) (defBody S__law_name) (defScope S__law_name) .none kV__law_name dc__law_name pm__law_name an__law_name cd__law_name ct__law_name), sl__law_name⟩) (c__law_name : PySem.W.codeIn K cd__law_name "_law_name" = true) (k__law_name : PySem.W.keepIn K (.ref f__law_name) = true)
    (a__law_columns : PySem.W.nsIn K mainGlobals "_law_columns" = some (some (.ref f__law_columns))) (l__law_columns : K.lookup f__law_columns = some ⟨oc__law_columns, od__law_columns, .func (PySem.W.fnOf "_law_columns" "_law_columns" (defArgs S__law_columns) (defBody S__law_columns) (defScope S__law_columns) .none kV__law_columns dc__law_columns pm__law_columns an__law_columns cd__law_columns ct__law_columns), sl__law_columns⟩) (c__law_columns : PySem.W.codeIn K cd__law_columns "_law_columns" = true) (k__law_columns : PySem.W.keepIn K (.ref f__law_columns) = true)
    (a__law_atom : PySem.W.nsIn K mainGlobals "_law_atom" = some (some (.ref f__law_atom))) (l__law_atom : K.lookup f__law_atom = some ⟨oc__law_atom, od__law_atom, .func (PySem.W.fnOf "_law_atom" "_law_atom" (defArgs S__law_atom) (defBody S__law_atom) (defScope S__law_atom) .none kV__law_atom dc__law_atom pm__law_atom an__law_atom cd__law_atom ct__law_atom), sl__law_atom⟩) (c__law_atom : PySem.W.codeIn K cd__law_atom "_law_atom" = true) (k__law_atom : PySem.W.keepIn K (.ref f__law_atom) = true)
    (a__law_make : PySem.W.nsIn K mainGlobals "_law_make" = some (some (.ref f__law_make))) (l__law_make : K.lookup f__law_make = some ⟨oc__law_make, od__law_make, .func (PySem.W.fnOf "_law_make" "_law_make" (defArgs S__law_make) (defBody S__law_make) (defScope S__law_make) .none kV__law_make dc__law_make pm__law_make an__law_make cd__law_make ct__law_make), sl__law_make⟩) (c__law_make : PySem.W.codeIn K cd__law_make "_law_make" = true) (k__law_make : PySem.W.keepIn K (.ref f__law_make) = true)
    (a__law_order : PySem.W.nsIn K mainGlobals "_law_order" = some (some (.ref f__law_order))) (l__law_order : K.lookup f__law_order = some ⟨oc__law_order, od__law_order, .func (PySem.W.fnOf "_law_order" "_law_order" (defArgs S__law_order) (defBody S__law_order) (defScope S__law_order) .none kV__law_order dc__law_order pm__law_order an__law_order cd__law_order ct__law_order), sl__law_order⟩) (c__law_order : PySem.W.codeIn K cd__law_order "_law_order" = true) (k__law_order : PySem.W.keepIn K (.ref f__law_order) = true)
    (a__law_step : PySem.W.nsIn K mainGlobals "_law_step" = some (some (.ref f__law_step))) (l__law_step : K.lookup f__law_step = some ⟨oc__law_step, od__law_step, .func (PySem.W.fnOf "_law_step" "_law_step" (defArgs S__law_step) (defBody S__law_step) (defScope S__law_step) .none kV__law_step dc__law_step pm__law_step an__law_step cd__law_step ct__law_step), sl__law_step⟩) (c__law_step : PySem.W.codeIn K cd__law_step "_law_step" = true) (k__law_step : PySem.W.keepIn K (.ref f__law_step) = true)
    (a__law_made_step : PySem.W.nsIn K mainGlobals "_law_made_step" = some (some (.ref f__law_made_step))) (l__law_made_step : K.lookup f__law_made_step = some ⟨oc__law_made_step, od__law_made_step, .func (PySem.W.fnOf "_law_made_step" "_law_made_step" (defArgs S__law_made_step) (defBody S__law_made_step) (defScope S__law_made_step) .none kV__law_made_step dc__law_made_step pm__law_made_step an__law_made_step cd__law_made_step ct__law_made_step), sl__law_made_step⟩) (c__law_made_step : PySem.W.codeIn K cd__law_made_step "_law_made_step" = true) (k__law_made_step : PySem.W.keepIn K (.ref f__law_made_step) = true)
    (a__law_is_name : PySem.W.nsIn K mainGlobals "_law_is_name" = some (some (.ref f__law_is_name))) (l__law_is_name : K.lookup f__law_is_name = some ⟨oc__law_is_name, od__law_is_name, .func (PySem.W.fnOf "_law_is_name" "_law_is_name" (defArgs S__law_is_name) (defBody S__law_is_name) (defScope S__law_is_name) .none kV__law_is_name dc__law_is_name pm__law_is_name an__law_is_name cd__law_is_name ct__law_is_name), sl__law_is_name⟩) (c__law_is_name : PySem.W.codeIn K cd__law_is_name "_law_is_name" = true) (k__law_is_name : PySem.W.keepIn K (.ref f__law_is_name) = true)
    (a__law_order_right : PySem.W.nsIn K mainGlobals "_law_order_right" = some (some (.ref f__law_order_right))) (l__law_order_right : K.lookup f__law_order_right = some ⟨oc__law_order_right, od__law_order_right, .func (PySem.W.fnOf "_law_order_right" "_law_order_right" (defArgs S__law_order_right) (defBody S__law_order_right) (defScope S__law_order_right) .none kV__law_order_right dc__law_order_right pm__law_order_right an__law_order_right cd__law_order_right ct__law_order_right), sl__law_order_right⟩) (c__law_order_right : PySem.W.codeIn K cd__law_order_right "_law_order_right" = true) (k__law_order_right : PySem.W.keepIn K (.ref f__law_order_right) = true)
    (a__law_right : PySem.W.nsIn K mainGlobals "_law_right" = some (some (.ref f__law_right))) (l__law_right : K.lookup f__law_right = some ⟨oc__law_right, od__law_right, .func (PySem.W.fnOf "_law_right" "_law_right" (defArgs S__law_right) (defBody S__law_right) (defScope S__law_right) .none kV__law_right dc__law_right pm__law_right an__law_right cd__law_right ct__law_right), sl__law_right⟩) (c__law_right : PySem.W.codeIn K cd__law_right "_law_right" = true) (k__law_right : PySem.W.keepIn K (.ref f__law_right) = true)
    (a__law_odd : PySem.W.nsIn K mainGlobals "_law_odd" = some (some (.ref f__law_odd))) (l__law_odd : K.lookup f__law_odd = some ⟨oc__law_odd, od__law_odd, .func (PySem.W.fnOf "_law_odd" "_law_odd" (defArgs S__law_odd) (defBody S__law_odd) (defScope S__law_odd) .none kV__law_odd dc__law_odd pm__law_odd an__law_odd cd__law_odd ct__law_odd), sl__law_odd⟩) (c__law_odd : PySem.W.codeIn K cd__law_odd "_law_odd" = true) (k__law_odd : PySem.W.keepIn K (.ref f__law_odd) = true)
    (a__law_due : PySem.W.nsIn K mainGlobals "_law_due" = some (some (.ref f__law_due))) (l__law_due : K.lookup f__law_due = some ⟨oc__law_due, od__law_due, .func (PySem.W.fnOf "_law_due" "_law_due" (defArgs S__law_due) (defBody S__law_due) (defScope S__law_due) .none kV__law_due dc__law_due pm__law_due an__law_due cd__law_due ct__law_due), sl__law_due⟩) (c__law_due : PySem.W.codeIn K cd__law_due "_law_due" = true) (k__law_due : PySem.W.keepIn K (.ref f__law_due) = true)
    (a__law_said : PySem.W.nsIn K mainGlobals "_law_said" = some (some (.ref f__law_said))) (l__law_said : K.lookup f__law_said = some ⟨oc__law_said, od__law_said, .func (PySem.W.fnOf "_law_said" "_law_said" (defArgs S__law_said) (defBody S__law_said) (defScope S__law_said) .none kV__law_said dc__law_said pm__law_said an__law_said cd__law_said ct__law_said), sl__law_said⟩) (c__law_said : PySem.W.codeIn K cd__law_said "_law_said" = true) (k__law_said : PySem.W.keepIn K (.ref f__law_said) = true)
    (a_law : PySem.W.nsIn K mainGlobals "law" = some (some (.ref f_law))) (l_law : K.lookup f_law = some ⟨oc_law, od_law, .func (PySem.W.fnOf "law" "law" (defArgs S_law) (defBody S_law) (defScope S_law) .none kV_law dc_law pm_law an_law cd_law ct_law), sl_law⟩) (c_law : PySem.W.codeIn K cd_law "law" = true) (k_law : PySem.W.keepIn K (.ref f_law) = true)
    (z_isinstance : PySem.W.nsIn K mainGlobals "isinstance" = some none)
    (z_int : PySem.W.nsIn K mainGlobals "int" = some none)
    (z_bool : PySem.W.nsIn K mainGlobals "bool" = some none)
    (z_list : PySem.W.nsIn K mainGlobals "list" = some none)
    (z_tuple : PySem.W.nsIn K mainGlobals "tuple" = some none)
    (z_str : PySem.W.nsIn K mainGlobals "str" = some none)
    (z_len : PySem.W.nsIn K mainGlobals "len" = some none)
    (z_all : PySem.W.nsIn K mainGlobals "all" = some none)
    (z_sum : PySem.W.nsIn K mainGlobals "sum" = some none)
    (z_set : PySem.W.nsIn K mainGlobals "set" = some none)
    (z_enumerate : PySem.W.nsIn K mainGlobals "enumerate" = some none)
    (z_range : PySem.W.nsIn K mainGlobals "range" = some none)
    {t_SIGNS : Tok} (g_SIGNS : PySem.W.nsIn K mainGlobals "SIGNS" = some (some (.str C_SIGNS t_SIGNS)))
    {t_LONGEST_NAME : Tok} (g_LONGEST_NAME : PySem.W.nsIn K mainGlobals "LONGEST_NAME" = some (some (.int 8 t_LONGEST_NAME)))
    {t_LETTERS : Tok} (g_LETTERS : PySem.W.nsIn K mainGlobals "LETTERS" = some (some (.str C_LETTERS t_LETTERS)))
    {ca_WORDS : Addr} {co_WORDS : Obj} {ci_WORDS : Array Value} {cn_WORDS : Nat} (g_WORDS : PySem.W.nsIn K mainGlobals "WORDS" = some (some (.ref ca_WORDS))) (gl_WORDS : K.lookup ca_WORDS = some co_WORDS) (gc_WORDS : co_WORDS.cls = .type "tuple") (gd_WORDS : co_WORDS.data = .seq ci_WORDS cn_WORDS) (gs_WORDS : ci_WORDS.size ≤ sizeLine) (gv_WORDS : Vals C_WORDS ci_WORDS.toList)
    {t_NAME_SIGNS : Tok} (g_NAME_SIGNS : PySem.W.nsIn K mainGlobals "NAME_SIGNS" = some (some (.str C_NAME_SIGNS t_NAME_SIGNS)))
    {t_MOST_ATOMS : Tok} (g_MOST_ATOMS : PySem.W.nsIn K mainGlobals "MOST_ATOMS" = some (some (.int 24 t_MOST_ATOMS)))
    {t_MOST_LEVELS : Tok} (g_MOST_LEVELS : PySem.W.nsIn K mainGlobals "MOST_LEVELS" = some (some (.int 12 t_MOST_LEVELS)))
    {ca_OPS : Addr} {co_OPS : Obj} {ci_OPS : Array Value} {cn_OPS : Nat} (g_OPS : PySem.W.nsIn K mainGlobals "OPS" = some (some (.ref ca_OPS))) (gl_OPS : K.lookup ca_OPS = some co_OPS) (gc_OPS : co_OPS.cls = .type "tuple") (gd_OPS : co_OPS.data = .seq ci_OPS cn_OPS) (gs_OPS : ci_OPS.size ≤ sizeLine) (gv_OPS : Vals C_OPS ci_OPS.toList)
    {t_MOST_VALUES : Tok} (g_MOST_VALUES : PySem.W.nsIn K mainGlobals "MOST_VALUES" = some (some (.int 8 t_MOST_VALUES)))
    {ca_DIRECTIONS : Addr} {co_DIRECTIONS : Obj} {ci_DIRECTIONS : Array Value} {cn_DIRECTIONS : Nat} (g_DIRECTIONS : PySem.W.nsIn K mainGlobals "DIRECTIONS" = some (some (.ref ca_DIRECTIONS))) (gl_DIRECTIONS : K.lookup ca_DIRECTIONS = some co_DIRECTIONS) (gc_DIRECTIONS : co_DIRECTIONS.cls = .type "tuple") (gd_DIRECTIONS : co_DIRECTIONS.data = .seq ci_DIRECTIONS cn_DIRECTIONS) (gs_DIRECTIONS : ci_DIRECTIONS.size ≤ sizeLine) (gv_DIRECTIONS : Vals C_DIRECTIONS ci_DIRECTIONS.toList)
    {t_MOST_PARTS : Tok} (g_MOST_PARTS : PySem.W.nsIn K mainGlobals "MOST_PARTS" = some (some (.int 3 t_MOST_PARTS)))
    {t_MOST_STEPS : Tok} (g_MOST_STEPS : PySem.W.nsIn K mainGlobals "MOST_STEPS" = some (some (.int 5 t_MOST_STEPS)))
    {dt_STEP_SIZES : Addr} {de_STEP_SIZES : Array DictEntry} {dn_STEP_SIZES : Nat} (g_STEP_SIZES : PySem.W.nsIn K mainGlobals "STEP_SIZES" = some (some (.ref dt_STEP_SIZES))) (kd_STEP_SIZES : K.lookup dt_STEP_SIZES = some ⟨.type "dict", none, .dict de_STEP_SIZES dn_STEP_SIZES, #[]⟩) (kt_STEP_SIZES : de_STEP_SIZES.toList.map He.keyOf = He.keysIn w.params ["keep", "sort", "distinct", "first", "flip"]) (km_STEP_SIZES : (dt_STEP_SIZES == sysModules) = false)
    {tk0_STEP_SIZES : Tok} (ki0_STEP_SIZES : PySem.W.nsIn K dt_STEP_SIZES "keep" = some (some (.int 2 tk0_STEP_SIZES)))
    {tk1_STEP_SIZES : Tok} (ki1_STEP_SIZES : PySem.W.nsIn K dt_STEP_SIZES "sort" = some (some (.int 2 tk1_STEP_SIZES)))
    {tk2_STEP_SIZES : Tok} (ki2_STEP_SIZES : PySem.W.nsIn K dt_STEP_SIZES "distinct" = some (some (.int 2 tk2_STEP_SIZES)))
    {tk3_STEP_SIZES : Tok} (ki3_STEP_SIZES : PySem.W.nsIn K dt_STEP_SIZES "first" = some (some (.int 1 tk3_STEP_SIZES)))
    {tk4_STEP_SIZES : Tok} (ki4_STEP_SIZES : PySem.W.nsIn K dt_STEP_SIZES "flip" = some (some (.int 1 tk4_STEP_SIZES)))
    : ∃ fd : FuncData, (∀ (s : Shared) (v : Value), BindsTo s fd ⟨[v], []⟩ [("_law_script", v)]) ∧ ∀ base : Heap, K.In base → base.Ns mainGlobals mg → FnOk l.prog w K mg base CX0 12 fa fd ["_law_script"] (spLaw K) := by
  have e := hfa.symm.trans (PySem.W.mg_of X G a_law)
  cases e
  have hc_Test : cadr mg "Test" = c_Test := cadr_of (PySem.W.mg_of X G a_Test)
  have hc_Plan : cadr mg "Plan" = c_Plan := cadr_of (PySem.W.mg_of X G a_Plan)
  have T : TxtW w K mg := {
    ne_Test := by rw [hc_Test]; exact ⟨nn_Test, nz_Test⟩
    ne_Plan := by rw [hc_Plan]; exact ⟨nn_Plan, nz_Plan⟩
    h_isinstance := PySem.W.mg_none_of X G z_isinstance
    h_int := PySem.W.mg_none_of X G z_int
    h_bool := PySem.W.mg_none_of X G z_bool
    h_list := PySem.W.mg_none_of X G z_list
    h_tuple := PySem.W.mg_none_of X G z_tuple
    h_str := PySem.W.mg_none_of X G z_str
    h_len := PySem.W.mg_none_of X G z_len
    h_all := PySem.W.mg_none_of X G z_all
    h_sum := PySem.W.mg_none_of X G z_sum
    h_set := PySem.W.mg_none_of X G z_set
    h_enumerate := PySem.W.mg_none_of X G z_enumerate
    h_range := PySem.W.mg_none_of X G z_range
    d_is_integer := ⟨f_is_integer, _, fun_mk (st := S_is_integer) l_is_integer c_is_integer k_is_integer, PySem.W.mg_of X G a_is_integer, (fun_mk (st := S_is_integer) l_is_integer c_is_integer k_is_integer).binds (ps := ["thing"]) fun _ _ _ _ _ _ us hl => match us, hl with | [_], _ => rfl⟩
    d_is_sequence := ⟨f_is_sequence, _, fun_mk (st := S_is_sequence) l_is_sequence c_is_sequence k_is_sequence, PySem.W.mg_of X G a_is_sequence, (fun_mk (st := S_is_sequence) l_is_sequence c_is_sequence k_is_sequence).binds (ps := ["thing"]) fun _ _ _ _ _ _ us hl => match us, hl with | [_], _ => rfl⟩
    d_is_worded := ⟨f_is_worded, _, fun_mk (st := S_is_worded) l_is_worded c_is_worded k_is_worded, PySem.W.mg_of X G a_is_worded, (fun_mk (st := S_is_worded) l_is_worded c_is_worded k_is_worded).binds (ps := ["thing"]) fun _ _ _ _ _ _ us hl => match us, hl with | [_], _ => rfl⟩
    d_is_text := ⟨f_is_text, _, fun_mk (st := S_is_text) l_is_text c_is_text k_is_text, PySem.W.mg_of X G a_is_text, (fun_mk (st := S_is_text) l_is_text c_is_text k_is_text).binds (ps := ["thing"]) fun _ _ _ _ _ _ us hl => match us, hl with | [_], _ => rfl⟩
    d_is_name := ⟨f_is_name, _, fun_mk (st := S_is_name) l_is_name c_is_name k_is_name, PySem.W.mg_of X G a_is_name, (fun_mk (st := S_is_name) l_is_name c_is_name k_is_name).binds (ps := ["thing"]) fun _ _ _ _ _ _ us hl => match us, hl with | [_], _ => rfl⟩
    d_kind_of := ⟨f_kind_of, _, fun_mk (st := S_kind_of) l_kind_of c_kind_of k_kind_of, PySem.W.mg_of X G a_kind_of, (fun_mk (st := S_kind_of) l_kind_of c_kind_of k_kind_of).binds (ps := ["value"]) fun _ _ _ _ _ _ us hl => match us, hl with | [_], _ => rfl⟩
    d_Test_init := by rw [hc_Test]; exact ⟨f_Test_init, _, fun_mk (st := S_Test_init) l_Test_init c_Test_init k_Test_init, ⟨mk_Test, a_Test_init, i_Test_init, kc_Test⟩, (fun_mk (st := S_Test_init) l_Test_init c_Test_init k_Test_init).binds (ps := ["self", "word", "inner", "fields", "terms"]) fun _ _ _ _ _ _ us hl => match us, hl with | [_, _, _, _, _], _ => rfl⟩
    d_Test_and := by rw [hc_Test]; exact ⟨f_Test_and, _, fun_mk (st := S_Test_and) l_Test_and c_Test_and k_Test_and, ⟨a_Test_and, i_Test_and, k_Test_and⟩, (fun_mk (st := S_Test_and) l_Test_and c_Test_and k_Test_and).binds (ps := ["self", "other"]) fun _ _ _ _ _ _ us hl => match us, hl with | [_, _], _ => rfl⟩
    d_Test_or := by rw [hc_Test]; exact ⟨f_Test_or, _, fun_mk (st := S_Test_or) l_Test_or c_Test_or k_Test_or, ⟨a_Test_or, i_Test_or, k_Test_or⟩, (fun_mk (st := S_Test_or) l_Test_or c_Test_or k_Test_or).binds (ps := ["self", "other"]) fun _ _ _ _ _ _ us hl => match us, hl with | [_, _], _ => rfl⟩
    d_Test_invert := by rw [hc_Test]; exact ⟨f_Test_invert, _, fun_mk (st := S_Test_invert) l_Test_invert c_Test_invert k_Test_invert, ⟨a_Test_invert, i_Test_invert, k_Test_invert⟩, (fun_mk (st := S_Test_invert) l_Test_invert c_Test_invert k_Test_invert).binds (ps := ["self"]) fun _ _ _ _ _ _ us hl => match us, hl with | [_], _ => rfl⟩
    d_Test_eq := by rw [hc_Test]; exact ⟨f_Test_eq, _, fun_mk (st := S_Test_eq) l_Test_eq c_Test_eq k_Test_eq, ⟨a_Test_eq, i_Test_eq, k_Test_eq⟩, (fun_mk (st := S_Test_eq) l_Test_eq c_Test_eq k_Test_eq).binds (ps := ["self", "other"]) fun _ _ _ _ _ _ us hl => match us, hl with | [_, _], _ => rfl⟩
    d_size_of := ⟨f_size_of, _, fun_mk (st := S_size_of) l_size_of c_size_of k_size_of, PySem.W.mg_of X G a_size_of, (fun_mk (st := S_size_of) l_size_of c_size_of k_size_of).binds (ps := ["inner"]) fun _ _ _ _ _ _ us hl => match us, hl with | [_], _ => rfl⟩
    d_depth_of := ⟨f_depth_of, _, fun_mk (st := S_depth_of) l_depth_of c_depth_of k_depth_of, PySem.W.mg_of X G a_depth_of, (fun_mk (st := S_depth_of) l_depth_of c_depth_of k_depth_of).binds (ps := ["inner"]) fun _ _ _ _ _ _ us hl => match us, hl with | [_], _ => rfl⟩
    d_combined := ⟨f_combined, _, fun_mk (st := S_combined) l_combined c_combined k_combined, PySem.W.mg_of X G a_combined, (fun_mk (st := S_combined) l_combined c_combined k_combined).binds (ps := ["word", "inner"]) fun _ _ _ _ _ _ us hl => match us, hl with | [_, _], _ => rfl⟩
    d_need_column := ⟨f_need_column, _, fun_mk (st := S_need_column) l_need_column c_need_column k_need_column, PySem.W.mg_of X G a_need_column, (fun_mk (st := S_need_column) l_need_column c_need_column k_need_column).binds (ps := ["thing"]) fun _ _ _ _ _ _ us hl => match us, hl with | [_], _ => rfl⟩
    d_need_op := ⟨f_need_op, _, fun_mk (st := S_need_op) l_need_op c_need_op k_need_op, PySem.W.mg_of X G a_need_op, (fun_mk (st := S_need_op) l_need_op c_need_op k_need_op).binds (ps := ["thing"]) fun _ _ _ _ _ _ us hl => match us, hl with | [_], _ => rfl⟩
    d_need_values := ⟨f_need_values, _, fun_mk (st := S_need_values) l_need_values c_need_values k_need_values, PySem.W.mg_of X G a_need_values, (fun_mk (st := S_need_values) l_need_values c_need_values k_need_values).binds (ps := ["thing"]) fun _ _ _ _ _ _ us hl => match us, hl with | [_], _ => rfl⟩
    d_compare := ⟨f_compare, _, fun_mk (st := S_compare) l_compare c_compare k_compare, PySem.W.mg_of X G a_compare, (fun_mk (st := S_compare) l_compare c_compare k_compare).binds (ps := ["column", "op", "value"]) fun _ _ _ _ _ _ us hl => match us, hl with | [_, _, _], _ => rfl⟩
    d_against := ⟨f_against, _, fun_mk (st := S_against) l_against c_against k_against, PySem.W.mg_of X G a_against, kw_bd rfl kn_against (fun us hl u => match us, hl with | [_, _, _], _ => ⟨_, _, _, _, _, _, rfl, rfl, rfl⟩), kw_kb (fun us hl u => match us, hl with | [_, _, _], _ => rfl)⟩
    d_among := ⟨f_among, _, fun_mk (st := S_among) l_among c_among k_among, PySem.W.mg_of X G a_among, (fun_mk (st := S_among) l_among c_among k_among).binds (ps := ["column", "values"]) fun _ _ _ _ _ _ us hl => match us, hl with | [_, _], _ => rfl⟩
    d_begins := ⟨f_begins, _, fun_mk (st := S_begins) l_begins c_begins k_begins, PySem.W.mg_of X G a_begins, (fun_mk (st := S_begins) l_begins c_begins k_begins).binds (ps := ["column", "prefix"]) fun _ _ _ _ _ _ us hl => match us, hl with | [_, _], _ => rfl⟩
    d_empty := ⟨f_empty, _, fun_mk (st := S_empty) l_empty c_empty k_empty, PySem.W.mg_of X G a_empty, (fun_mk (st := S_empty) l_empty c_empty k_empty).binds (ps := ["column"]) fun _ _ _ _ _ _ us hl => match us, hl with | [_], _ => rfl⟩
    d_always := ⟨f_always, _, fun_mk (st := S_always) l_always c_always k_always, PySem.W.mg_of X G a_always, (fun_mk (st := S_always) l_always c_always k_always).binds (ps := []) fun _ _ _ _ _ _ us hl => match us, hl with | [], _ => rfl⟩
    d_never := ⟨f_never, _, fun_mk (st := S_never) l_never c_never k_never, PySem.W.mg_of X G a_never, (fun_mk (st := S_never) l_never c_never k_never).binds (ps := []) fun _ _ _ _ _ _ us hl => match us, hl with | [], _ => rfl⟩
    d_sure := ⟨f_sure, _, fun_mk (st := S_sure) l_sure c_sure k_sure, PySem.W.mg_of X G a_sure, (fun_mk (st := S_sure) l_sure c_sure k_sure).binds (ps := ["test"]) fun _ _ _ _ _ _ us hl => match us, hl with | [_], _ => rfl⟩
    d_is_short := ⟨f_is_short, _, fun_mk (st := S_is_short) l_is_short c_is_short k_is_short, PySem.W.mg_of X G a_is_short, (fun_mk (st := S_is_short) l_is_short c_is_short k_is_short).binds (ps := ["thing", "least", "most"]) fun _ _ _ _ _ _ us hl => match us, hl with | [_, _, _], _ => rfl⟩
    d_are_names := ⟨f_are_names, _, fun_mk (st := S_are_names) l_are_names c_are_names k_are_names, PySem.W.mg_of X G a_are_names, (fun_mk (st := S_are_names) l_are_names c_are_names k_are_names).binds (ps := ["thing", "least", "most"]) fun _ _ _ _ _ _ us hl => match us, hl with | [_, _, _], _ => rfl⟩
    d_is_part := ⟨f_is_part, _, fun_mk (st := S_is_part) l_is_part c_is_part k_is_part, PySem.W.mg_of X G a_is_part, (fun_mk (st := S_is_part) l_is_part c_is_part k_is_part).binds (ps := ["thing"]) fun _ _ _ _ _ _ us hl => match us, hl with | [_], _ => rfl⟩
    d_need_order := ⟨f_need_order, _, fun_mk (st := S_need_order) l_need_order c_need_order k_need_order, PySem.W.mg_of X G a_need_order, (fun_mk (st := S_need_order) l_need_order c_need_order k_need_order).binds (ps := ["thing"]) fun _ _ _ _ _ _ us hl => match us, hl with | [_], _ => rfl⟩
    d_Plan_init := by rw [hc_Plan]; exact ⟨f_Plan_init, _, fun_mk (st := S_Plan_init) l_Plan_init c_Plan_init k_Plan_init, ⟨mk_Plan, a_Plan_init, i_Plan_init, kc_Plan⟩, (fun_mk (st := S_Plan_init) l_Plan_init c_Plan_init k_Plan_init).binds (ps := ["self", "steps"]) fun _ _ _ _ _ _ us hl => match us, hl with | [_, _], _ => rfl⟩
    d_Plan_steps := by rw [hc_Plan]; exact ⟨f_Plan_steps, _, fun_mk (st := S_Plan_steps) l_Plan_steps c_Plan_steps k_Plan_steps, ⟨a_Plan_steps, i_Plan_steps, k_Plan_steps⟩, (fun_mk (st := S_Plan_steps) l_Plan_steps c_Plan_steps k_Plan_steps).binds (ps := ["self"]) fun _ _ _ _ _ _ us hl => match us, hl with | [_], _ => rfl⟩
    d_Plan_eq := by rw [hc_Plan]; exact ⟨f_Plan_eq, _, fun_mk (st := S_Plan_eq) l_Plan_eq c_Plan_eq k_Plan_eq, ⟨a_Plan_eq, i_Plan_eq, k_Plan_eq⟩, (fun_mk (st := S_Plan_eq) l_Plan_eq c_Plan_eq k_Plan_eq).binds (ps := ["self", "other"]) fun _ _ _ _ _ _ us hl => match us, hl with | [_, _], _ => rfl⟩
    d_Plan_len := by rw [hc_Plan]; exact ⟨f_Plan_len, _, fun_mk (st := S_Plan_len) l_Plan_len c_Plan_len k_Plan_len, ⟨a_Plan_len, i_Plan_len, k_Plan_len⟩, (fun_mk (st := S_Plan_len) l_Plan_len c_Plan_len k_Plan_len).binds (ps := ["self"]) fun _ _ _ _ _ _ us hl => match us, hl with | [_], _ => rfl⟩
    d_is_step := ⟨f_is_step, _, fun_mk (st := S_is_step) l_is_step c_is_step k_is_step, PySem.W.mg_of X G a_is_step, (fun_mk (st := S_is_step) l_is_step c_is_step k_is_step).binds (ps := ["thing"]) fun _ _ _ _ _ _ us hl => match us, hl with | [_], _ => rfl⟩
    d_is_order := ⟨f_is_order, _, fun_mk (st := S_is_order) l_is_order c_is_order k_is_order, PySem.W.mg_of X G a_is_order, (fun_mk (st := S_is_order) l_is_order c_is_order k_is_order).binds (ps := ["thing"]) fun _ _ _ _ _ _ us hl => match us, hl with | [_], _ => rfl⟩
    d_step_of := ⟨f_step_of, _, fun_mk (st := S_step_of) l_step_of c_step_of k_step_of, PySem.W.mg_of X G a_step_of, (fun_mk (st := S_step_of) l_step_of c_step_of k_step_of).binds (ps := ["step"]) fun _ _ _ _ _ _ us hl => match us, hl with | [_], _ => rfl⟩
    d__law_int := ⟨f__law_int, _, fun_mk (st := S__law_int) l__law_int c__law_int k__law_int, PySem.W.mg_of X G a__law_int, (fun_mk (st := S__law_int) l__law_int c__law_int k__law_int).binds (ps := ["_law_thing"]) fun _ _ _ _ _ _ us hl => match us, hl with | [_], _ => rfl⟩
    d__law_pool := ⟨f__law_pool, _, fun_mk (st := S__law_pool) l__law_pool c__law_pool k__law_pool, PySem.W.mg_of X G a__law_pool, (fun_mk (st := S__law_pool) l__law_pool c__law_pool k__law_pool).binds (ps := ["_law_script", "_law_place"]) fun _ _ _ _ _ _ us hl => match us, hl with | [_, _], _ => rfl⟩
    d__law_draw := ⟨f__law_draw, _, fun_mk (st := S__law_draw) l__law_draw c__law_draw k__law_draw, PySem.W.mg_of X G a__law_draw, (fun_mk (st := S__law_draw) l__law_draw c__law_draw k__law_draw).binds (ps := ["_law_pool_here", "_law_many"]) fun _ _ _ _ _ _ us hl => match us, hl with | [_, _], _ => rfl⟩
    d__law_value := ⟨f__law_value, _, fun_mk (st := S__law_value) l__law_value c__law_value k__law_value, PySem.W.mg_of X G a__law_value, (fun_mk (st := S__law_value) l__law_value c__law_value k__law_value).binds (ps := ["_law_pool_here", "_law_kind"]) fun _ _ _ _ _ _ us hl => match us, hl with | [_, _], _ => rfl⟩
    d__law_name := ⟨f__law_name, _, fun_mk (st := S__law_name) l__law_name c__law_name k__law_name, PySem.W.mg_of X G a__law_name, (fun_mk (st := S__law_name) l__law_name c__law_name k__law_name).binds (ps := ["_law_pool_here", "_law_taken"]) fun _ _ _ _ _ _ us hl => match us, hl with | [_, _], _ => rfl⟩
    d__law_columns := ⟨f__law_columns, _, fun_mk (st := S__law_columns) l__law_columns c__law_columns k__law_columns, PySem.W.mg_of X G a__law_columns, (fun_mk (st := S__law_columns) l__law_columns c__law_columns k__law_columns).binds (ps := ["_law_pool_here", "_law_most"]) fun _ _ _ _ _ _ us hl => match us, hl with | [_, _], _ => rfl⟩
    d__law_atom := ⟨f__law_atom, _, fun_mk (st := S__law_atom) l__law_atom c__law_atom k__law_atom, PySem.W.mg_of X G a__law_atom, (fun_mk (st := S__law_atom) l__law_atom c__law_atom k__law_atom).binds (ps := ["_law_pool_here", "_law_columns_here"]) fun _ _ _ _ _ _ us hl => match us, hl with | [_, _], _ => rfl⟩
    d__law_make := ⟨f__law_make, _, fun_mk (st := S__law_make) l__law_make c__law_make k__law_make, PySem.W.mg_of X G a__law_make, (fun_mk (st := S__law_make) l__law_make c__law_make k__law_make).binds (ps := ["_law_term"]) fun _ _ _ _ _ _ us hl => match us, hl with | [_], _ => rfl⟩
    d__law_order := ⟨f__law_order, _, fun_mk (st := S__law_order) l__law_order c__law_order k__law_order, PySem.W.mg_of X G a__law_order, (fun_mk (st := S__law_order) l__law_order c__law_order k__law_order).binds (ps := ["_law_pool_here", "_law_columns_here"]) fun _ _ _ _ _ _ us hl => match us, hl with | [_, _], _ => rfl⟩
    d__law_step := ⟨f__law_step, _, fun_mk (st := S__law_step) l__law_step c__law_step k__law_step, PySem.W.mg_of X G a__law_step, (fun_mk (st := S__law_step) l__law_step c__law_step k__law_step).binds (ps := ["_law_pool_here", "_law_columns_here"]) fun _ _ _ _ _ _ us hl => match us, hl with | [_, _], _ => rfl⟩
    d__law_made_step := ⟨f__law_made_step, _, fun_mk (st := S__law_made_step) l__law_made_step c__law_made_step k__law_made_step, PySem.W.mg_of X G a__law_made_step, (fun_mk (st := S__law_made_step) l__law_made_step c__law_made_step k__law_made_step).binds (ps := ["_law_step_here"]) fun _ _ _ _ _ _ us hl => match us, hl with | [_], _ => rfl⟩
    d__law_is_name := ⟨f__law_is_name, _, fun_mk (st := S__law_is_name) l__law_is_name c__law_is_name k__law_is_name, PySem.W.mg_of X G a__law_is_name, (fun_mk (st := S__law_is_name) l__law_is_name c__law_is_name k__law_is_name).binds (ps := ["_law_thing"]) fun _ _ _ _ _ _ us hl => match us, hl with | [_], _ => rfl⟩
    d__law_order_right := ⟨f__law_order_right, _, fun_mk (st := S__law_order_right) l__law_order_right c__law_order_right k__law_order_right, PySem.W.mg_of X G a__law_order_right, (fun_mk (st := S__law_order_right) l__law_order_right c__law_order_right k__law_order_right).binds (ps := ["_law_thing"]) fun _ _ _ _ _ _ us hl => match us, hl with | [_], _ => rfl⟩
    d__law_right := ⟨f__law_right, _, fun_mk (st := S__law_right) l__law_right c__law_right k__law_right, PySem.W.mg_of X G a__law_right, (fun_mk (st := S__law_right) l__law_right c__law_right k__law_right).binds (ps := ["_law_thing", "_law_tests"]) fun _ _ _ _ _ _ us hl => match us, hl with | [_, _], _ => rfl⟩
    d__law_odd := ⟨f__law_odd, _, fun_mk (st := S__law_odd) l__law_odd c__law_odd k__law_odd, PySem.W.mg_of X G a__law_odd, (fun_mk (st := S__law_odd) l__law_odd c__law_odd k__law_odd).binds (ps := ["_law_pool_here"]) fun _ _ _ _ _ _ us hl => match us, hl with | [_], _ => rfl⟩
    d__law_due := ⟨f__law_due, _, fun_mk (st := S__law_due) l__law_due c__law_due k__law_due, PySem.W.mg_of X G a__law_due, (fun_mk (st := S__law_due) l__law_due c__law_due k__law_due).binds (ps := ["_law_things"]) fun _ _ _ _ _ _ us hl => match us, hl with | [_], _ => rfl⟩
    d__law_said := ⟨f__law_said, _, fun_mk (st := S__law_said) l__law_said c__law_said k__law_said, PySem.W.mg_of X G a__law_said, (fun_mk (st := S__law_said) l__law_said c__law_said k__law_said).binds (ps := ["_law_thing"]) fun _ _ _ _ _ _ us hl => match us, hl with | [_], _ => rfl⟩
    x_BadTest := by rw [show cadr mg "BadTest" = c_BadTest from cadr_of (PySem.W.mg_of X G a_eBadTest)]; exact ⟨feBadTest, { gC := PySem.W.mg_of X G a_eBadTest, cls := ⟨_, _, _, _, _, _, _, _, _, _, _, _, _, _, _, x_eBadTest, o_eBadTest⟩, sa := sa_eBadTest, ga := ga_eBadTest, gg := gg_eBadTest, noF := nb_eBadTest, ini := i_eBadTest, tyI := t_eBadTest, kC := k_eBadTest, exC := eC_eBadTest, tyC := tC_eBadTest, hdC := hC_eBadTest, te := exmSelf eC_eBadTest te_eBadTest tC_eBadTest tf_eBadTest, fn := ⟨_, _, _, _, _, _, _, _, _, _, _, _, _, _, _, l_eBadTest, cc_eBadTest, s1_eBadTest, s2_eBadTest, s3_eBadTest, s4_eBadTest⟩ }⟩
    x_BadOrder := by rw [show cadr mg "BadOrder" = c_BadOrder from cadr_of (PySem.W.mg_of X G a_eBadOrder)]; exact ⟨feBadOrder, { gC := PySem.W.mg_of X G a_eBadOrder, cls := ⟨_, _, _, _, _, _, _, _, _, _, _, _, _, _, _, x_eBadOrder, o_eBadOrder⟩, sa := sa_eBadOrder, ga := ga_eBadOrder, gg := gg_eBadOrder, noF := nb_eBadOrder, ini := i_eBadOrder, tyI := t_eBadOrder, kC := k_eBadOrder, exC := eC_eBadOrder, tyC := tC_eBadOrder, hdC := hC_eBadOrder, te := exmSelf eC_eBadOrder te_eBadOrder tC_eBadOrder tf_eBadOrder, fn := ⟨_, _, _, _, _, _, _, _, _, _, _, _, _, _, _, l_eBadOrder, cc_eBadOrder, s1_eBadOrder, s2_eBadOrder, s3_eBadOrder, s4_eBadOrder⟩ }⟩
    x_BadPlan := by rw [show cadr mg "BadPlan" = c_BadPlan from cadr_of (PySem.W.mg_of X G a_eBadPlan)]; exact ⟨feBadPlan, { gC := PySem.W.mg_of X G a_eBadPlan, cls := ⟨_, _, _, _, _, _, _, _, _, _, _, _, _, _, _, x_eBadPlan, o_eBadPlan⟩, sa := sa_eBadPlan, ga := ga_eBadPlan, gg := gg_eBadPlan, noF := nb_eBadPlan, noG := nc_eBadPlan, ini := i_eBadPlan, tyI := t_eBadPlan, kC := k_eBadPlan, exC := eC_eBadPlan, tyC := tC_eBadPlan, hdC := hC_eBadPlan, te := exmSelf eC_eBadPlan te_eBadPlan tC_eBadPlan tf_eBadPlan, fn := ⟨_, _, _, _, _, _, _, _, _, _, _, _, _, _, _, _, _, _, _, _, l_eBadPlan, cc_eBadPlan, s1_eBadPlan, s2_eBadPlan, s3_eBadPlan, s4_eBadPlan⟩ }⟩
    e_Test := by rw [hc_Test]; exact PySem.W.mg_of X G a_Test
    sf_Test := by rw [hc_Test]; exact sf_Test
    nr_Test_and := by rw [hc_Test]; exact nr_Test_and
    nr_Test_or := by rw [hc_Test]; exact nr_Test_or
    is_Test := by rw [hc_Test]; exact ⟨ia_Test, in_Test, it_Test, im_Test, kitSelf, fun T h => kitNo io_Test iy_Test (by unfold kinds7 at h; simp only [List.mem_cons, List.not_mem_nil, or_false] at h; rcases h with rfl | rfl | rfl | rfl | rfl | rfl | rfl <;> assumption)⟩
    cl_Test := by rw [hc_Test]; exact ⟨pg_Test, hd_Test, po_Test, sa_Test⟩
    n_Test_word := by rw [hc_Test]; exact n_Test_word
    n_Test_inner := by rw [hc_Test]; exact n_Test_inner
    n_Test_fields := by rw [hc_Test]; exact n_Test_fields
    n_Test_terms := by rw [hc_Test]; exact n_Test_terms
    n_Test_size := by rw [hc_Test]; exact n_Test_size
    n_Test_depth := by rw [hc_Test]; exact n_Test_depth
    e_Plan := by rw [hc_Plan]; exact PySem.W.mg_of X G a_Plan
    sf_Plan := by rw [hc_Plan]; exact sf_Plan
    nr_Plan_and := by rw [hc_Plan]; exact nr_Plan_and
    nr_Plan_or := by rw [hc_Plan]; exact nr_Plan_or
    is_Plan := by rw [hc_Plan]; exact ⟨ia_Plan, in_Plan, it_Plan, im_Plan, kitSelf, fun T h => kitNo io_Plan iy_Plan (by unfold kinds7 at h; simp only [List.mem_cons, List.not_mem_nil, or_false] at h; rcases h with rfl | rfl | rfl | rfl | rfl | rfl | rfl <;> assumption)⟩
    cl_Plan := by rw [hc_Plan]; exact ⟨pg_Plan, hd_Plan, po_Plan, sa_Plan⟩
    n_Plan_course := by rw [hc_Plan]; exact n_Plan_course
    k_SIGNS := ⟨t_SIGNS, PySem.W.mg_of X G g_SIGNS⟩
    k_LONGEST_NAME := ⟨t_LONGEST_NAME, PySem.W.mg_of X G g_LONGEST_NAME⟩
    k_LETTERS := ⟨t_LETTERS, PySem.W.mg_of X G g_LETTERS⟩
    k_WORDS := ⟨ca_WORDS, PySem.W.mg_of X G g_WORDS, fun _ => Or.inr ⟨co_WORDS, ci_WORDS, cn_WORDS, gl_WORDS, gc_WORDS, gd_WORDS, gs_WORDS, gv_WORDS⟩⟩
    k_NAME_SIGNS := ⟨t_NAME_SIGNS, PySem.W.mg_of X G g_NAME_SIGNS⟩
    k_MOST_ATOMS := ⟨t_MOST_ATOMS, PySem.W.mg_of X G g_MOST_ATOMS⟩
    k_MOST_LEVELS := ⟨t_MOST_LEVELS, PySem.W.mg_of X G g_MOST_LEVELS⟩
    k_OPS := ⟨ca_OPS, PySem.W.mg_of X G g_OPS, fun _ => Or.inr ⟨co_OPS, ci_OPS, cn_OPS, gl_OPS, gc_OPS, gd_OPS, gs_OPS, gv_OPS⟩⟩
    k_MOST_VALUES := ⟨t_MOST_VALUES, PySem.W.mg_of X G g_MOST_VALUES⟩
    k_DIRECTIONS := ⟨ca_DIRECTIONS, PySem.W.mg_of X G g_DIRECTIONS, fun _ => Or.inr ⟨co_DIRECTIONS, ci_DIRECTIONS, cn_DIRECTIONS, gl_DIRECTIONS, gc_DIRECTIONS, gd_DIRECTIONS, gs_DIRECTIONS, gv_DIRECTIONS⟩⟩
    k_MOST_PARTS := ⟨t_MOST_PARTS, PySem.W.mg_of X G g_MOST_PARTS⟩
    k_MOST_STEPS := ⟨t_MOST_STEPS, PySem.W.mg_of X G g_MOST_STEPS⟩
    k_STEP_SIZES := ⟨dt_STEP_SIZES, PySem.W.mg_of X G g_STEP_SIZES, kdic_of kd_STEP_SIZES kt_STEP_SIZES km_STEP_SIZES rfl (fun p hp => by simp only [List.mem_cons, List.not_mem_nil, or_false] at hp; rcases hp with rfl | rfl | rfl | rfl | rfl <;> exact ⟨_, by assumption⟩)⟩ }
  exact ⟨PySem.W.fnOf "law" "law" (defArgs S_law) (defBody S_law) (defScope S_law) .none kV_law dc_law pm_law an_law cd_law ct_law, fun s v => .of_eq rfl, fun base _ _ => ok_law T (fun_mk (st := S_law) l_law c_law k_law)⟩
theorem walk {l : PySem.W.OpenLaw} {q : Program} {loose : List Str} {XP : (Str → Option Value) → Heap → Prop} {YP : World → Heap → Prop} {d : DefRec} {K : Params → PySem.W.Frag} (hn : l.most = some 63) (hdf : d.params.defaults = [])
    (hY : ∀ (w : World) (h : Heap), YP w h → (K w.params).In h)
    (F : ∀ (w : World) (mg : Str → Option Value) (fa : Addr) (h : Heap), (K w.params).In h → h.Ns mainGlobals mg → mg d.name = some (.ref fa) →
      ∃ fd : FuncData, (∀ (s : Shared) (u : Value), BindsTo s fd ⟨[u], []⟩ [("_law_script", u)]) ∧ ∀ base : Heap, (K w.params).In base → base.Ns mainGlobals mg → FnOk l.prog w (K w.params) mg base CX0 12 fa fd ["_law_script"] (spLaw (K w.params))) :
    PySem.W.WalkO q loose XP YP l.row.toRowW d [] (fun f vs => PySem.call f vs) :=
  L2.walk_of (n := 63) (k := 12) (x := "_law_script") (CX := fun _ => CX0) (sp := fun w => spLaw (K w.params)) hn (by decide) hdf ⟨rfl, by decide, by decide⟩ hY F (fun _ _ a ns hl _ hS => ⟨a, ns, rfl, hS, hl, fun _ => rfl⟩) fun _ _ _ _ _ z => z
end L
open PySem PySem.W PyProof.Rows
set_option maxRecDepth 100000 in
set_option maxHeartbeats 0 in
theorem PySem.Challenge.cw_tworows_k55_plans_are_read_holds : PySem.Challenge.rw_tworows_k55_plans_are_read.Holds := by
  w_on; o_law; k_head; (case hw => w_witness2)
  k_fill
  refine L.walk (l := PySem.Challenge.rw_tworows_k55_plans_are_read) rfl rfl (fun w h Y => PySem.W.kIn_of Y) ?F
  case F =>
    intro w mg fa h KX G hmg
    refine' L.all_mk KX G hmg ?a_Test ?pg_Test ?hd_Test ?po_Test ?sa_Test ?mk_Test ?kc_Test ?sf_Test ?nn_Test ?nz_Test ?nr_Test_and ?nr_Test_or ?ia_Test ?in_Test ?it_Test ?im_Test ?io_Test ?iy_Test ?iz_Test_NoneType ?iz_Test_bool ?iz_Test_int ?iz_Test_str ?iz_Test_list ?iz_Test_tuple ?iz_Test_dict ?n_Test_word ?n_Test_inner ?n_Test_fields ?n_Test_terms ?n_Test_size ?n_Test_depth ?a_Plan ?pg_Plan ?hd_Plan ?po_Plan ?sa_Plan ?mk_Plan ?kc_Plan ?sf_Plan ?nn_Plan ?nz_Plan ?nr_Plan_and ?nr_Plan_or ?ia_Plan ?in_Plan ?it_Plan ?im_Plan ?io_Plan ?iy_Plan ?iz_Plan_NoneType ?iz_Plan_bool ?iz_Plan_int ?iz_Plan_str ?iz_Plan_list ?iz_Plan_tuple ?iz_Plan_dict ?n_Plan_course ?a_eBadTest ?x_eBadTest ?o_eBadTest ?sa_eBadTest ?ga_eBadTest ?gg_eBadTest ?nb_eBadTest ?i_eBadTest ?t_eBadTest ?l_eBadTest ?cc_eBadTest ?s1_eBadTest ?s2_eBadTest ?s3_eBadTest ?s4_eBadTest ?k_eBadTest ?eC_eBadTest ?tC_eBadTest ?hC_eBadTest ?te_eBadTest ?tf_eBadTest ?a_eBadOrder ?x_eBadOrder ?o_eBadOrder ?sa_eBadOrder ?ga_eBadOrder ?gg_eBadOrder ?nb_eBadOrder ?i_eBadOrder ?t_eBadOrder ?l_eBadOrder ?cc_eBadOrder ?s1_eBadOrder ?s2_eBadOrder ?s3_eBadOrder ?s4_eBadOrder ?k_eBadOrder ?eC_eBadOrder ?tC_eBadOrder ?hC_eBadOrder ?te_eBadOrder ?tf_eBadOrder ?a_eBadPlan ?x_eBadPlan ?o_eBadPlan ?sa_eBadPlan ?ga_eBadPlan ?gg_eBadPlan ?nb_eBadPlan ?i_eBadPlan ?t_eBadPlan ?nc_eBadPlan ?l_eBadPlan ?cc_eBadPlan ?s1_eBadPlan ?s2_eBadPlan ?s3_eBadPlan ?s4_eBadPlan ?k_eBadPlan ?eC_eBadPlan ?tC_eBadPlan ?hC_eBadPlan ?te_eBadPlan ?tf_eBadPlan ?a_is_integer ?l_is_integer ?c_is_integer ?k_is_integer ?a_is_sequence ?l_is_sequence ?c_is_sequence ?k_is_sequence ?a_is_worded ?l_is_worded ?c_is_worded ?k_is_worded ?a_is_text ?l_is_text ?c_is_text ?k_is_text ?a_is_name ?l_is_name ?c_is_name ?k_is_name ?a_kind_of ?l_kind_of ?c_kind_of ?k_kind_of ?a_Test_init ?i_Test_init ?l_Test_init ?c_Test_init ?k_Test_init ?a_Test_and ?i_Test_and ?l_Test_and ?c_Test_and ?k_Test_and ?a_Test_or ?i_Test_or ?l_Test_or ?c_Test_or ?k_Test_or ?a_Test_invert ?i_Test_invert ?l_Test_invert ?c_Test_invert ?k_Test_invert ?a_Test_eq ?i_Test_eq ?l_Test_eq ?c_Test_eq ?k_Test_eq ?a_size_of ?l_size_of ?c_size_of ?k_size_of ?a_depth_of ?l_depth_of ?c_depth_of ?k_depth_of ?a_combined ?l_combined ?c_combined ?k_combined ?a_need_column ?l_need_column ?c_need_column ?k_need_column ?a_need_op ?l_need_op ?c_need_op ?k_need_op ?a_need_values ?l_need_values ?c_need_values ?k_need_values ?a_compare ?l_compare ?c_compare ?k_compare ?a_against ?l_against ?c_against ?k_against ?kn_against ?a_among ?l_among ?c_among ?k_among ?a_begins ?l_begins ?c_begins ?k_begins ?a_empty ?l_empty ?c_empty ?k_empty ?a_always ?l_always ?c_always ?k_always ?a_never ?l_never ?c_never ?k_never ?a_sure ?l_sure ?c_sure ?k_sure ?a_is_short ?l_is_short ?c_is_short ?k_is_short ?a_are_names ?l_are_names ?c_are_names ?k_are_names ?a_is_part ?l_is_part ?c_is_part ?k_is_part ?a_need_order ?l_need_order ?c_need_order ?k_need_order ?a_Plan_init ?i_Plan_init ?l_Plan_init ?c_Plan_init ?k_Plan_init ?a_Plan_steps ?i_Plan_steps ?l_Plan_steps ?c_Plan_steps ?k_Plan_steps ?a_Plan_eq ?i_Plan_eq ?l_Plan_eq ?c_Plan_eq ?k_Plan_eq ?a_Plan_len ?i_Plan_len ?l_Plan_len ?c_Plan_len ?k_Plan_len ?a_is_step ?l_is_step ?c_is_step ?k_is_step ?a_is_order ?l_is_order ?c_is_order ?k_is_order ?a_step_of ?l_step_of ?c_step_of ?k_step_of ?a__law_int ?l__law_int ?c__law_int ?k__law_int ?a__law_pool ?l__law_pool ?c__law_pool ?k__law_pool ?a__law_draw ?l__law_draw ?c__law_draw ?k__law_draw ?a__law_value ?l__law_value ?c__law_value ?k__law_value ?a__law_name ?l__law_name ?c__law_name ?k__law_name ?a__law_columns ?l__law_columns ?c__law_columns ?k__law_columns ?a__law_atom ?l__law_atom ?c__law_atom ?k__law_atom ?a__law_make ?l__law_make ?c__law_make ?k__law_make ?a__law_order ?l__law_order ?c__law_order ?k__law_order ?a__law_step ?l__law_step ?c__law_step ?k__law_step ?a__law_made_step ?l__law_made_step ?c__law_made_step ?k__law_made_step ?a__law_is_name ?l__law_is_name ?c__law_is_name ?k__law_is_name ?a__law_order_right ?l__law_order_right ?c__law_order_right ?k__law_order_right ?a__law_right ?l__law_right ?c__law_right ?k__law_right ?a__law_odd ?l__law_odd ?c__law_odd ?k__law_odd ?a__law_due ?l__law_due ?c__law_due ?k__law_due ?a__law_said ?l__law_said ?c__law_said ?k__law_said ?a_law ?l_law ?c_law ?k_law ?z_isinstance ?z_int ?z_bool ?z_list ?z_tuple ?z_str ?z_len ?z_all ?z_sum ?z_set ?z_enumerate ?z_range ?g_SIGNS ?g_LONGEST_NAME ?g_LETTERS ?g_WORDS ?gl_WORDS ?gc_WORDS ?gd_WORDS ?gs_WORDS ?gv_WORDS ?g_NAME_SIGNS ?g_MOST_ATOMS ?g_MOST_LEVELS ?g_OPS ?gl_OPS ?gc_OPS ?gd_OPS ?gs_OPS ?gv_OPS ?g_MOST_VALUES ?g_DIRECTIONS ?gl_DIRECTIONS ?gc_DIRECTIONS ?gd_DIRECTIONS ?gs_DIRECTIONS ?gv_DIRECTIONS ?g_MOST_PARTS ?g_MOST_STEPS ?g_STEP_SIZES ?kd_STEP_SIZES ?kt_STEP_SIZES ?km_STEP_SIZES ?ki0_STEP_SIZES ?ki1_STEP_SIZES ?ki2_STEP_SIZES ?ki3_STEP_SIZES ?ki4_STEP_SIZES
    (case a_Test => k_is)
    (case pg_Test => k_is)
    (case hd_Test => k_is)
    (case po_Test => k_is)
    (case sa_Test => k_is)
    (case mk_Test => k_is)
    (case kc_Test => k_is)
    (case sf_Test => k_is)
    (case nn_Test => k_is)
    (case nz_Test => k_is)
    (case nr_Test_and => k_is)
    (case nr_Test_or => k_is)
    (case ia_Test => k_is)
    (case in_Test => k_is)
    (case it_Test => k_is)
    (case im_Test => k_is)
    (case io_Test => k_is)
    (case iy_Test => k_is)
    (case iz_Test_NoneType => k_is)
    (case iz_Test_bool => k_is)
    (case iz_Test_int => k_is)
    (case iz_Test_str => k_is)
    (case iz_Test_list => k_is)
    (case iz_Test_tuple => k_is)
    (case iz_Test_dict => k_is)
    (case n_Test_word => k_is)
    (case n_Test_inner => k_is)
    (case n_Test_fields => k_is)
    (case n_Test_terms => k_is)
    (case n_Test_size => k_is)
    (case n_Test_depth => k_is)
    (case a_Plan => k_is)
    (case pg_Plan => k_is)
    (case hd_Plan => k_is)
    (case po_Plan => k_is)
    (case sa_Plan => k_is)
    (case mk_Plan => k_is)
    (case kc_Plan => k_is)
    (case sf_Plan => k_is)
    (case nn_Plan => k_is)
    (case nz_Plan => k_is)
    (case nr_Plan_and => k_is)
    (case nr_Plan_or => k_is)
    (case ia_Plan => k_is)
    (case in_Plan => k_is)
    (case it_Plan => k_is)
    (case im_Plan => k_is)
    (case io_Plan => k_is)
    (case iy_Plan => k_is)
    (case iz_Plan_NoneType => k_is)
    (case iz_Plan_bool => k_is)
    (case iz_Plan_int => k_is)
    (case iz_Plan_str => k_is)
    (case iz_Plan_list => k_is)
    (case iz_Plan_tuple => k_is)
    (case iz_Plan_dict => k_is)
    (case n_Plan_course => k_is)
    (case a_eBadTest => k_is)
    (case x_eBadTest => k_is)
    (case o_eBadTest => (repeat (first | exact PySem.TwX.OwnEx.tail | refine PySem.TwX.OwnEx.own _ ?_)))
    (case sa_eBadTest => k_is)
    (case ga_eBadTest => k_is)
    (case gg_eBadTest => k_is)
    (case nb_eBadTest => k_is)
    (case i_eBadTest => k_is)
    (case t_eBadTest => k_is)
    (case l_eBadTest => k_is)
    (case cc_eBadTest => k_is)
    (case s1_eBadTest => rfl)
    (case s2_eBadTest => rfl)
    (case s3_eBadTest => rfl)
    (case s4_eBadTest => rfl)
    (case k_eBadTest => k_is)
    (case eC_eBadTest => k_is)
    (case tC_eBadTest => k_is)
    (case hC_eBadTest => k_is)
    (case te_eBadTest => k_is)
    (case tf_eBadTest => k_is)
    (case a_eBadOrder => k_is)
    (case x_eBadOrder => k_is)
    (case o_eBadOrder => (repeat (first | exact PySem.TwX.OwnEx.tail | refine PySem.TwX.OwnEx.own _ ?_)))
    (case sa_eBadOrder => k_is)
    (case ga_eBadOrder => k_is)
    (case gg_eBadOrder => k_is)
    (case nb_eBadOrder => k_is)
    (case i_eBadOrder => k_is)
    (case t_eBadOrder => k_is)
    (case l_eBadOrder => k_is)
    (case cc_eBadOrder => k_is)
    (case s1_eBadOrder => rfl)
    (case s2_eBadOrder => rfl)
    (case s3_eBadOrder => rfl)
    (case s4_eBadOrder => rfl)
    (case k_eBadOrder => k_is)
    (case eC_eBadOrder => k_is)
    (case tC_eBadOrder => k_is)
    (case hC_eBadOrder => k_is)
    (case te_eBadOrder => k_is)
    (case tf_eBadOrder => k_is)
    (case a_eBadPlan => k_is)
    (case x_eBadPlan => k_is)
    (case o_eBadPlan => (repeat (first | exact PySem.TwX.OwnEx.tail | refine PySem.TwX.OwnEx.own _ ?_)))
    (case sa_eBadPlan => k_is)
    (case ga_eBadPlan => k_is)
    (case gg_eBadPlan => k_is)
    (case nb_eBadPlan => k_is)
    (case i_eBadPlan => k_is)
    (case t_eBadPlan => k_is)
    (case nc_eBadPlan => k_is)
    (case l_eBadPlan => k_is)
    (case cc_eBadPlan => k_is)
    (case s1_eBadPlan => rfl)
    (case s2_eBadPlan => rfl)
    (case s3_eBadPlan => rfl)
    (case s4_eBadPlan => rfl)
    (case k_eBadPlan => k_is)
    (case eC_eBadPlan => k_is)
    (case tC_eBadPlan => k_is)
    (case hC_eBadPlan => k_is)
    (case te_eBadPlan => k_is)
    (case tf_eBadPlan => k_is)
    (case a_is_integer => k_is)
    (case l_is_integer => k_is)
    (case c_is_integer => k_is)
    (case k_is_integer => k_is)
    (case a_is_sequence => k_is)
    (case l_is_sequence => k_is)
    (case c_is_sequence => k_is)
    (case k_is_sequence => k_is)
    (case a_is_worded => k_is)
    (case l_is_worded => k_is)
    (case c_is_worded => k_is)
    (case k_is_worded => k_is)
    (case a_is_text => k_is)
    (case l_is_text => k_is)
    (case c_is_text => k_is)
    (case k_is_text => k_is)
    (case a_is_name => k_is)
    (case l_is_name => k_is)
    (case c_is_name => k_is)
    (case k_is_name => k_is)
    (case a_kind_of => k_is)
    (case l_kind_of => k_is)
    (case c_kind_of => k_is)
    (case k_kind_of => k_is)
    (case a_Test_init => k_is)
    (case i_Test_init => k_is)
    (case l_Test_init => k_is)
    (case c_Test_init => k_is)
    (case k_Test_init => k_is)
    (case a_Test_and => k_is)
    (case i_Test_and => k_is)
    (case l_Test_and => k_is)
    (case c_Test_and => k_is)
    (case k_Test_and => k_is)
    (case a_Test_or => k_is)
    (case i_Test_or => k_is)
    (case l_Test_or => k_is)
    (case c_Test_or => k_is)
    (case k_Test_or => k_is)
    (case a_Test_invert => k_is)
    (case i_Test_invert => k_is)
    (case l_Test_invert => k_is)
    (case c_Test_invert => k_is)
    (case k_Test_invert => k_is)
    (case a_Test_eq => k_is)
    (case i_Test_eq => k_is)
    (case l_Test_eq => k_is)
    (case c_Test_eq => k_is)
    (case k_Test_eq => k_is)
    (case a_size_of => k_is)
    (case l_size_of => k_is)
    (case c_size_of => k_is)
    (case k_size_of => k_is)
    (case a_depth_of => k_is)
    (case l_depth_of => k_is)
    (case c_depth_of => k_is)
    (case k_depth_of => k_is)
    (case a_combined => k_is)
    (case l_combined => k_is)
    (case c_combined => k_is)
    (case k_combined => k_is)
    (case a_need_column => k_is)
    (case l_need_column => k_is)
    (case c_need_column => k_is)
    (case k_need_column => k_is)
    (case a_need_op => k_is)
    (case l_need_op => k_is)
    (case c_need_op => k_is)
    (case k_need_op => k_is)
    (case a_need_values => k_is)
    (case l_need_values => k_is)
    (case c_need_values => k_is)
    (case k_need_values => k_is)
    (case a_compare => k_is)
    (case l_compare => k_is)
    (case c_compare => k_is)
    (case k_compare => k_is)
    (case a_against => k_is)
    (case l_against => k_is)
    (case c_against => k_is)
    (case k_against => k_is)
    (case kn_against => k_is)
    (case a_among => k_is)
    (case l_among => k_is)
    (case c_among => k_is)
    (case k_among => k_is)
    (case a_begins => k_is)
    (case l_begins => k_is)
    (case c_begins => k_is)
    (case k_begins => k_is)
    (case a_empty => k_is)
    (case l_empty => k_is)
    (case c_empty => k_is)
    (case k_empty => k_is)
    (case a_always => k_is)
    (case l_always => k_is)
    (case c_always => k_is)
    (case k_always => k_is)
    (case a_never => k_is)
    (case l_never => k_is)
    (case c_never => k_is)
    (case k_never => k_is)
    (case a_sure => k_is)
    (case l_sure => k_is)
    (case c_sure => k_is)
    (case k_sure => k_is)
    (case a_is_short => k_is)
    (case l_is_short => k_is)
    (case c_is_short => k_is)
    (case k_is_short => k_is)
    (case a_are_names => k_is)
    (case l_are_names => k_is)
    (case c_are_names => k_is)
    (case k_are_names => k_is)
    (case a_is_part => k_is)
    (case l_is_part => k_is)
    (case c_is_part => k_is)
    (case k_is_part => k_is)
    (case a_need_order => k_is)
    (case l_need_order => k_is)
    (case c_need_order => k_is)
    (case k_need_order => k_is)
    (case a_Plan_init => k_is)
    (case i_Plan_init => k_is)
    (case l_Plan_init => k_is)
    (case c_Plan_init => k_is)
    (case k_Plan_init => k_is)
    (case a_Plan_steps => k_is)
    (case i_Plan_steps => k_is)
    (case l_Plan_steps => k_is)
    (case c_Plan_steps => k_is)
    (case k_Plan_steps => k_is)
    (case a_Plan_eq => k_is)
    (case i_Plan_eq => k_is)
    (case l_Plan_eq => k_is)
    (case c_Plan_eq => k_is)
    (case k_Plan_eq => k_is)
    (case a_Plan_len => k_is)
    (case i_Plan_len => k_is)
    (case l_Plan_len => k_is)
    (case c_Plan_len => k_is)
    (case k_Plan_len => k_is)
    (case a_is_step => k_is)
    (case l_is_step => k_is)
    (case c_is_step => k_is)
    (case k_is_step => k_is)
    (case a_is_order => k_is)
    (case l_is_order => k_is)
    (case c_is_order => k_is)
    (case k_is_order => k_is)
    (case a_step_of => k_is)
    (case l_step_of => k_is)
    (case c_step_of => k_is)
    (case k_step_of => k_is)
    (case a__law_int => k_is)
    (case l__law_int => k_is)
    (case c__law_int => k_is)
    (case k__law_int => k_is)
    (case a__law_pool => k_is)
    (case l__law_pool => k_is)
    (case c__law_pool => k_is)
    (case k__law_pool => k_is)
    (case a__law_draw => k_is)
    (case l__law_draw => k_is)
    (case c__law_draw => k_is)
    (case k__law_draw => k_is)
    (case a__law_value => k_is)
    (case l__law_value => k_is)
    (case c__law_value => k_is)
    (case k__law_value => k_is)
    (case a__law_name => k_is)
    (case l__law_name => k_is)
    (case c__law_name => k_is)
    (case k__law_name => k_is)
    (case a__law_columns => k_is)
    (case l__law_columns => k_is)
    (case c__law_columns => k_is)
    (case k__law_columns => k_is)
    (case a__law_atom => k_is)
    (case l__law_atom => k_is)
    (case c__law_atom => k_is)
    (case k__law_atom => k_is)
    (case a__law_make => k_is)
    (case l__law_make => k_is)
    (case c__law_make => k_is)
    (case k__law_make => k_is)
    (case a__law_order => k_is)
    (case l__law_order => k_is)
    (case c__law_order => k_is)
    (case k__law_order => k_is)
    (case a__law_step => k_is)
    (case l__law_step => k_is)
    (case c__law_step => k_is)
    (case k__law_step => k_is)
    (case a__law_made_step => k_is)
    (case l__law_made_step => k_is)
    (case c__law_made_step => k_is)
    (case k__law_made_step => k_is)
    (case a__law_is_name => k_is)
    (case l__law_is_name => k_is)
    (case c__law_is_name => k_is)
    (case k__law_is_name => k_is)
    (case a__law_order_right => k_is)
    (case l__law_order_right => k_is)
    (case c__law_order_right => k_is)
    (case k__law_order_right => k_is)
    (case a__law_right => k_is)
    (case l__law_right => k_is)
    (case c__law_right => k_is)
    (case k__law_right => k_is)
    (case a__law_odd => k_is)
    (case l__law_odd => k_is)
    (case c__law_odd => k_is)
    (case k__law_odd => k_is)
    (case a__law_due => k_is)
    (case l__law_due => k_is)
    (case c__law_due => k_is)
    (case k__law_due => k_is)
    (case a__law_said => k_is)
    (case l__law_said => k_is)
    (case c__law_said => k_is)
    (case k__law_said => k_is)
    (case a_law => k_is)
    (case l_law => k_is)
    (case c_law => k_is)
    (case k_law => k_is)
    (case z_isinstance => k_is)
    (case z_int => k_is)
    (case z_bool => k_is)
    (case z_list => k_is)
    (case z_tuple => k_is)
    (case z_str => k_is)
    (case z_len => k_is)
    (case z_all => k_is)
    (case z_sum => k_is)
    (case z_set => k_is)
    (case z_enumerate => k_is)
    (case z_range => k_is)
    (case g_SIGNS => k_is)
    (case g_LONGEST_NAME => k_is)
    (case g_LETTERS => k_is)
    (case g_WORDS => k_is)
    (case gl_WORDS => k_is)
    (case gc_WORDS => rfl)
    (case gd_WORDS => rfl)
    (case gs_WORDS => decide)
    (case gv_WORDS => (repeat (first | exact .nil | refine .cons ⟨_, rfl⟩ ?_)))
    (case g_NAME_SIGNS => k_is)
    (case g_MOST_ATOMS => k_is)
    (case g_MOST_LEVELS => k_is)
    (case g_OPS => k_is)
    (case gl_OPS => k_is)
    (case gc_OPS => rfl)
    (case gd_OPS => rfl)
    (case gs_OPS => decide)
    (case gv_OPS => (repeat (first | exact .nil | refine .cons ⟨_, rfl⟩ ?_)))
    (case g_MOST_VALUES => k_is)
    (case g_DIRECTIONS => k_is)
    (case gl_DIRECTIONS => k_is)
    (case gc_DIRECTIONS => rfl)
    (case gd_DIRECTIONS => rfl)
    (case gs_DIRECTIONS => decide)
    (case gv_DIRECTIONS => (repeat (first | exact .nil | refine .cons ⟨_, rfl⟩ ?_)))
    (case g_MOST_PARTS => k_is)
    (case g_MOST_STEPS => k_is)
    (case g_STEP_SIZES => k_is)
    (case kd_STEP_SIZES => k_is)
    (case kt_STEP_SIZES => rfl)
    (case km_STEP_SIZES => rfl)
    (case ki0_STEP_SIZES => k_is)
    (case ki1_STEP_SIZES => k_is)
    (case ki2_STEP_SIZES => k_is)
    (case ki3_STEP_SIZES => k_is)
    (case ki4_STEP_SIZES => k_is)
#print axioms PySem.Challenge.cw_tworows_k55_plans_are_read_holds
