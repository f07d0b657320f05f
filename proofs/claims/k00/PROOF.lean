import PyProof.Rows.All
import Wide.All
import OpenK.AllK
import Wide.FinOn
import PyProof.EqAt
import PyProof.EqKinds
import PyProof.TupleCall
import PySem.Challenge.RW_stepletters_k00_whole_ratios
import HandS.ForMost
import HandS.ForExc
import HandS.Wide
import HandS.Gcd
import HandS.FStr
import HandS.IsInst
import HandS.Lambda
import HandS.EndTab
import HandS.CallLocal
import HandS.CallSlots
import HandS.RaiseMore
import KE.KExcInit
set_option Elab.async false
set_option linter.all false
set_option maxRecDepth 100000
set_option maxHeartbeats 4000000
set_option exponentiation.threshold 5000
namespace K0
/-- the greatest common divisor, as an Int -/
def gcdI (a b : Int) : Int := ((Nat.gcd a.natAbs b.natAbs : Nat) : Int)
/-- .. with the sign of the second one -/
def lowg (t b : Int) : Int := if b < 0 then -(gcdI t b) else gcdI t b
/-- lowest terms -/
def low (t b : Int) : Int × Int := (t.fdiv (lowg t b), b.fdiv (lowg t b))
structure Rt (r : Int × Int) : Prop where
  pos : 0 < r.2
  cop : Nat.gcd r.1.natAbs r.2.natAbs = 1
theorem gcdI_pos {t b : Int} (h : b ≠ 0) : 0 < gcdI t b := by
  unfold gcdI
  have := Nat.gcd_pos_of_pos_right (m := t.natAbs) (n := b.natAbs) (Int.natAbs_pos.mpr h)
  omega
theorem gcdI_dl (t b : Int) : gcdI t b ∣ t := by
  unfold gcdI
  exact Int.ofNat_dvd_left.mpr (Nat.gcd_dvd_left _ _)
theorem gcdI_dr (t b : Int) : gcdI t b ∣ b := by
  unfold gcdI
  exact Int.ofNat_dvd_left.mpr (Nat.gcd_dvd_right _ _)
theorem lowg_ne {t b : Int} (h : b ≠ 0) : lowg t b ≠ 0 := by
  have := gcdI_pos (t := t) h
  unfold lowg
  split <;> omega
theorem lowg_dl (t b : Int) : lowg t b ∣ t := by
  unfold lowg
  split
  · exact Int.neg_dvd.mpr (gcdI_dl t b)
  · exact gcdI_dl t b
theorem lowg_dr (t b : Int) : lowg t b ∣ b := by
  unfold lowg
  split
  · exact Int.neg_dvd.mpr (gcdI_dr t b)
  · exact gcdI_dr t b
theorem fdiv_of {a g q : Int} (hg : g ≠ 0) (h : a = g * q) : a.fdiv g = q := by
  subst h
  exact Int.mul_fdiv_cancel_left q hg
theorem lowg_abs {t b : Int} : (lowg t b).natAbs = Nat.gcd t.natAbs b.natAbs := by
  unfold lowg gcdI
  split <;> omega
/-- what low is -/
theorem low_parts {t b : Int} (h : b ≠ 0) : t = lowg t b * (low t b).1 ∧ b = lowg t b * (low t b).2 := by
  obtain ⟨q, e1⟩ := lowg_dl t b
  obtain ⟨r, e2⟩ := lowg_dr t b
  have n := lowg_ne (t := t) h
  have f1 := fdiv_of n e1
  have f2 := fdiv_of n e2
  show t = lowg t b * t.fdiv (lowg t b) ∧ b = lowg t b * b.fdiv (lowg t b)
  rw [f1, f2]
  exact ⟨e1, e2⟩
theorem low_rt {t b : Int} (h : b ≠ 0) : Rt (low t b) := by
  obtain ⟨e1, e2⟩ := low_parts (t := t) h
  have n := lowg_ne (t := t) h
  have gp := gcdI_pos (t := t) h
  constructor
  · by_cases hb : b < 0
    · have e : lowg t b = -(gcdI t b) := if_pos hb
      rw [e] at e2
      generalize (low t b).2 = y at *
      by_cases hy : 0 < y
      · exact hy
      · have : 0 ≤ -(gcdI t b) * y := Int.mul_nonneg_of_nonpos_of_nonpos (by omega) (by omega)
        omega
    · have e : lowg t b = gcdI t b := if_neg hb
      rw [e] at e2
      generalize (low t b).2 = y at *
      by_cases hy : 0 < y
      · exact hy
      · have : gcdI t b * y ≤ 0 := Int.mul_nonpos_of_nonneg_of_nonpos (by omega) (by omega)
        omega
  · have a1 := congrArg Int.natAbs e1
    have a2 := congrArg Int.natAbs e2
    rw [Int.natAbs_mul, lowg_abs] at a1 a2
    have gpos : 0 < Nat.gcd t.natAbs b.natAbs := Nat.gcd_pos_of_pos_right _ (Int.natAbs_pos.mpr h)
    generalize hg : Nat.gcd t.natAbs b.natAbs = g at *
    have e : Nat.gcd t.natAbs b.natAbs = g * Nat.gcd (low t b).1.natAbs (low t b).2.natAbs := by
      rw [← Nat.gcd_mul_left, ← a1, ← a2]
    rw [hg] at e
    have e' : g * Nat.gcd (low t b).1.natAbs (low t b).2.natAbs = g * 1 := by omega
    exact Nat.eq_of_mul_eq_mul_left gpos e'
theorem low_cross {t b : Int} (h : b ≠ 0) : (low t b).1 * b = t * (low t b).2 := by
  obtain ⟨e1, e2⟩ := low_parts (t := t) h
  generalize hx : (low t b).1 = x at *
  generalize hy : (low t b).2 = y at *
  generalize lowg t b = g at *
  subst e1 e2
  rw [Int.mul_comm g x, Int.mul_assoc x g y]
theorem rt_eq {r s : Int × Int} (hr : Rt r) (hs : Rt s) (e : r.1 * s.2 = s.1 * r.2) : r = s := by
  obtain ⟨a, b⟩ := r
  obtain ⟨c, d⟩ := s
  obtain ⟨hb, h1⟩ := hr
  obtain ⟨hd, h2⟩ := hs
  dsimp only at *
  have en := congrArg Int.natAbs e
  rw [Int.natAbs_mul, Int.natAbs_mul] at en
  have d1 : b.natAbs ∣ d.natAbs := (Nat.Coprime.symm h1).dvd_of_dvd_mul_left (n := d.natAbs) (m := a.natAbs) (by rw [en]; exact Nat.dvd_mul_left _ _)
  have d2 : d.natAbs ∣ b.natAbs := (Nat.Coprime.symm h2).dvd_of_dvd_mul_left (n := b.natAbs) (m := c.natAbs) (by rw [← en]; exact Nat.dvd_mul_left _ _)
  have e1 : b.natAbs = d.natAbs := Nat.dvd_antisymm d1 d2
  have e2 : b = d := by omega
  subst e2
  have e3 : a = c := Int.eq_of_mul_eq_mul_right (by omega) e
  rw [e3]
theorem low_eq {t b : Int} {r : Int × Int} (hb : b ≠ 0) (hr : Rt r) (e : t * r.2 = r.1 * b) : low t b = r := by
  refine rt_eq (low_rt hb) hr ?_
  have c := low_cross (t := t) hb
  have p := low_rt (t := t) hb
  -- x * b = t * y, t * d = c * b  =>  x * d = c * y
  generalize (low t b) = l at *
  obtain ⟨x, y⟩ := l
  obtain ⟨c', d⟩ := r
  dsimp only at *
  have h : (x * d) * b = (c' * y) * b := by
    calc (x * d) * b = (x * b) * d := by rw [Int.mul_assoc, Int.mul_comm d b, ← Int.mul_assoc]
      _ = (t * y) * d := by rw [c]
      _ = (t * d) * y := by rw [Int.mul_assoc, Int.mul_comm y d, ← Int.mul_assoc]
      _ = (c' * b) * y := by rw [e]
      _ = (c' * y) * b := by rw [Int.mul_assoc, Int.mul_comm b y, ← Int.mul_assoc]
  exact Int.eq_of_mul_eq_mul_right hb h
theorem rt_one (a : Int) : Rt (a, 1) := ⟨by show (0:Int) < 1; decide, by simp⟩
theorem low_one (a : Int) : low a 1 = (a, 1) := low_eq (by decide) (rt_one a) rfl
/-- sums, differences, products, quotients -/
def addQ (r s : Int × Int) : Int × Int := low (r.1 * s.2 + s.1 * r.2) (r.2 * s.2)
def mulQ (r s : Int × Int) : Int × Int := low (r.1 * s.1) (r.2 * s.2)
def divQ (r s : Int × Int) : Int × Int := low (r.1 * s.2) (r.2 * s.1)
def negQ (r : Int × Int) : Int × Int := (-r.1, r.2)
theorem Rt.neg {r : Int × Int} (h : Rt r) : Rt (negQ r) := ⟨h.pos, by show Nat.gcd (-r.1).natAbs r.2.natAbs = 1; rw [Int.natAbs_neg]; exact h.cop⟩
theorem ne_of_pos2 {a b : Int} (h1 : 0 < a) (h2 : 0 < b) : a * b ≠ 0 := by
  have := Int.mul_pos h1 h2
  omega
theorem addQ_rt {r s : Int × Int} (hr : Rt r) (hs : Rt s) : Rt (addQ r s) := low_rt (ne_of_pos2 hr.pos hs.pos)
theorem mulQ_rt {r s : Int × Int} (hr : Rt r) (hs : Rt s) : Rt (mulQ r s) := low_rt (ne_of_pos2 hr.pos hs.pos)
theorem divQ_rt {r s : Int × Int} (hr : Rt r) (hs : Rt s) (h0 : s.1 ≠ 0) : Rt (divQ r s) := low_rt (Int.mul_ne_zero (by have := hr.pos; omega) h0)
theorem sub_back {r s : Int × Int} (hr : Rt r) (hs : Rt s) : addQ (addQ r s) (negQ s) = r := by
  have ht := addQ_rt hr hs
  have c := low_cross (t := r.1 * s.2 + s.1 * r.2) (ne_of_pos2 hr.pos hs.pos)
  refine low_eq (ne_of_pos2 ht.pos hs.pos) hr ?_
  show ((addQ r s).1 * s.2 + -s.1 * (addQ r s).2) * r.2 = r.1 * ((addQ r s).2 * s.2)
  have c' : (addQ r s).1 * (r.2 * s.2) = (r.1 * s.2 + s.1 * r.2) * (addQ r s).2 := c
  generalize (addQ r s).1 = x at *
  generalize (addQ r s).2 = y at *
  obtain ⟨a, b⟩ := r
  obtain ⟨c0, d⟩ := s
  dsimp only at *
  have e1 : (x * d + -c0 * y) * b = x * (b * d) - c0 * b * y := by
    rw [Int.add_mul, Int.mul_assoc, Int.mul_comm d b, Int.neg_mul, Int.neg_mul, Int.mul_assoc c0 y b, Int.mul_comm y b, ← Int.mul_assoc c0 b y]
    rfl
  rw [e1, c', Int.add_mul, Int.mul_assoc a d y, Int.mul_comm d y]
  omega
theorem div_back {r s : Int × Int} (hr : Rt r) (hs : Rt s) (h0 : s.1 ≠ 0) : divQ (mulQ r s) s = r := by
  have ht := mulQ_rt hr hs
  have c := low_cross (t := r.1 * s.1) (ne_of_pos2 hr.pos hs.pos)
  refine low_eq (Int.mul_ne_zero (by have := ht.pos; omega) h0) hr ?_
  show ((mulQ r s).1 * s.2) * r.2 = r.1 * ((mulQ r s).2 * s.1)
  have c' : (mulQ r s).1 * (r.2 * s.2) = (r.1 * s.1) * (mulQ r s).2 := c
  generalize (mulQ r s).1 = x at *
  generalize (mulQ r s).2 = y at *
  rw [Int.mul_assoc, Int.mul_comm s.2 r.2, c', Int.mul_assoc, Int.mul_comm s.1 y]
/-- bounds -/
theorem low_le {t b : Int} (h : b ≠ 0) : (low t b).1.natAbs ≤ t.natAbs ∧ (low t b).2.natAbs ≤ b.natAbs := by
  obtain ⟨e1, e2⟩ := low_parts (t := t) h
  have n := lowg_ne (t := t) h
  have a1 := congrArg Int.natAbs e1
  have a2 := congrArg Int.natAbs e2
  rw [Int.natAbs_mul] at a1 a2
  have g1 : 0 < (lowg t b).natAbs := Int.natAbs_pos.mpr n
  constructor
  · rw [a1]; exact Nat.le_mul_of_pos_left _ g1
  · rw [a2]; exact Nat.le_mul_of_pos_left _ g1
/-- the law's own gcd, one turn -/
theorem gcd_turn {a b : Int} (ha : 0 ≤ a) (hb : 0 < b) : gcdI b (a % b) = gcdI a b := by
  unfold gcdI
  have e1 : (a % b).natAbs = a.natAbs % b.natAbs := by
    have := Int.natAbs_emod_of_nonneg (b := b) ha
    exact this
  rw [e1, Nat.gcd_comm b.natAbs, ← Nat.gcd_rec, Nat.gcd_comm]
theorem gcd_end {a : Int} (ha : 0 ≤ a) : gcdI a 0 = a := by
  unfold gcdI
  simp
  omega
theorem gcd_abs (a b : Int) : gcdI (if a < 0 then -a else a) (if b < 0 then -b else b) = gcdI a b := by
  unfold gcdI
  have : ∀ x : Int, (if x < 0 then -x else x).natAbs = x.natAbs := fun x => by split <;> omega
  rw [this, this]
end K0
namespace K0
open PySem PySem.Spec PyProof.Rows L2
/-! ### the text -/
def topS (i : Nat) : Stmt := PySem.Challenge.pw_stepletters_k00_whole_ratios.main.body.getD i (.Pass ⟨0, 0, 0, 0⟩)
abbrev sIsWhole : Stmt := topS 4
abbrev sQuot : Stmt := topS 5
abbrev sReduced : Stmt := topS 6
abbrev sAdded : Stmt := topS 7
abbrev sMult : Stmt := topS 8
abbrev sWText : Stmt := topS 9
abbrev sQText : Stmt := topS 10
abbrev sIsInt : Stmt := topS 18
abbrev sIsRatio : Stmt := topS 19
abbrev sLowest : Stmt := topS 20
abbrev sPlus : Stmt := topS 21
abbrev sMinus : Stmt := topS 22
abbrev sTimes : Stmt := topS 23
abbrev sOver : Stmt := topS 24
abbrev sCompare : Stmt := topS 25
abbrev sRText : Stmt := topS 26
abbrev sCheck : Stmt := topS 27
abbrev sDice : Stmt := topS 29
abbrev sRoll : Stmt := topS 30
abbrev sPick : Stmt := topS 31
abbrev sNear : Stmt := topS 32
abbrev sGcd : Stmt := topS 33
abbrev sLLow : Stmt := topS 34
abbrev sLPlus : Stmt := topS 35
abbrev sLTimes : Stmt := topS 36
abbrev sDrawn : Stmt := topS 37
abbrev sTTold : Stmt := topS 38
abbrev sFault : Stmt := topS 39
abbrev sTwo : Stmt := topS 40
abbrev sRight : Stmt := topS 41
abbrev sLaw : Stmt := topS 42
/-- what the top has written: built-ins are themselves, constants -/
structure Txt (K : PySem.W.Frag) (mg : Str → Option Value) : Prop where
  int : mg "int" = none
  bool : mg "bool" = none
  tuple : mg "tuple" = none
  str : mg "str" = none
  isi : mg "isinstance" = none
  len : mg "len" = none
  abs : mg "abs" = none
  max : mg "max" = none
  min : mg "min" = none
  range : mg "range" = none
  repr : mg "repr" = none
  gcd : mg "gcd" = some (.builtin "math.gcd")
  block : ∃ t, mg "_BLOCK" = some (.int (10 ^ 64) t)
  limit : ∃ t, mg "_LIMIT" = some (.int (10 ^ 60) t)
/-! ### the dice -/
/-- a list of three ints, the first one at least 0 -/
def DiceL (L : List V) : Prop := ∃ a b c : Int, L = [.int a, .int b, .int c] ∧ 0 ≤ a
def spRoll : Sp := fun vs H Q _ => ∃ (d : Addr) (n : Int) (L : List V), vs = [.ref d, .int n] ∧ 0 < n ∧ n.natAbs < 2 ^ 500 ∧ H d = some (.lst L) ∧ DiceL L ∧
  ∀ (i : Int) (L' : List V), 0 ≤ i → i < n → DiceL L' → Q (.int i) (upd H d (.lst L'))
theorem scRoll : FnScope ["dice", "total", "found", "one", "two"] ["dice", "total"] (defScope sRoll) := ⟨rfl, rfl, rfl, by decide +kernel, rfl, by decide +kernel, by decide +kernel⟩
theorem bootInt : bootBuiltins "int" = some (.type "int") := by decide +kernel
section
variable {P : Program} {w : World} {K : PySem.W.Frag} {mg : Str → Option Value} {base : Heap}
theorem ok_roll {f : Addr} {fd : FuncData} (F : Fun K "_law_roll" "_law_roll" sRoll f fd) (T : Txt K mg) : FnOk P w K mg base CX0 1 f fd ["dice", "total"] spRoll := by
  refine F.ok scRoll (fun vs H Q E h => ?_) (fun cdv A outer s H vs Q E hr h => ?_)
  · obtain ⟨d, n, L, rfl, _⟩ := h; rfl
  obtain ⟨d, n, L, rfl, hn, hb, hd, ⟨a, b, c, rfl, ha⟩, k⟩ := h
  refine ⟨_, pss_cons (ps_if (pt_cmpR op_gt (pe_ix ix_list (pv 0) pe_int (fun _ _ => rfl)) pe_int (nomark _))
      (pss_cons (ps_set (i := 2) scRoll.nd rfl (.inl rfl) (pe_op op_mod (pe_callTy call_int1 (by rfl) T.int bootInt (pa_cons (pe_ix ix_list (pv 0) pe_int (fun _ _ => rfl)) pa_nil)) (pv 1)))
      (pss_cons (ps_asg (pe_op op_fdivW (pe_ix ix_list (pv 0) pe_int (fun _ _ => rfl)) (pv 1)) (pg_sub (pv 0) pe_int set_list))
      (pss_one (ps_ret (pv 2))))) pss_nil)
    (pss_cons (ps_asg (pe_op op_add (pe_ix ix_list (pv 0) pe_int (fun _ _ => rfl)) pe_int) (pg_sub (pv 0) pe_int set_list))
    (pss_cons (ps_set (i := 3) scRoll.nd rfl (.inl rfl) (pe_op op_mod (pe_callTy call_int1 (by rfl) T.int bootInt (pa_cons (pe_op op_add (pe_ix ix_list (pv 0) pe_int (fun _ _ => rfl)) (pe_op op_mul pe_int (pe_ix ix_list (pv 0) pe_int (fun _ _ => rfl)))) pa_nil)) pe_int))
    (pss_cons (ps_set (i := 4) scRoll.nd rfl (.inl rfl) (pe_op op_add (pe_op op_mul (pe_op op_mod (pe_callTy call_int1 (by rfl) T.int bootInt (pa_cons (pe_op op_add (pe_op op_mul (pv 3) (pv 3)) (pe_op op_mul pe_int (pe_ix ix_list (pv 0) pe_int (fun _ _ => rfl)))) pa_nil)) pe_int) pe_int) (pv 3)))
    (pss_one (ps_ret (pe_op op_mod (pe_callTy call_int1 (by rfl) T.int bootInt (pa_cons (pe_op op_fdiv (pv 4) pe_int) pa_nil)) (pv 1))))))), ?_⟩
  have S := SqL.of (K := K) hd
  refine ⟨_, rfl, d, _, _, _, rfl, rfl, S, rfl, _, _, rfl, rfl, _, rfl, ?_⟩
  refine ite2 (fun c0 => ?_) (fun c0 => ?_)
  · refine ⟨_, rfl, d, _, _, _, rfl, rfl, S, rfl, .inl ⟨_, rfl, _, rfl, _, _, rfl, rfl, hn, ?_⟩⟩
    refine ⟨_, rfl, d, _, _, _, rfl, rfl, S, rfl, _, rfl, _, _, rfl, rfl, wide_div hn hb (by decide) (by decide), _, rfl, d, _, _, 0, rfl, rfl, hd, rfl, _, rfl, ?_⟩
    refine k _ _ (Int.emod_nonneg _ (by omega)) (Int.emod_lt_of_pos _ hn) ⟨_, _, _, rfl, ?_⟩
    exact Int.ediv_nonneg ha (by omega)
  · refine ⟨_, rfl, d, _, _, _, rfl, rfl, S, rfl, _, _, rfl, rfl, _, rfl, d, _, _, 2, rfl, rfl, hd, rfl, ?_⟩
    have S2 := SqL.of (K := K) (upd_same (H := H) (a := d) (o := .lst [.int a, .int b, .int (c + 1)]))
    refine ⟨_, rfl, d, _, _, _, rfl, rfl, S2, rfl, _, rfl, d, _, _, _, rfl, rfl, S2, rfl, _, _, rfl, rfl, .inl ⟨by decide, by decide⟩, _, _, rfl, rfl, .inl ⟨_, rfl, _, _, rfl, rfl, (by show (0 : Int) < 2305843009213693723; decide), ?_⟩⟩
    have m1 := Int.emod_lt_of_pos (b + 67867979 * (c + 1)) (show (0 : Int) < 2305843009213693723 by decide)
    have m0 := Int.emod_nonneg (b + 67867979 * (c + 1)) (show (2305843009213693723 : Int) ≠ 0 by decide)
    generalize ez : (b + 67867979 * (c + 1)) % 2305843009213693723 = z at *
    refine ⟨_, rfl, _, rfl, _, _, rfl, rfl, .inl ⟨by omega, by omega⟩, _, rfl, d, _, _, _, rfl, rfl, S2, rfl, _, _, rfl, rfl, .inl ⟨by decide, by decide⟩, _, _, rfl, rfl, .inl ⟨_, rfl, _, _, rfl, rfl, (by show (0 : Int) < 2305843009213693549; decide), ?_⟩⟩
    have y1 := Int.emod_lt_of_pos (z * z + 103 * (c + 1)) (show (0 : Int) < 2305843009213693549 by decide)
    have y0 := Int.emod_nonneg (z * z + 103 * (c + 1)) (show (2305843009213693549 : Int) ≠ 0 by decide)
    generalize ey : (z * z + 103 * (c + 1)) % 2305843009213693549 = y at *
    refine ⟨_, _, rfl, rfl, .inl ⟨by omega, by omega⟩, _, rfl, _, _, rfl, rfl, ?_⟩
    refine ⟨_, rfl, _, _, rfl, rfl, ⟨by decide, by decide⟩, .inl ⟨_, rfl, _, rfl, _, _, rfl, rfl, hn, ?_⟩⟩
    exact k _ _ (Int.emod_nonneg _ (by omega)) (Int.emod_lt_of_pos _ hn) ⟨_, _, _, rfl, ha⟩
end
end K0
namespace K0
open PySem PySem.Spec PyProof.Rows L2
/-- // by any great int but 0 -/
def CDivA (_ j : Int) : Prop := j ≠ 0 ∧ j.natAbs < 2 ^ 500
theorem op_fdivA {X : Cx} : OpR X (binaryOp .FloorDiv) (rI CDivA fun i j => .int (i.fdiv j)) := opI fun _ _ _ _ _ _ _ c q =>
  floordiv_int c.1 q (.inl (PyProof.noPylong_of_log2 (Nat.lt_of_lt_of_le (PySem.Flt.log2_lt_of (by decide) c.2) (by decide : 500 ≤ 9000))))
theorem bootMax : bootBuiltins "max" = some (.builtin "max") := by decide +kernel
theorem bootAbs : bootBuiltins "abs" = some (.builtin "abs") := by decide +kernel
theorem bootStr : bootBuiltins "str" = some (.type "str") := by decide +kernel
def KeepBut (d : Addr) (H H' : Hp) : Prop := ∀ b o, b ≠ d → H b = some o → H' b = some o
theorem KeepBut.refl (d : Addr) (H : Hp) : KeepBut d H H := fun _ _ _ h => h
theorem KeepBut.trans {d : Addr} {H H1 H2 : Hp} (a : KeepBut d H H1) (b : KeepBut d H1 H2) : KeepBut d H H2 := fun c o n h => b c o n (a c o n h)
theorem KeepBut.upd {d : Addr} {H H1 : Hp} {o : HO} (a : KeepBut d H H1) : KeepBut d H (upd H1 d o) := fun c u n h => by rw [upd_ne n]; exact a c u n h
theorem KeepBut.new {d p : Addr} {H H1 : Hp} {o : HO} (a : KeepBut d H H1) (np : H1 p = none) : KeepBut d H (L2.upd H1 p o) := fun c u n h => by
  have e := a c u n h
  rw [upd_ne (ne_of_none e np)]
  exact e
theorem KeepBut.of {d : Addr} {H H1 : Hp} (a : Same H H1) : KeepBut d H H1 := fun c o _ h => a c o h
/-! ### making, picking, near -/
def spDice (K : PySem.W.Frag) : Sp := fun vs H Q _ => ∃ (a : Addr) (i : Int) (ns : List Int), vs = [.ref a, .int i] ∧ SqL K H a (ns.map V.int) ∧ 0 ≤ i ∧
  ∀ (L : List V) (p : Addr), DiceL L → H p = none → Q (.ref p) (upd H p (.lst L))
def spPick : Sp := fun vs H Q _ => ∃ (d l : Addr) (xs L : List V), vs = [.ref d, .ref l] ∧ H d = some (.lst L) ∧ DiceL L ∧ H l = some (.lst xs) ∧ l ≠ d ∧ xs ≠ [] ∧ xs.length < 1000 ∧
  ∀ (x : V) (L' : List V), x ∈ xs → DiceL L' → Q x (upd H d (.lst L'))
def spNear : Sp := fun vs H Q _ => ∃ (d : Addr) (m : Int) (L : List V), vs = [.ref d, .int m] ∧ 0 < m ∧ m.natAbs < 2 ^ 400 ∧ H d = some (.lst L) ∧ DiceL L ∧
  ∀ (i : Int) (L' : List V), -m ≤ i → i ≤ m → DiceL L' → Q (.int i) (upd H d (.lst L'))
theorem scDice : FnScope ["script", "spot", "cell", "left"] ["script", "spot"] (defScope sDice) := ⟨rfl, rfl, rfl, by decide +kernel, rfl, by decide +kernel, by decide +kernel⟩
theorem scPick : FnScope ["dice", "items"] ["dice", "items"] (defScope sPick) := ⟨rfl, rfl, rfl, by decide +kernel, rfl, by decide +kernel, by decide +kernel⟩
theorem scNear : FnScope ["dice", "most"] ["dice", "most"] (defScope sNear) := ⟨rfl, rfl, rfl, by decide +kernel, rfl, by decide +kernel, by decide +kernel⟩
theorem scGcd : FnScope ["one", "other"] ["one", "other"] (defScope sGcd) := ⟨rfl, rfl, rfl, by decide +kernel, rfl, by decide +kernel, by decide +kernel⟩
section
variable {P : Program} {w : World} {K : PySem.W.Frag} {mg : Str → Option Value} {base : Heap}
theorem ok_dice {f : Addr} {fd : FuncData} (F : Fun K "_law_dice" "_law_dice" sDice f fd) (T : Txt K mg) : FnOk P w K mg base CX0 1 f fd ["script", "spot"] (spDice K) := by
  refine F.ok scDice (fun vs H Q E h => ?_) (fun cdv A outer s H vs Q E hr h => ?_)
  · obtain ⟨d, n, L, rfl, _⟩ := h; rfl
  obtain ⟨a, i, ns, rfl, hS, hi, k⟩ := h
  refine ⟨_, pss_cons (ps_set (i := 2) scDice.nd rfl (.inl rfl) (pe_ifExp (pt_cmpR op_lt (pv 1) (pe_callB call_len_seq (by rfl) T.len PySem.boot_len (pa_cons (pv 0) pa_nil)) (nomark _))
      (pe_callTy call_int1 (by rfl) T.int bootInt (pa_cons (pe_ix ix_list (pv 0) (pv 1) (fun _ _ => rfl)) pa_nil)) (pe_op op_add (pe_op op_mul pe_int (pv 1)) pe_int)))
    (pss_cons (ps_set (i := 3) scDice.nd rfl (.inl rfl) (pe_op op_mod (pe_callB (call_max2 rfl) (by rfl) T.max bootMax (pa_cons pe_int (pa_cons (pe_op op_sub (pe_callB call_abs (by rfl) T.abs bootAbs (pa_cons (pv 2) pa_nil)) (pe_op op_pow pe_int pe_int)) pa_nil)))
        (pe_op op_mulW (pe_op op_pow pe_int pe_int) (pe_op op_pow pe_int pe_int))))
    (pss_one (ps_ret (pe_lst (pa_cons (pv 3) (pa_cons (pe_op op_add (pe_op op_add (pe_op op_add (pe_op op_mul (pe_op op_mod (pe_callB call_abs (by rfl) T.abs bootAbs (pa_cons (pv 2) pa_nil)) pe_int) pe_int) (pe_op op_mul pe_int (pv 1)))
        (pe_op op_mul pe_int (pe_callTy call_int1 (by rfl) T.int bootInt (pa_cons (pe_cmpR op_lt (pv 2) pe_int (nomark _)) pa_nil)))) pe_int) (pa_cons pe_int pa_nil))))))), ?_⟩
  have rest : ∀ (c : Int), tSeq (tAsg (tOp (rI (fun _ j => 0 < j) fun i j => .int (i % j)) (tCB (fun xs H Q => ∃ i j, xs = [.int i, .int j] ∧ Q (.int (if j > i then j else i)) H) (tCons (tC (.int 0)) (tCons (tOp (rI0 fun i j => .int (i - j)) (tCB (fun xs H Q => ∃ i, xs = [.int i] ∧ Q (.int (if i < 0 then -i else i)) H) (tCons (tVar 2) tNil)) (tOp (rI CPow fun i j => .int (i ^ j.toNat)) (tC (.int 10)) (tC (.int 17)))) tNil)))
        (tOp (rI CMulW fun i j => .int (i * j)) (tOp (rI CPow fun i j => .int (i ^ j.toNat)) (tC (.int 10)) (tC (.int 58))) (tOp (rI CPow fun i j => .int (i ^ j.toNat)) (tC (.int 10)) (tC (.int 60))))) (gName 3))
      (tRet (tLst (tCons (tVar 3) (tCons (tOp (rI0 fun i j => .int (i + j)) (tOp (rI0 fun i j => .int (i + j)) (tOp (rI0 fun i j => .int (i + j)) (tOp (rI CMul fun i j => .int (i * j)) (tOp (rI (fun _ j => 0 < j) fun i j => .int (i % j)) (tCB (fun xs H Q => ∃ i, xs = [.int i] ∧ Q (.int (if i < 0 then -i else i)) H) (tCons (tVar 2) tNil)) (tC (.int 1152921504606846883))) (tC (.int 67))) (tOp (rI CMul fun i j => .int (i * j)) (tC (.int 937)) (tVar 1)))
        (tOp (rI CMul fun i j => .int (i * j)) (tC (.int 37)) (tCB (fun xs H Q => (∃ i, xs = [.int i] ∧ Q (.int i) H) ∨ ∃ k, xs = [.bl k] ∧ Q (.int (if k then 1 else 0)) H) (tCons (tOp (rI0 fun i j => .bl (decide (i < j))) (tVar 2) (tC (.int 0))) tNil)))) (tC (.int 29))) (tCons (tC (.int 0)) tNil)))))
      { nx := fun _ H' => Q .non H', rt := Q } [some (.ref a), some (.int i), some (.int c), none] H := fun c => by
    have pw : ∀ k : Int, 0 ≤ k → k ≤ 1000000 → CPow 10 k := fun k h1 h2 => ⟨h1, h2, by decide⟩
    refine ⟨_, rfl, _, rfl, _, _, rfl, rfl, pw _ (by decide) (by decide), _, _, rfl, rfl, _, _, rfl, _, _, rfl, rfl, pw _ (by decide) (by decide), _, _, rfl, rfl, pw _ (by decide) (by decide), _, _, rfl, rfl,
      wide_mul (i := 10 ^ (58 : Int).toNat) (j := 10 ^ (60 : Int).toNat) (a := 300) (b := 300) (by decide +kernel) (by decide +kernel) (by decide) (by decide) (by decide), _, _, rfl, rfl, (by show (0 : Int) < 10 ^ (58 : Int).toNat * 10 ^ (60 : Int).toNat; decide +kernel), ?_⟩
    have nn := Int.emod_nonneg (if (if c < 0 then -c else c) - 10 ^ (17 : Int).toNat > 0 then (if c < 0 then -c else c) - 10 ^ (17 : Int).toNat else 0) (show (10 : Int) ^ (58 : Int).toNat * 10 ^ (60 : Int).toNat ≠ 0 by decide +kernel)
    have m1 := Int.emod_lt_of_pos (if c < 0 then -c else c) (show (0 : Int) < 1152921504606846883 by decide)
    have m0 := Int.emod_nonneg (if c < 0 then -c else c) (show (1152921504606846883 : Int) ≠ 0 by decide)
    refine ⟨_, rfl, _, rfl, _, rfl, _, _, rfl, rfl, (by show (0 : Int) < 1152921504606846883; decide), _, _, rfl, rfl, .inr ⟨by decide, by decide⟩, _, rfl, _, _, rfl, rfl, .inl ⟨by decide, by decide⟩, _, _, rfl, rfl, _, rfl, _, _, rfl, rfl, .inr ⟨_, rfl, _, _, rfl, rfl, .inl ⟨by decide, by decide⟩, _, _, rfl, rfl, _, _, rfl, rfl, ?_⟩⟩
    exact ⟨by show 3 ≤ sizeLine; decide, fun p hp => k _ p ⟨_, _, _, rfl, nn⟩ hp⟩
  refine ⟨_, rfl, _, rfl, a, _, rfl, .inl hS, _, _, rfl, rfl, _, rfl, ?_⟩
  refine ite2 (fun c0 => ?_) (fun c0 => ?_)
  · have c1 : i < ((ns.map V.int).length : Int) := of_decide_eq_true c0
    rw [List.length_map] at c1
    have c2 : i.toNat < ns.length := by omega
    have e : (ns.map V.int)[i.toNat]? = some (.int ns[i.toNat]) := by rw [List.getElem?_map, List.getElem?_eq_getElem c2]; rfl
    exact ⟨_, rfl, _, rfl, a, _, _, _, rfl, rfl, hS, at_of (by omega) e, .inl ⟨_, rfl, rest _⟩⟩
  · exact ⟨_, rfl, _, _, rfl, rfl, .inl ⟨by decide, by decide⟩, _, _, rfl, rfl, rest _⟩
theorem ok_pick {f fR : Addr} {fd fdR : FuncData} (F : Fun K "_law_pick" "_law_pick" sPick f fd) (T : Txt K mg) (gR : mg "_law_roll" = some (.ref fR)) (kR : PySem.W.keepIn K (.ref fR) = true) (bR : Binds K fdR ["dice", "total"] [])
    (R : FnOk P w K mg base CX0 1 fR fdR ["dice", "total"] spRoll) : FnOk P w K mg base CX0 2 f fd ["dice", "items"] spPick := by
  refine F.ok scPick (fun vs H Q E h => ?_) (fun cdv A outer s H vs Q E hr h => ?_)
  · obtain ⟨d, n, L, M, rfl, _⟩ := h; rfl
  obtain ⟨d, l, xs, L, rfl, hd, hL, hl, ne, h0, hz, k⟩ := h
  refine ⟨_, pss_one (ps_ret (pe_ix ix_list (pv 1) (pe_call R hr (by rfl) gR kR bR .nil pass0 (pa_cons (pv 0) (pa_cons (pe_callB call_len_seq (by rfl) T.len PySem.boot_len (pa_cons (pv 1) pa_nil)) pa_nil))) (fun _ _ => rfl))), ?_⟩
  have hp : 0 < xs.length := List.length_pos_iff.mpr h0
  refine ⟨_, rfl, _, rfl, _, rfl, l, _, rfl, .inl (SqL.of hl), d, (xs.length : Int), L, rfl, by omega, Nat.lt_trans (by omega : (xs.length : Int).natAbs < 1000) (by decide), hd, hL, fun i L' i0 i1 hL' => ?_⟩
  have hx : xs[i.toNat]? = some xs[i.toNat] := List.getElem?_eq_getElem (by omega)
  exact ⟨l, _, _, _, rfl, rfl, SqL.of (by rw [upd_ne ne]; exact hl), at_of (by omega) hx, k _ L' (List.getElem_mem _) hL'⟩
theorem ok_near {f fR : Addr} {fd fdR : FuncData} (F : Fun K "_law_near" "_law_near" sNear f fd) (T : Txt K mg) (gR : mg "_law_roll" = some (.ref fR)) (kR : PySem.W.keepIn K (.ref fR) = true) (bR : Binds K fdR ["dice", "total"] [])
    (R : FnOk P w K mg base CX0 1 fR fdR ["dice", "total"] spRoll) : FnOk P w K mg base CX0 2 f fd ["dice", "most"] spNear := by
  refine F.ok scNear (fun vs H Q E h => ?_) (fun cdv A outer s H vs Q E hr h => ?_)
  · obtain ⟨d, n, L, rfl, _⟩ := h; rfl
  obtain ⟨d, m, L, rfl, hm, hb, hd, hL, k⟩ := h
  refine ⟨_, pss_one (ps_ret (pe_op op_sub (pe_call R hr (by rfl) gR kR bR .nil pass0 (pa_cons (pv 0) (pa_cons (pe_op op_add (pe_op op_mul pe_int (pv 1)) pe_int) pa_nil))) (pv 1))), ?_⟩
  have e5 : (2 * m + 1).natAbs < 2 ^ 500 := Nat.lt_of_lt_of_le (by omega : (2 * m + 1).natAbs < 2 * 2 ^ 400 + 2) (by decide)
  refine ⟨_, rfl, _, rfl, _, _, rfl, rfl, .inl ⟨by decide, by decide⟩, _, _, rfl, rfl, d, _, L, rfl, by omega, e5, hd, hL, fun i L' i0 i1 hL' => ?_⟩
  exact ⟨_, rfl, _, _, rfl, rfl, k _ L' (by omega) (by omega) hL'⟩
end
/-! ### the law's own gcd -/
def spGcd : Sp := fun vs H Q _ => ∃ (a b : Int), vs = [.int a, .int b] ∧ Q (.int (gcdI a b)) H
section
variable {P : Program} {w : World} {K : PySem.W.Frag} {mg : Str → Option Value} {base : Heap}
theorem ok_gcd {f : Addr} {fd : FuncData} (F : Fun K "_law_gcd" "_law_gcd" sGcd f fd) (T : Txt K mg) : FnOk P w K mg base CX0 1 f fd ["one", "other"] spGcd := by
  refine F.ok scGcd (fun vs H Q E h => ?_) (fun cdv A outer s H vs Q E hr h => ?_)
  · obtain ⟨a, b, rfl, _⟩ := h; rfl
  obtain ⟨a, b, rfl, k⟩ := h
  refine ⟨_, pss_cons (ps_par (i := 0) (j := 1) rfl scGcd.nd rfl rfl (by decide) rfl rfl (pa_cons (pe_callB call_abs (by rfl) T.abs bootAbs (pa_cons (pv 0) pa_nil)) (pa_cons (pe_callB call_abs (by rfl) T.abs bootAbs (pa_cons (pv 1) pa_nil)) pa_nil)) (by rfl))
    (pss_cons (ps_while PassesOwn.never (pt_cmpR op_gt (pv 1) pe_int (nomark _)) (pss_one (ps_par (i := 0) (j := 1) rfl scGcd.nd rfl rfl (by decide) rfl rfl (pa_cons (pv 1) (pa_cons (pe_op op_mod (pe_callTy call_int1 (by rfl) T.int bootInt (pa_cons (pv 0) pa_nil)) (pv 1)) pa_nil)) (by rfl))))
    (pss_one (ps_ret (pv 0)))), ?_⟩
  refine ⟨_, rfl, _, rfl, _, rfl, _, rfl, _, _, rfl, ?_⟩
  have hg := gcd_abs a b
  have p0 : 0 ≤ (if a < 0 then -a else a) := by split <;> omega
  have p1 : 0 ≤ (if b < 0 then -b else b) := by split <;> omega
  generalize (if a < 0 then -a else a) = x at *
  generalize (if b < 0 then -b else b) = y at *
  refine while_by (fun σ H' => H' = H ∧ ∃ x y : Int, σ = [some (.int x), some (.int y)] ∧ 0 ≤ x ∧ 0 ≤ y ∧ gcdI x y = gcdI a b) (fun σ _ => match σ with | [_, some (.int y)] => y.toNat | _ => 0) ⟨rfl, x, y, rfl, p0, p1, hg⟩ ?_ ?_
  · rintro σ H' ⟨rfl, x, y, rfl, hx, hy, e⟩
    refine ⟨_, rfl, _, _, rfl, rfl, _, rfl, ite2 (fun c => ?_) (fun c => ?_)⟩
    · have c' : 0 < y := of_decide_eq_true c
      refine ⟨_, rfl, _, rfl, .inl ⟨_, rfl, _, rfl, _, _, rfl, rfl, c', _, _, rfl, ?_⟩⟩
      refine ⟨⟨rfl, y, x % y, rfl, hy, Int.emod_nonneg _ (by omega), (gcd_turn hx c').trans e⟩, ?_⟩
      have := Int.emod_lt_of_pos x c'
      have := Int.emod_nonneg x (show y ≠ 0 by omega)
      show (x % y).toNat < y.toNat
      omega
    · have c' : ¬ 0 < y := fun z => c (decide_eq_true z)
      have e0 : y = 0 := by omega
      rw [e0, gcd_end hx] at e
      refine ⟨_, rfl, ?_⟩
      rw [e]
      exact k
  · rintro σ H' Q1 Q2 hq ⟨v, hv, i, j, e1, e2, b, hb, q⟩
    exact ⟨v, hv, i, j, e1, e2, b, hb, hq _ _ q⟩
end
end K0
namespace K0
open PySem PySem.Spec PyProof.Rows L2
/-- a ratio as a tuple -/
def qT (r : Int × Int) : HO := .tup [.int r.1, .int r.2]
def IsR (K : PySem.W.Frag) (H : Hp) (p : Addr) (r : Int × Int) : Prop := SqT K H p [.int r.1, .int r.2]
theorem IsR.of {K : PySem.W.Frag} {H : Hp} {p : Addr} {r : Int × Int} (h : H p = some (qT r)) : IsR K H p r := SqT.of h
/-- ratios of at most sixty digits -/
structure Md (r : Int × Int) : Prop where
  rt : Rt r
  top : r.1.natAbs < 10 ^ 60
  bot : r.2.natAbs < 10 ^ 60
/-- drawn ratios -/
structure Sm (r : Int × Int) : Prop where
  rt : Rt r
  top : r.1.natAbs ≤ 10 ^ 20
  bot : r.2.natAbs ≤ 10 ^ 15
theorem Sm.md {r : Int × Int} (h : Sm r) : Md r := ⟨h.rt, Nat.lt_of_le_of_lt h.top (by decide), Nat.lt_of_le_of_lt h.bot (by decide)⟩
theorem mul_lt60 {a b : Int} (ha : a.natAbs < 10 ^ 60) (hb : b.natAbs < 10 ^ 60) : (a * b).natAbs < 2 ^ 400 := by
  rw [Int.natAbs_mul]
  exact Nat.lt_of_lt_of_le (Nat.mul_lt_mul'' ha hb) (by decide)
theorem add_lt {a b : Int} (ha : a.natAbs < 2 ^ 400) (hb : b.natAbs < 2 ^ 400) : (a + b).natAbs < 2 ^ 450 := by
  have h : (a + b).natAbs ≤ a.natAbs + b.natAbs := Int.natAbs_add_le a b
  exact Nat.lt_of_lt_of_le (by omega : (a + b).natAbs < 2 ^ 400 + 2 ^ 400) (by decide)
theorem lt450 {a : Int} (h : a.natAbs < 2 ^ 400) : a.natAbs < 2 ^ 450 := Nat.lt_of_lt_of_le h (by decide)
theorem mulW60 {a b : Int} (ha : a.natAbs < 10 ^ 60) (hb : b.natAbs < 10 ^ 60) : CMulW a b :=
  wide_mul (a := 200) (b := 200) (Nat.lt_of_lt_of_le ha (by decide)) (Nat.lt_of_lt_of_le hb (by decide)) (by decide) (by decide) (by decide)
theorem divA_of {t b : Int} (h : b ≠ 0) (hb : b.natAbs < 2 ^ 450) (x : Int) : CDivA x (lowg t b) := by
  refine ⟨lowg_ne h, ?_⟩
  have e : (lowg t b).natAbs ≤ b.natAbs := by
    rw [lowg_abs]
    exact Nat.gcd_le_right _ (Int.natAbs_pos.mpr h)
  exact Nat.lt_of_le_of_lt e (Nat.lt_of_lt_of_le hb (by decide))
def spLow : Sp := fun vs H Q _ => ∃ (t b : Int), vs = [.int t, .int b] ∧ b ≠ 0 ∧ b.natAbs < 2 ^ 450 ∧ ∀ p, H p = none → Q (.ref p) (upd H p (qT (low t b)))
def spAdd (K : PySem.W.Frag) : Sp := fun vs H Q _ => ∃ (p q : Addr) (r s : Int × Int), vs = [.ref p, .ref q] ∧ IsR K H p r ∧ IsR K H q s ∧ Md r ∧ Md s ∧ ∀ z, H z = none → Q (.ref z) (upd H z (qT (addQ r s)))
def spMul (K : PySem.W.Frag) : Sp := fun vs H Q _ => ∃ (p q : Addr) (r s : Int × Int), vs = [.ref p, .ref q] ∧ IsR K H p r ∧ IsR K H q s ∧ Md r ∧ Md s ∧ ∀ z, H z = none → Q (.ref z) (upd H z (qT (mulQ r s)))
def spDrawn : Sp := fun vs H Q _ => ∃ (d : Addr) (L : List V), vs = [.ref d] ∧ H d = some (.lst L) ∧ DiceL L ∧
  ∀ (H' : Hp) (p : Addr) (r : Int × Int) (L' : List V), Sm r → DiceL L' → H' d = some (.lst L') → H' p = some (qT r) → H p = none → KeepBut d H H' → Q (.ref p) H'
theorem scLLow : FnScope ["top", "bottom", "part"] ["top", "bottom"] (defScope sLLow) := ⟨rfl, rfl, rfl, by decide +kernel, rfl, by decide +kernel, by decide +kernel⟩
theorem scLPlus : FnScope ["one", "other"] ["one", "other"] (defScope sLPlus) := ⟨rfl, rfl, rfl, by decide +kernel, rfl, by decide +kernel, by decide +kernel⟩
theorem scLTimes : FnScope ["one", "other"] ["one", "other"] (defScope sLTimes) := ⟨rfl, rfl, rfl, by decide +kernel, rfl, by decide +kernel, by decide +kernel⟩
theorem scDrawn : FnScope ["dice", "most"] ["dice"] (defScope sDrawn) := ⟨rfl, rfl, rfl, by decide +kernel, rfl, by decide +kernel, by decide +kernel⟩
section
variable {P : Program} {w : World} {K : PySem.W.Frag} {mg : Str → Option Value} {base : Heap}
theorem ok_llow {f fG : Addr} {fd fdG : FuncData} (F : Fun K "_law_lowest" "_law_lowest" sLLow f fd) (gG : mg "_law_gcd" = some (.ref fG)) (kG : PySem.W.keepIn K (.ref fG) = true) (bG : Binds K fdG ["one", "other"] [])
    (G : FnOk P w K mg base CX0 1 fG fdG ["one", "other"] spGcd) : FnOk P w K mg base CX0 2 f fd ["top", "bottom"] spLow := by
  refine F.ok scLLow (fun vs H Q E h => ?_) (fun cdv A outer s H vs Q E hr h => ?_)
  · obtain ⟨a, b, rfl, _⟩ := h; rfl
  obtain ⟨t, b, rfl, h0, hb, k⟩ := h
  refine ⟨_, pss_cons (ps_set (i := 2) scLLow.nd rfl (.inl rfl) (pe_call G hr (by rfl) gG kG bG .nil pass0 (pa_cons (pv 0) (pa_cons (pv 1) pa_nil))))
    (pss_cons (ps_set (i := 2) scLLow.nd rfl (.inl rfl) (pe_ifExp (pt_cmpR op_gt (pv 1) pe_int (nomark _)) (pv 2) (pe_op op_sub pe_int (pv 2))))
    (pss_one (ps_ret (pe_tup (pa_cons (pe_op op_fdivA (pv 0) (pv 2)) (pa_cons (pe_op op_fdivA (pv 1) (pv 2)) pa_nil)))))), ?_⟩
  refine ⟨_, rfl, _, rfl, t, b, rfl, _, rfl, _, _, rfl, rfl, _, rfl, ite2 (fun c => ?_) (fun c => ?_)⟩
  · have c' : 0 < b := of_decide_eq_true c
    have e : lowg t b = gcdI t b := if_neg (by omega)
    have cd := fun x => divA_of (t := t) h0 hb x
    rw [e] at cd
    refine ⟨_, rfl, _, rfl, _, rfl, _, _, rfl, rfl, cd _, _, rfl, _, rfl, _, _, rfl, rfl, cd _, (by show 2 ≤ sizeLine; decide), fun p hp => ?_⟩
    have q := k p hp
    unfold qT low at q
    rw [e] at q
    exact q
  · have c' : ¬ 0 < b := fun z => c (decide_eq_true z)
    have e : lowg t b = 0 - gcdI t b := by
      unfold lowg
      rw [if_pos (by omega)]
      omega
    have cd := fun x => divA_of (t := t) h0 hb x
    rw [e] at cd
    refine ⟨_, rfl, _, _, rfl, rfl, _, rfl, _, rfl, _, _, rfl, rfl, cd _, _, rfl, _, rfl, _, _, rfl, rfl, cd _, (by show 2 ≤ sizeLine; decide), fun p hp => ?_⟩
    have q := k p hp
    unfold qT low at q
    rw [e] at q
    exact q
theorem ok_lplus {f fG : Addr} {fd fdG : FuncData} (F : Fun K "_law_plus" "_law_plus" sLPlus f fd) (gG : mg "_law_lowest" = some (.ref fG)) (kG : PySem.W.keepIn K (.ref fG) = true) (bG : Binds K fdG ["top", "bottom"] [])
    (G : FnOk P w K mg base CX0 2 fG fdG ["top", "bottom"] spLow) : FnOk P w K mg base CX0 3 f fd ["one", "other"] (spAdd K) := by
  refine F.ok scLPlus (fun vs H Q E h => ?_) (fun cdv A outer s H vs Q E hr h => ?_)
  · obtain ⟨a, b, r, s, rfl, _⟩ := h; rfl
  obtain ⟨p, q, r, s, rfl, hp, hq, mr, ms, k⟩ := h
  refine ⟨_, pss_one (ps_ret (pe_call G hr (by rfl) gG kG bG .nil pass0 (pa_cons (pe_op op_add (pe_op op_mulW (pe_ix ix_tup (pv 0) pe_int (fun _ _ => rfl)) (pe_ix ix_tup (pv 1) pe_int (fun _ _ => rfl))) (pe_op op_mulW (pe_ix ix_tup (pv 1) pe_int (fun _ _ => rfl)) (pe_ix ix_tup (pv 0) pe_int (fun _ _ => rfl))))
    (pa_cons (pe_op op_mulW (pe_ix ix_tup (pv 0) pe_int (fun _ _ => rfl)) (pe_ix ix_tup (pv 1) pe_int (fun _ _ => rfl))) pa_nil)))), ?_⟩
  refine ⟨_, rfl, p, _, _, _, rfl, rfl, hp, rfl, _, rfl, q, _, _, _, rfl, rfl, hq, rfl, _, _, rfl, rfl, mulW60 mr.top ms.bot, _, rfl, q, _, _, _, rfl, rfl, hq, rfl, _, rfl, p, _, _, _, rfl, rfl, hp, rfl, _, _, rfl, rfl, mulW60 ms.top mr.bot, _, _, rfl, rfl,
    _, rfl, p, _, _, _, rfl, rfl, hp, rfl, _, rfl, q, _, _, _, rfl, rfl, hq, rfl, _, _, rfl, rfl, mulW60 mr.bot ms.bot, _, _, rfl, ne_of_pos2 mr.rt.pos ms.rt.pos, lt450 (mul_lt60 mr.bot ms.bot), k⟩
theorem ok_ltimes {f fG : Addr} {fd fdG : FuncData} (F : Fun K "_law_times" "_law_times" sLTimes f fd) (gG : mg "_law_lowest" = some (.ref fG)) (kG : PySem.W.keepIn K (.ref fG) = true) (bG : Binds K fdG ["top", "bottom"] [])
    (G : FnOk P w K mg base CX0 2 fG fdG ["top", "bottom"] spLow) : FnOk P w K mg base CX0 3 f fd ["one", "other"] (spMul K) := by
  refine F.ok scLTimes (fun vs H Q E h => ?_) (fun cdv A outer s H vs Q E hr h => ?_)
  · obtain ⟨a, b, r, s, rfl, _⟩ := h; rfl
  obtain ⟨p, q, r, s, rfl, hp, hq, mr, ms, k⟩ := h
  refine ⟨_, pss_one (ps_ret (pe_call G hr (by rfl) gG kG bG .nil pass0 (pa_cons (pe_op op_mulW (pe_ix ix_tup (pv 0) pe_int (fun _ _ => rfl)) (pe_ix ix_tup (pv 1) pe_int (fun _ _ => rfl)))
    (pa_cons (pe_op op_mulW (pe_ix ix_tup (pv 0) pe_int (fun _ _ => rfl)) (pe_ix ix_tup (pv 1) pe_int (fun _ _ => rfl))) pa_nil)))), ?_⟩
  exact ⟨_, rfl, p, _, _, _, rfl, rfl, hp, rfl, _, rfl, q, _, _, _, rfl, rfl, hq, rfl, _, _, rfl, rfl, mulW60 mr.top ms.top,
    _, rfl, p, _, _, _, rfl, rfl, hp, rfl, _, rfl, q, _, _, _, rfl, rfl, hq, rfl, _, _, rfl, rfl, mulW60 mr.bot ms.bot, _, _, rfl, ne_of_pos2 mr.rt.pos ms.rt.pos, lt450 (mul_lt60 mr.bot ms.bot), k⟩
theorem ok_drawn {f fP fL fN fR : Addr} {fd fdP fdL fdN fdR : FuncData} (F : Fun K "_law_ratio_drawn" "_law_ratio_drawn" sDrawn f fd)
    (gP : mg "_law_pick" = some (.ref fP)) (kP : PySem.W.keepIn K (.ref fP) = true) (bP : Binds K fdP ["dice", "items"] []) (FP : FnOk P w K mg base CX0 2 fP fdP ["dice", "items"] spPick)
    (gL : mg "_law_lowest" = some (.ref fL)) (kL : PySem.W.keepIn K (.ref fL) = true) (bL : Binds K fdL ["top", "bottom"] []) (FL : FnOk P w K mg base CX0 2 fL fdL ["top", "bottom"] spLow)
    (gN : mg "_law_near" = some (.ref fN)) (kN : PySem.W.keepIn K (.ref fN) = true) (bN : Binds K fdN ["dice", "most"] []) (FN : FnOk P w K mg base CX0 2 fN fdN ["dice", "most"] spNear)
    (gR : mg "_law_roll" = some (.ref fR)) (kR : PySem.W.keepIn K (.ref fR) = true) (bR : Binds K fdR ["dice", "total"] []) (FR : FnOk P w K mg base CX0 1 fR fdR ["dice", "total"] spRoll) :
    FnOk P w K mg base CX0 3 f fd ["dice"] spDrawn := by
  refine F.ok scDrawn (fun vs H Q E h => ?_) (fun cdv A outer s H vs Q E hr h => ?_)
  · obtain ⟨d, L, rfl, _⟩ := h; rfl
  obtain ⟨d, L, rfl, hd, hL, k⟩ := h
  have hr1 : Room 1 _ := hr.mono (by decide)
  refine ⟨_, pss_cons (ps_set (i := 1) scDrawn.nd rfl (.inl rfl) (pe_call FP hr (by rfl) gP kP bP .nil pass0 (pa_cons (pv 0) (pa_cons (pe_lst (pa_cons pe_int (pa_cons pe_int (pa_cons pe_int (pa_cons pe_int (pa_cons (pe_op op_pow pe_int pe_int) pa_nil)))))) pa_nil))))
    (pss_one (ps_ret (pe_call FL hr (by rfl) gL kL bL .nil pass0 (pa_cons (pe_call FN hr (by rfl) gN kN bN .nil pass0 (pa_cons (pv 0) (pa_cons (pv 1) pa_nil)))
      (pa_cons (pe_op op_add pe_int (pe_call FR hr1 (by rfl) gR kR bR .nil pass0 (pa_cons (pv 0) (pa_cons (pe_call FP hr (by rfl) gP kP bP .nil pass0 (pa_cons (pv 0) (pa_cons (pe_lst (pa_cons pe_int (pa_cons pe_int (pa_cons pe_int (pa_cons pe_int (pa_cons (pe_op op_pow pe_int pe_int) pa_nil)))))) pa_nil))) pa_nil)))) pa_nil))))), ?_⟩
  have pw : ∀ k : Int, 0 ≤ k → k ≤ 1000000 → CPow 10 k := fun k h1 h2 => ⟨h1, h2, by decide⟩
  refine ⟨_, rfl, _, _, rfl, rfl, pw _ (by decide) (by decide), (by show 5 ≤ sizeLine; decide), fun l hl => ?_⟩
  have ne1 : d ≠ l := ne_of_none hd hl
  refine ⟨d, l, _, L, rfl, by rw [upd_ne ne1]; exact hd, hL, upd_same, Ne.symm ne1, by simp, by simp, fun x L1 hx hL1 => ?_⟩
  obtain ⟨m, rfl, m0, m1⟩ : ∃ m : Int, x = .int m ∧ 0 < m ∧ m ≤ 10 ^ 20 := by
    simp only [List.mem_cons, List.not_mem_nil, or_false] at hx
    rcases hx with e | e | e | e | e
    · exact ⟨_, e, by decide, by decide⟩
    · exact ⟨_, e, by decide, by decide⟩
    · exact ⟨_, e, by decide, by decide⟩
    · exact ⟨_, e, by decide, by decide⟩
    · exact ⟨_, e, by decide +kernel, by decide +kernel⟩
  have mb : m.natAbs < 2 ^ 400 := Nat.lt_of_le_of_lt (by omega : m.natAbs ≤ 10 ^ 20) (by decide)
  refine ⟨_, rfl, _, rfl, d, m, L1, rfl, m0, mb, upd_same, hL1, fun i L2' i0 i1 hL2 => ?_⟩
  rw [upd_upd]
  refine ⟨_, rfl, _, rfl, _, _, rfl, rfl, pw _ (by decide) (by decide), (by show 5 ≤ sizeLine; decide), fun l2 hl2 => ?_⟩
  have hd2 : upd (upd H l (.lst [.int 2, .int 5, .int 30, .int 30, .int (10 ^ (20 : Int).toNat)])) d (.lst L2') d = some (.lst L2') := upd_same
  have ne2 : d ≠ l2 := ne_of_none hd2 hl2
  refine ⟨d, l2, _, L2', rfl, by rw [upd_ne ne2]; exact hd2, hL2, upd_same, Ne.symm ne2, by simp, by simp, fun x L3 hx hL3 => ?_⟩
  obtain ⟨n, rfl, n0, n1⟩ : ∃ m : Int, x = .int m ∧ 0 < m ∧ m ≤ 10 ^ 15 := by
    simp only [List.mem_cons, List.not_mem_nil, or_false] at hx
    rcases hx with e | e | e | e | e
    · exact ⟨_, e, by decide, by decide⟩
    · exact ⟨_, e, by decide, by decide⟩
    · exact ⟨_, e, by decide, by decide⟩
    · exact ⟨_, e, by decide, by decide⟩
    · exact ⟨_, e, by decide +kernel, by decide +kernel⟩
  refine ⟨d, n, L3, rfl, n0, Nat.lt_of_le_of_lt (by omega : n.natAbs ≤ 10 ^ 15) (by decide), upd_same, hL3, fun j L4 j0 j1 hL4 => ?_⟩
  rw [upd_upd]
  refine ⟨_, _, rfl, rfl, i, 1 + j, rfl, by omega, Nat.lt_of_le_of_lt (by omega : (1 + j).natAbs ≤ 10 ^ 15) (by decide), fun p hp => ?_⟩
  have b0 : (1 + j : Int) ≠ 0 := by omega
  have le := low_le (t := i) b0
  have kb : KeepBut d H (upd (upd (upd (upd H l (.lst [.int 2, .int 5, .int 30, .int 30, .int (10 ^ (20 : Int).toNat)])) d (.lst L2')) l2 (.lst [.int 1, .int 2, .int 6, .int 6, .int (10 ^ (15 : Int).toNat)])) d (.lst L4)) :=
    (((KeepBut.refl d H).new hl).upd.new hl2).upd
  have hdp : upd (upd (upd (upd H l (.lst [.int 2, .int 5, .int 30, .int 30, .int (10 ^ (20 : Int).toNat)])) d (.lst L2')) l2 (.lst [.int 1, .int 2, .int 6, .int 6, .int (10 ^ (15 : Int).toNat)])) d (.lst L4) d = some (.lst L4) := upd_same
  refine k _ p _ L4 ⟨low_rt b0, Nat.le_trans le.1 (by omega), Nat.le_trans le.2 (by omega)⟩ hL4 ?_ upd_same ?_ (kb.new hp)
  · rw [upd_ne (ne_of_none hdp hp)]
    exact hdp
  · cases e : H p with
    | none => rfl
    | some o =>
      by_cases z : p = d
      · rw [z, hdp] at hp; cases hp
      · rw [kb p o z e] at hp; cases hp
end
end K0
namespace K0
open PySem PySem.Spec PyProof.Rows L2
def num (i : Int) : Str := Str.ofString (toString i)
def txt (r : Int × Int) : Str := num r.1 ++ (if r.2 = 1 then Str.ofString "" else Str.ofString "/" ++ num r.2)
theorem num_len {i : Int} (h : i.natAbs < 10 ^ 60) : (num i).length ≤ 61 := by
  unfold num
  rw [PySem.ofString_length]
  exact int_text_length_le10 (by decide) h
theorem log_60 {i : Int} (h : i.natAbs < 10 ^ 60) : i.natAbs.log2 < 1920 := Nat.lt_of_lt_of_le (PySem.Flt.log2_lt_of (k := 200) (by decide) (Nat.lt_of_lt_of_le h (by decide))) (by decide)
theorem sl {n : Nat} (h : n ≤ 1000) : n ≤ sizeLine := by
  rw [sizeLine_eq]
  omega
theorem txt_one {r : Int × Int} (h : r.2 = 1) : txt r = num r.1 := by
  unfold txt
  rw [if_pos h]
  exact Str.append_empty _
theorem txt_two {r : Int × Int} (h : ¬ r.2 = 1) : txt r = num r.1 ++ Str.ofString "/" ++ num r.2 := by
  unfold txt
  rw [if_neg h, Str.append_assoc]
def spTxt (K : PySem.W.Frag) : Sp := fun vs H Q _ => ∃ (p : Addr) (r : Int × Int), vs = [.ref p] ∧ IsR K H p r ∧ Md r ∧ Q (.str (txt r)) H
def spW : Sp := fun vs H Q _ => ∃ i : Int, vs = [.int i] ∧ i.natAbs < 10 ^ 60 ∧ Q (.str (num i)) H
theorem scTTold : FnScope ["ratio"] ["ratio"] (defScope sTTold) := ⟨rfl, rfl, rfl, by decide +kernel, rfl, by decide +kernel, by decide +kernel⟩
theorem scWText : FnScope ["number", "rest", "blocks", "block", "digits"] ["number"] (defScope sWText) := ⟨rfl, rfl, rfl, by decide +kernel, rfl, by decide +kernel, by decide +kernel⟩
theorem scQText : FnScope ["ratio", "top", "bottom"] ["ratio"] (defScope sQText) := ⟨rfl, rfl, rfl, by decide +kernel, rfl, by decide +kernel, by decide +kernel⟩
section
variable {P : Program} {w : World} {K : PySem.W.Frag} {mg : Str → Option Value} {base : Heap}
theorem ok_ttold {f : Addr} {fd : FuncData} (F : Fun K "_law_text_told" "_law_text_told" sTTold f fd) (T : Txt K mg) : FnOk P w K mg base CX0 1 f fd ["ratio"] (spTxt K) := by
  refine F.ok scTTold (fun vs H Q E h => ?_) (fun cdv A outer s H vs Q E hr h => ?_)
  · obtain ⟨a, b, rfl, _⟩ := h; rfl
  obtain ⟨p, r, rfl, hp, m, k⟩ := h
  refine ⟨_, pss_one (ps_ret (pe_op op_add_str (pe_callTy call_str_int (by rfl) T.str bootStr (pa_cons (pe_ix ix_tup (pv 0) pe_int (fun _ _ => rfl)) pa_nil))
    (pe_ifExp (pt_cmpR op_eq (pe_ix ix_tup (pv 0) pe_int (fun _ _ => rfl)) pe_int (nomark _)) pe_str (pe_op op_add_str pe_str (pe_callTy call_str_int (by rfl) T.str bootStr (pa_cons (pe_ix ix_tup (pv 0) pe_int (fun _ _ => rfl)) pa_nil)))))), ?_⟩
  refine ⟨_, rfl, p, _, _, _, rfl, rfl, hp, rfl, _, rfl, log_60 m.top, _, rfl, p, _, _, _, rfl, rfl, hp, rfl, rfl, _, rfl, ite2 (fun c => ?_) (fun c => ?_)⟩
  · have c' : r.2 = 1 := V.int.inj (of_decide_eq_true c)
    refine ⟨_, _, rfl, rfl, sl (by show (num r.1).length + (Str.ofString "").length ≤ 1000; have := num_len m.top; have e : (Str.ofString "").length = 0 := (by decide); omega), ?_⟩
    have q := k
    unfold txt at q
    rw [if_pos c'] at q
    exact q
  · have c' : ¬ r.2 = 1 := fun z => c (decide_eq_true (by rw [z]))
    have l1 := num_len m.top
    have l2 := num_len m.bot
    have e1 : (Str.ofString "/").length = 1 := by decide
    refine ⟨_, rfl, p, _, _, _, rfl, rfl, hp, rfl, _, rfl, log_60 m.bot, _, _, rfl, rfl, sl (by show (Str.ofString "/").length + (num r.2).length ≤ 1000; omega), _, _, rfl, rfl, sl ?_, ?_⟩
    · show (num r.1).length + (Str.ofString "/" ++ num r.2).length ≤ 1000
      rw [Str.length_append]
      omega
    · have q := k
      unfold txt at q
      rw [if_neg c'] at q
      exact q
theorem ok_wtext {f : Addr} {fd : FuncData} (F : Fun K "whole_text" "whole_text" sWText f fd) (T : Txt K mg) : FnOk P w K mg base CX0 1 f fd ["number"] spW := by
  refine F.ok scWText (fun vs H Q E h => ?_) (fun cdv A outer s H vs Q E hr h => ?_)
  · obtain ⟨a, rfl, _⟩ := h; rfl
  obtain ⟨i, rfl, hi, k⟩ := h
  obtain ⟨t, hB⟩ := T.block
  refine ⟨_, pss_cons (ps_if (pt_chain op_lt op_lt (pe_un un_neg (pe_glob (v := .int (10 ^ 64)) (by rfl) hB ⟨_, rfl⟩)) (pv 0) (pe_glob (v := .int (10 ^ 64)) (by rfl) hB ⟨_, rfl⟩))
      (pss_one (ps_ret (pe_callTy call_str_int (by rfl) T.str bootStr (pa_cons (pv 0) pa_nil)))) pss_nil) pss_never, ?_⟩
  have b1 : -(10 ^ 64 : Int) < i := by omega
  have b2 : i < (10 ^ 64 : Int) := by omega
  refine ⟨_, rfl, _, rfl, _, _, rfl, rfl, _, rfl, ?_⟩
  rw [decide_eq_true b1]
  refine iteT ⟨_, _, rfl, rfl, _, rfl, ?_⟩
  rw [decide_eq_true b2]
  exact iteT ⟨_, rfl, _, rfl, log_60 hi, k⟩
theorem ok_qtext {f fW : Addr} {fd fdW : FuncData} (F : Fun K "quotient_text" "quotient_text" sQText f fd) (T : Txt K mg) (gW : mg "whole_text" = some (.ref fW)) (kW : PySem.W.keepIn K (.ref fW) = true) (bW : Binds K fdW ["number"] [])
    (W : FnOk P w K mg base CX0 1 fW fdW ["number"] spW) : FnOk P w K mg base CX0 2 f fd ["ratio"] (spTxt K) := by
  refine F.ok scQText (fun vs H Q E h => ?_) (fun cdv A outer s H vs Q E hr h => ?_)
  · obtain ⟨a, b, rfl, _⟩ := h; rfl
  obtain ⟨p, r, rfl, hp, m, k⟩ := h
  refine ⟨_, pss_cons (ps_asg (pv 0) (pg_tup (by rfl) (pgs_cons (pg_name (i := 1) scQText.nd rfl (.inl rfl)) (pgs_cons (pg_name (i := 2) scQText.nd rfl (.inl rfl)) pgs_nil))))
    (pss_cons (ps_if (pt_cmpR op_eq (pv 2) pe_int (nomark _)) (pss_one (ps_ret (pe_call W hr (by rfl) gW kW bW .nil pass0 (pa_cons (pv 1) pa_nil)))) pss_nil)
    (pss_one (ps_ret (pe_joined (.cons (pe_fmt (pe_call W hr (by rfl) gW kW bW .nil pass0 (pa_cons (pv 1) pa_nil))) (.cons pe_str (.cons (pe_fmt (pe_call W hr (by rfl) gW kW bW .nil pass0 (pa_cons (pv 2) pa_nil))) .nil))))))), ?_⟩
  refine ⟨_, rfl, p, _, rfl, hp, rfl, _, _, rfl, _, _, rfl, rfl, _, rfl, rfl, _, rfl, ite2 (fun c => ?_) (fun c => ?_)⟩
  · have c' : r.2 = 1 := V.int.inj (of_decide_eq_true c)
    refine ⟨_, rfl, _, rfl, m.top, ?_⟩
    have q := k
    rw [txt_one c'] at q
    exact q
  · have c' : ¬ r.2 = 1 := fun z => c (decide_eq_true (by rw [z]))
    have l1 := num_len m.top
    have l2 := num_len m.bot
    have e0 : (Str.empty : Str).length = 0 := by decide
    have e1 : (Str.ofString "/").length = 1 := by decide
    refine ⟨_, rfl, _, rfl, m.top, .inl ⟨_, rfl, sl (by omega), _, rfl, sl (by rw [Str.length_append]; omega), ?_⟩⟩
    refine ⟨_, rfl, sl (by show (Str.empty ++ num r.1 ++ Str.ofString "/").length ≤ 1000; rw [Str.length_append, Str.length_append]; omega), ?_⟩
    refine ⟨_, rfl, _, rfl, m.bot, .inl ⟨_, rfl, sl (by omega), _, rfl, sl (by show (Str.empty ++ num r.1 ++ Str.ofString "/" ++ num r.2).length ≤ 1000; rw [Str.length_append, Str.length_append, Str.length_append]; omega), ?_⟩⟩
    have q := k
    rw [txt_two c'] at q
    show Q (.str (Str.empty ++ num r.1 ++ Str.ofString "/" ++ num r.2)) H
    rw [Str.empty_append]
    exact q
end
end K0
namespace K0
open PySem PySem.Spec PyProof.Rows L2
/-! ### values of any kind -/
inductive Vk (K : PySem.W.Frag) (H : Hp) : V → Prop
  | non : Vk K H .non
  | bl (b : Bool) : Vk K H (.bl b)
  | int (i : Int) : Vk K H (.int i)
  | str (z : Str) : Vk K H (.str z)
  | tup {a : Addr} {xs : List V} (h : SqT K H a xs) : Vk K H (.ref a)
  | lst {a : Addr} {xs : List V} (h : H a = some (.lst xs)) : Vk K H (.ref a)
def isI : V → Bool
  | .int _ => true
  | _ => false
theorem tyT {K : PySem.W.Frag} {H : Hp} {a : Addr} {xs : List V} (h : SqT K H a xs) : TyX K H (.ref a) (.type "tuple") := by
  rcases h with (h | ⟨o, h⟩) | ⟨o, its, n, h1, h2, _⟩
  · exact .base (.tup h)
  · exact .fTuple h
  · exact .kTuple h1 h2
/-- the name of the type, and what isinstance says of int, bool and tuple -/
def isT : V → Bool
  | .ref _ => true
  | _ => false
theorem vk_ty {K : PySem.W.Frag} {H : Hp} {x : V} (h : Vk K H x) : ∃ T : String, TyX K H x (.type T) ∧ ∃ bi bb : Bool, kitB T "int" = some bi ∧ kitB T "bool" = some bb ∧ (bi && !bb) = isI x := by
  cases h with
  | non => exact ⟨"NoneType", .base .non, false, false, by decide +kernel, by decide +kernel, rfl⟩
  | bl b => exact ⟨"bool", .base (.bl _), true, true, by decide +kernel, by decide +kernel, rfl⟩
  | int i => exact ⟨"int", .base (.int _), true, false, by decide +kernel, by decide +kernel, rfl⟩
  | str z => exact ⟨"str", .base (.str _), false, false, by decide +kernel, by decide +kernel, rfl⟩
  | tup h => exact ⟨"tuple", tyT h, false, false, by decide +kernel, by decide +kernel, rfl⟩
  | lst h => exact ⟨"list", .base (.lst h), false, false, by decide +kernel, by decide +kernel, rfl⟩
/-- integers of at most sixty digits -/
def i60 : V → Bool
  | .int i => decide (-(10 ^ 60) < i) && decide (i < 10 ^ 60)
  | _ => false
def quotB : V → V → Bool
  | .int t, .int b => decide (0 < b) && decide (gcdI t b = 1)
  | _, _ => false
/-- what is_quotient says -/
inductive QuotIs (K : PySem.W.Frag) (H : Hp) : V → Bool → Prop
  | non : QuotIs K H .non false
  | bl (b : Bool) : QuotIs K H (.bl b) false
  | int (i : Int) : QuotIs K H (.int i) false
  | str (z : Str) : QuotIs K H (.str z) false
  | lst {a : Addr} {xs : List V} (h : H a = some (.lst xs)) : QuotIs K H (.ref a) false
  | len {a : Addr} {xs : List V} (h : SqT K H a xs) (n : xs.length ≠ 2) : QuotIs K H (.ref a) false
  | two {a : Addr} {u v : V} (h : SqT K H a [u, v]) (hu : Vk K H u) (hv : Vk K H v) : QuotIs K H (.ref a) (quotB u v)
/-- what is_ratio says -/
inductive RatIs (K : PySem.W.Frag) (H : Hp) : V → Bool → Prop
  | no {x : V} (h : QuotIs K H x false) : RatIs K H x false
  | two {a : Addr} {u v : V} (h : SqT K H a [u, v]) (hu : Vk K H u) (hv : Vk K H v) : RatIs K H (.ref a) (quotB u v && i60 u && i60 v)
theorem QuotIs.vk {K : PySem.W.Frag} {H : Hp} {x : V} {b : Bool} (h : QuotIs K H x b) : Vk K H x := by
  cases h with
  | non => exact .non
  | bl b => exact .bl b
  | int i => exact .int i
  | str z => exact .str z
  | lst h => exact .lst h
  | len h n => exact .tup h
  | two h _ _ => exact .tup h
theorem RatIs.vk {K : PySem.W.Frag} {H : Hp} {x : V} {b : Bool} (h : RatIs K H x b) : Vk K H x := by
  cases h with
  | no h => exact h.vk
  | two h _ _ => exact .tup h
theorem rat_md {K : PySem.W.Frag} {H : Hp} {p : Addr} {r : Int × Int} (h : IsR K H p r) (m : Md r) : RatIs K H (.ref p) true := by
  have e : (quotB (.int r.1) (.int r.2) && i60 (.int r.1) && i60 (.int r.2)) = true := by
    have a := m.rt.pos
    have b := m.rt.cop
    have c := m.top
    have d := m.bot
    have e1 : gcdI r.1 r.2 = 1 := by unfold gcdI; rw [b]; rfl
    simp only [quotB, i60, Bool.and_eq_true, decide_eq_true_eq]
    omega
  have q := RatIs.two (K := K) (H := H) h (.int r.1) (.int r.2)
  rw [e] at q
  exact q
def spIsWhole (K : PySem.W.Frag) : Sp := fun vs H Q _ => ∃ x : V, vs = [x] ∧ Vk K H x ∧ Q (.bl (isI x)) H
def spIsInt (K : PySem.W.Frag) : Sp := fun vs H Q _ => ∃ x : V, vs = [x] ∧ Vk K H x ∧ Q (.bl (i60 x)) H
def spQuot (K : PySem.W.Frag) : Sp := fun vs H Q _ => ∃ (x : V) (b : Bool), vs = [x] ∧ QuotIs K H x b ∧ Q (.bl b) H
def spIsRatio (K : PySem.W.Frag) : Sp := fun vs H Q _ => ∃ (x : V) (b : Bool), vs = [x] ∧ RatIs K H x b ∧ Q (.bl b) H
theorem scIsWhole : FnScope ["value"] ["value"] (defScope sIsWhole) := ⟨rfl, rfl, rfl, by decide +kernel, rfl, by decide +kernel, by decide +kernel⟩
theorem scIsInt : FnScope ["value"] ["value"] (defScope sIsInt) := ⟨rfl, rfl, rfl, by decide +kernel, rfl, by decide +kernel, by decide +kernel⟩
theorem scIsRatio : FnScope ["value"] ["value"] (defScope sIsRatio) := ⟨rfl, rfl, rfl, by decide +kernel, rfl, by decide +kernel, by decide +kernel⟩
theorem scQuot : FnScope ["value", "top", "bottom"] ["value"] (defScope sQuot) := ⟨rfl, rfl, rfl, by decide +kernel, rfl, by decide +kernel, by decide +kernel⟩
theorem bootIsi : bootBuiltins "isinstance" = some (.builtin "isinstance") := by decide +kernel
theorem bootBool : bootBuiltins "bool" = some (.type "bool") := by decide +kernel
theorem bootTuple : bootBuiltins "tuple" = some (.type "tuple") := by decide +kernel
section
variable {P : Program} {w : World} {K : PySem.W.Frag} {mg : Str → Option Value} {base : Heap}
theorem ok_iswhole {f : Addr} {fd : FuncData} (F : Fun K "is_whole" "is_whole" sIsWhole f fd) (T : Txt K mg) : FnOk P w K mg base CX0 1 f fd ["value"] (spIsWhole K) := by
  refine F.ok scIsWhole (fun vs H Q E h => ?_) (fun cdv A outer s H vs Q E hr h => ?_)
  · obtain ⟨a, rfl, _⟩ := h; rfl
  obtain ⟨x, rfl, hx, k⟩ := h
  refine ⟨_, pss_one (ps_ret (pe_and (pe_callB call_isi (by rfl) T.isi bootIsi (pa_cons (pv 0) (pa_cons (pe_bltn (v := .ty "int") (by rfl) T.int bootInt rfl) pa_nil)))
    (pe_one (pe_not (pe_callB call_isi (by rfl) T.isi bootIsi (pa_cons (pv 0) (pa_cons (pe_bltn (v := .ty "bool") (by rfl) T.bool bootBool rfl) pa_nil))))))), ?_⟩
  obtain ⟨Ty, ty, bi, bb, e1, e2, e3⟩ := vk_ty hx
  refine ⟨_, rfl, x, _, _, _, bi, rfl, .ty "int", ty, kit_ty e1, _, rfl, ?_⟩
  cases bi with
  | false =>
    refine iteF ?_
    have e4 : isI x = false := by rw [← e3]; rfl
    rw [← e4]
    exact k
  | true =>
    refine iteT ⟨_, rfl, x, _, _, _, bb, rfl, .ty "bool", ty, kit_ty e2, _, rfl, ?_⟩
    have e4 : isI x = !bb := by rw [← e3]; rfl
    rw [← e4]
    exact k
theorem ok_isint {f fW : Addr} {fd fdW : FuncData} (F : Fun K "is_integer" "is_integer" sIsInt f fd) (T : Txt K mg) (gW : mg "is_whole" = some (.ref fW)) (kW : PySem.W.keepIn K (.ref fW) = true) (bW : Binds K fdW ["value"] [])
    (W : FnOk P w K mg base CX0 1 fW fdW ["value"] (spIsWhole K)) : FnOk P w K mg base CX0 2 f fd ["value"] (spIsInt K) := by
  refine F.ok scIsInt (fun vs H Q E h => ?_) (fun cdv A outer s H vs Q E hr h => ?_)
  · obtain ⟨a, rfl, _⟩ := h; rfl
  obtain ⟨x, rfl, hx, k⟩ := h
  obtain ⟨t, hB⟩ := T.limit
  refine ⟨_, pss_one (ps_ret (pe_and (pe_call W hr (by rfl) gW kW bW .nil pass0 (pa_cons (pv 0) pa_nil))
    (pe_one (pe_chain op_lt op_lt (pe_un un_neg (pe_glob (v := .int (10 ^ 60)) (by rfl) hB ⟨_, rfl⟩)) (pv 0) (pe_glob (v := .int (10 ^ 60)) (by rfl) hB ⟨_, rfl⟩))))), ?_⟩
  refine ⟨_, rfl, x, rfl, hx, _, rfl, ?_⟩
  cases x with
  | int i =>
    refine iteT ⟨_, rfl, _, rfl, _, _, rfl, rfl, _, rfl, ?_⟩
    have q : Q (.bl (decide (-(10 ^ 60) < i) && decide (i < 10 ^ 60))) H := k
    by_cases c : -(10 ^ 60 : Int) < i
    · rw [decide_eq_true c] at q ⊢
      exact iteT ⟨_, _, rfl, rfl, q⟩
    · rw [decide_eq_false c] at q ⊢
      exact iteF q
  | non => exact iteF k
  | bl b => exact iteF k
  | str z => exact iteF k
  | byt z => exact iteF k
  | flt z => exact iteF k
  | ref a => exact iteF k
  | ty n => exact iteF k
theorem ok_quot {f fW : Addr} {fd fdW : FuncData} (F : Fun K "is_quotient" "is_quotient" sQuot f fd) (T : Txt K mg) (gW : mg "is_whole" = some (.ref fW)) (kW : PySem.W.keepIn K (.ref fW) = true) (bW : Binds K fdW ["value"] [])
    (W : FnOk P w K mg base CX0 1 fW fdW ["value"] (spIsWhole K)) : FnOk P w K mg base CX0 2 f fd ["value"] (spQuot K) := by
  refine F.ok scQuot (fun vs H Q E h => ?_) (fun cdv A outer s H vs Q E hr h => ?_)
  · obtain ⟨a, b, rfl, _⟩ := h; rfl
  obtain ⟨x, b, rfl, hx, k⟩ := h
  refine ⟨_, pss_cons (ps_if (PW.pt (pw_or (pt_not (pt_val (pe_callB call_isi (by rfl) T.isi bootIsi (pa_cons (pv 0) (pa_cons (pe_bltn (v := .ty "tuple") (by rfl) T.tuple bootTuple rfl) pa_nil)))))
        (pw_or1 (pt_cmpR op_ne (pe_callB call_len_seq (by rfl) T.len PySem.boot_len (pa_cons (pv 0) pa_nil)) pe_int (nomark _))))) (pss_one (ps_ret pe_bl)) pss_nil)
    (pss_cons (ps_asg (pv 0) (pg_tup (by rfl) (pgs_cons (pg_name (i := 1) scQuot.nd rfl (.inl rfl)) (pgs_cons (pg_name (i := 2) scQuot.nd rfl (.inl rfl)) pgs_nil))))
    (pss_cons (ps_if (PW.pt (pw_or (pt_not (pt_val (pe_call W hr (by rfl) gW kW bW .nil pass0 (pa_cons (pv 1) pa_nil)))) (pw_or1 (pt_not (pt_val (pe_call W hr (by rfl) gW kW bW .nil pass0 (pa_cons (pv 2) pa_nil))))))) (pss_one (ps_ret pe_bl)) pss_nil)
    (pss_one (ps_ret (pe_and (pe_cmpR op_gt (pv 2) pe_int (nomark _)) (pe_one (pe_cmpR op_eq (pe_callBfun cr_gcd (by rfl) T.gcd (pa_cons (pv 1) (pa_cons (pv 2) pa_nil))) pe_int (nomark _)))))))), ?_⟩
  cases hx with
  | non => exact ⟨_, rfl, _, _, _, _, false, rfl, .ty "tuple", .base .non, kit_ty (by decide +kernel), _, rfl, iteT (iteT k)⟩
  | bl b => exact ⟨_, rfl, _, _, _, _, false, rfl, .ty "tuple", .base (.bl _), kit_ty (by decide +kernel), _, rfl, iteT (iteT k)⟩
  | int i => exact ⟨_, rfl, _, _, _, _, false, rfl, .ty "tuple", .base (.int _), kit_ty (by decide +kernel), _, rfl, iteT (iteT k)⟩
  | str z => exact ⟨_, rfl, _, _, _, _, false, rfl, .ty "tuple", .base (.str _), kit_ty (by decide +kernel), _, rfl, iteT (iteT k)⟩
  | lst h => exact ⟨_, rfl, _, _, _, _, false, rfl, .ty "tuple", .base (.lst h), kit_ty (by decide +kernel), _, rfl, iteT (iteT k)⟩
  | len h n =>
    refine ⟨_, rfl, _, _, _, _, true, rfl, .ty "tuple", tyT h, kit_ty (by decide +kernel), _, rfl, iteF ⟨_, rfl, _, _, rfl, .inr h, rfl, _, rfl, ?_⟩⟩
    rw [decide_eq_false (fun z => n (by have := V.int.inj z; omega))]
    exact iteT k
  | @two a u v h hu hv =>
    refine ⟨_, rfl, _, _, _, _, true, rfl, .ty "tuple", tyT h, kit_ty (by decide +kernel), _, rfl, iteF ⟨_, rfl, _, _, rfl, .inr h, rfl, _, rfl, ?_⟩⟩
    refine iteF ⟨_, rfl, a, _, rfl, h, rfl, _, _, rfl, _, _, rfl, rfl, ?_⟩
    refine ⟨_, rfl, u, rfl, hu, _, rfl, ?_⟩
    cases hu' : isI u with
    | false =>
      have e : quotB u v = false := by cases u <;> first | rfl | cases hu'
      rw [e] at k
      exact iteT (iteT k)
    | true =>
      refine iteF ⟨_, rfl, v, rfl, hv, _, rfl, ?_⟩
      cases hv' : isI v with
      | false =>
        have e : quotB u v = false := by cases u <;> cases v <;> first | rfl | cases hv'
        rw [e] at k
        exact iteT k
      | true =>
        obtain ⟨t, rfl⟩ : ∃ t, u = .int t := by cases u <;> first | exact ⟨_, rfl⟩ | cases hu'
        obtain ⟨b, rfl⟩ : ∃ t, v = .int t := by cases v <;> first | exact ⟨_, rfl⟩ | cases hv'
        refine iteF ⟨_, rfl, _, _, rfl, rfl, _, rfl, ?_⟩
        have q : Q (.bl (decide (0 < b) && decide (gcdI t b = 1))) H := k
        by_cases c : 0 < b
        · rw [decide_eq_true c] at q ⊢
          refine iteT ⟨_, rfl, _, rfl, t, b, rfl, rfl, ?_⟩
          have e : decide (V.int ((Nat.gcd t.natAbs b.natAbs : Nat) : Int) = V.int 1) = decide (gcdI t b = 1) := by
            apply decide_eq_decide.mpr
            exact ⟨fun z => V.int.inj z, fun z => by rw [← z]; rfl⟩
          rw [e]
          exact q
        · rw [decide_eq_false c] at q ⊢
          exact iteF q
theorem ok_isratio {f fW fI : Addr} {fd fdW fdI : FuncData} (F : Fun K "is_ratio" "is_ratio" sIsRatio f fd) (gW : mg "is_quotient" = some (.ref fW)) (kW : PySem.W.keepIn K (.ref fW) = true) (bW : Binds K fdW ["value"] [])
    (W : FnOk P w K mg base CX0 2 fW fdW ["value"] (spQuot K)) (gI : mg "is_integer" = some (.ref fI)) (kI : PySem.W.keepIn K (.ref fI) = true) (bI : Binds K fdI ["value"] []) (I : FnOk P w K mg base CX0 2 fI fdI ["value"] (spIsInt K)) :
    FnOk P w K mg base CX0 3 f fd ["value"] (spIsRatio K) := by
  refine F.ok scIsRatio (fun vs H Q E h => ?_) (fun cdv A outer s H vs Q E hr h => ?_)
  · obtain ⟨a, b, rfl, _⟩ := h; rfl
  obtain ⟨x, b, rfl, hx, k⟩ := h
  refine ⟨_, pss_one (ps_ret (pe_and (pe_call W hr (by rfl) gW kW bW .nil pass0 (pa_cons (pv 0) pa_nil)) (pe_and (pe_call I hr (by rfl) gI kI bI .nil pass0 (pa_cons (pe_ix ix_tup (pv 0) pe_int (fun _ _ => rfl)) pa_nil))
    (pe_one (pe_call I hr (by rfl) gI kI bI .nil pass0 (pa_cons (pe_ix ix_tup (pv 0) pe_int (fun _ _ => rfl)) pa_nil)))))), ?_⟩
  cases hx with
  | no h => exact ⟨_, rfl, x, false, rfl, h, _, rfl, iteF k⟩
  | @two a u v h hu hv =>
    refine ⟨_, rfl, _, _, rfl, .two h hu hv, _, rfl, ?_⟩
    cases e1 : quotB u v with
    | false =>
      rw [e1] at k
      exact iteF k
    | true =>
      rw [e1] at k
      refine iteT ⟨_, rfl, a, _, _, _, rfl, rfl, h, rfl, u, rfl, hu, _, rfl, ?_⟩
      cases e2 : i60 u with
      | false =>
        rw [e2] at k
        exact iteF k
      | true =>
        rw [e2] at k
        exact iteT ⟨_, rfl, a, _, _, _, rfl, rfl, h, rfl, v, rfl, hv, k⟩
end
end K0
namespace K0
open PySem PySem.Spec PyProof.Rows L2
theorem scReduced : FnScope ["top", "bottom", "common"] ["top", "bottom"] (defScope sReduced) := ⟨rfl, rfl, rfl, by decide +kernel, rfl, by decide +kernel, by decide +kernel⟩
theorem scAdded : FnScope ["one", "other"] ["one", "other"] (defScope sAdded) := ⟨rfl, rfl, rfl, by decide +kernel, rfl, by decide +kernel, by decide +kernel⟩
theorem scMult : FnScope ["one", "other"] ["one", "other"] (defScope sMult) := ⟨rfl, rfl, rfl, by decide +kernel, rfl, by decide +kernel, by decide +kernel⟩
theorem addQ_ones {r s : Int × Int} (hr : r.2 = 1) (hs : s.2 = 1) : addQ r s = (r.1 + s.1, 1) := by
  unfold addQ
  rw [hr, hs, Int.mul_one, Int.mul_one, Int.mul_one]
  exact low_one _
theorem mulQ_ones {r s : Int × Int} (hr : r.2 = 1) (hs : s.2 = 1) : mulQ r s = (r.1 * s.1, 1) := by
  unfold mulQ
  rw [hr, hs, Int.mul_one]
  exact low_one _
section
variable {P : Program} {w : World} {K : PySem.W.Frag} {mg : Str → Option Value} {base : Heap}
theorem ok_reduced {f : Addr} {fd : FuncData} (F : Fun K "reduced" "reduced" sReduced f fd) (T : Txt K mg) : FnOk P w K mg base CX0 1 f fd ["top", "bottom"] spLow := by
  refine F.ok scReduced (fun vs H Q E h => ?_) (fun cdv A outer s H vs Q E hr h => ?_)
  · obtain ⟨a, b, rfl, _⟩ := h; rfl
  obtain ⟨t, b, rfl, h0, hb, k⟩ := h
  refine ⟨_, pss_cons (ps_set (i := 2) scReduced.nd rfl (.inl rfl) (pe_callBfun cr_gcd (by rfl) T.gcd (pa_cons (pv 0) (pa_cons (pv 1) pa_nil))))
    (pss_cons (ps_if (pt_cmpR op_lt (pv 1) pe_int (nomark _)) (pss_one (ps_set (i := 2) scReduced.nd rfl (.inl rfl) (pe_un un_neg (pv 2)))) pss_nil)
    (pss_one (ps_ret (pe_tup (pa_cons (pe_op op_fdivA (pv 0) (pv 2)) (pa_cons (pe_op op_fdivA (pv 1) (pv 2)) pa_nil)))))), ?_⟩
  have cd := fun x => divA_of (t := t) h0 hb x
  refine ⟨_, rfl, _, rfl, t, b, rfl, _, rfl, _, _, rfl, rfl, _, rfl, ite2 (fun c => ?_) (fun c => ?_)⟩
  · have c' : b < 0 := of_decide_eq_true c
    have e : lowg t b = -(gcdI t b) := if_pos c'
    rw [e] at cd
    refine ⟨_, rfl, _, rfl, _, rfl, _, rfl, _, _, rfl, rfl, cd _, _, rfl, _, rfl, _, _, rfl, rfl, cd _, (by show 2 ≤ sizeLine; decide), fun p hp => ?_⟩
    have q := k p hp
    unfold qT low at q
    rw [e] at q
    exact q
  · have c' : ¬ b < 0 := fun z => c (decide_eq_true z)
    have e : lowg t b = gcdI t b := if_neg c'
    rw [e] at cd
    refine ⟨_, rfl, _, rfl, _, _, rfl, rfl, cd _, _, rfl, _, rfl, _, _, rfl, rfl, cd _, (by show 2 ≤ sizeLine; decide), fun p hp => ?_⟩
    have q := k p hp
    unfold qT low at q
    rw [e] at q
    exact q
theorem ok_added {f fG : Addr} {fd fdG : FuncData} (F : Fun K "added" "added" sAdded f fd) (gG : mg "reduced" = some (.ref fG)) (kG : PySem.W.keepIn K (.ref fG) = true) (bG : Binds K fdG ["top", "bottom"] [])
    (G : FnOk P w K mg base CX0 1 fG fdG ["top", "bottom"] spLow) : FnOk P w K mg base CX0 2 f fd ["one", "other"] (spAdd K) := by
  refine F.ok scAdded (fun vs H Q E h => ?_) (fun cdv A outer s H vs Q E hr h => ?_)
  · obtain ⟨a, b, r, s, rfl, _⟩ := h; rfl
  obtain ⟨p, q, r, s, rfl, hp, hq, mr, ms, k⟩ := h
  refine ⟨_, pss_cons (ps_if (PW.pt (pw_and (pt_cmpR op_eq (pe_ix ix_tup (pv 0) pe_int (fun _ _ => rfl)) pe_int (nomark _)) (pw_and1 (pt_cmpR op_eq (pe_ix ix_tup (pv 1) pe_int (fun _ _ => rfl)) pe_int (nomark _)))))
      (pss_one (ps_ret (pe_tup (pa_cons (pe_op op_add (pe_ix ix_tup (pv 0) pe_int (fun _ _ => rfl)) (pe_ix ix_tup (pv 1) pe_int (fun _ _ => rfl))) (pa_cons pe_int pa_nil))))) pss_nil)
    (pss_one (ps_ret (pe_call G hr (by rfl) gG kG bG .nil pass0 (pa_cons (pe_op op_add (pe_op op_mulW (pe_ix ix_tup (pv 0) pe_int (fun _ _ => rfl)) (pe_ix ix_tup (pv 1) pe_int (fun _ _ => rfl))) (pe_op op_mulW (pe_ix ix_tup (pv 1) pe_int (fun _ _ => rfl)) (pe_ix ix_tup (pv 0) pe_int (fun _ _ => rfl))))
    (pa_cons (pe_op op_mulW (pe_ix ix_tup (pv 0) pe_int (fun _ _ => rfl)) (pe_ix ix_tup (pv 1) pe_int (fun _ _ => rfl))) pa_nil))))), ?_⟩
  have ix : ∀ {p : Addr} {r : Int × Int}, IsR K H p r → atI [V.int r.1, V.int r.2] 1 = some (.int r.2) := fun _ => rfl
  by_cases c1 : r.2 = 1
  · by_cases c2 : s.2 = 1
    · refine ⟨_, rfl, p, _, _, _, rfl, rfl, hp, rfl, rfl, _, rfl, ?_⟩
      rw [decide_eq_true (show V.int r.2 = V.int 1 by rw [c1])]
      refine iteT ⟨_, rfl, q, _, _, _, rfl, rfl, hq, rfl, rfl, _, rfl, ?_⟩
      rw [decide_eq_true (show V.int s.2 = V.int 1 by rw [c2])]
      refine iteT ⟨_, rfl, p, _, _, _, rfl, rfl, hp, rfl, _, rfl, q, _, _, _, rfl, rfl, hq, rfl, _, _, rfl, rfl, (by show 2 ≤ sizeLine; decide), fun z hz => ?_⟩
      have x := k z hz
      rw [addQ_ones c1 c2] at x
      exact x
    · refine ⟨_, rfl, p, _, _, _, rfl, rfl, hp, rfl, rfl, _, rfl, ?_⟩
      rw [decide_eq_true (show V.int r.2 = V.int 1 by rw [c1])]
      refine iteT ⟨_, rfl, q, _, _, _, rfl, rfl, hq, rfl, rfl, _, rfl, ?_⟩
      rw [decide_eq_false (show ¬ V.int s.2 = V.int 1 from fun z => c2 (V.int.inj z))]
      exact iteF ⟨_, rfl, p, _, _, _, rfl, rfl, hp, rfl, _, rfl, q, _, _, _, rfl, rfl, hq, rfl, _, _, rfl, rfl, mulW60 mr.top ms.bot, _, rfl, q, _, _, _, rfl, rfl, hq, rfl, _, rfl, p, _, _, _, rfl, rfl, hp, rfl, _, _, rfl, rfl, mulW60 ms.top mr.bot, _, _, rfl, rfl,
        _, rfl, p, _, _, _, rfl, rfl, hp, rfl, _, rfl, q, _, _, _, rfl, rfl, hq, rfl, _, _, rfl, rfl, mulW60 mr.bot ms.bot, _, _, rfl, ne_of_pos2 mr.rt.pos ms.rt.pos, lt450 (mul_lt60 mr.bot ms.bot), k⟩
  · refine ⟨_, rfl, p, _, _, _, rfl, rfl, hp, rfl, rfl, _, rfl, ?_⟩
    rw [decide_eq_false (show ¬ V.int r.2 = V.int 1 from fun z => c1 (V.int.inj z))]
    exact iteF (iteF ⟨_, rfl, p, _, _, _, rfl, rfl, hp, rfl, _, rfl, q, _, _, _, rfl, rfl, hq, rfl, _, _, rfl, rfl, mulW60 mr.top ms.bot, _, rfl, q, _, _, _, rfl, rfl, hq, rfl, _, rfl, p, _, _, _, rfl, rfl, hp, rfl, _, _, rfl, rfl, mulW60 ms.top mr.bot, _, _, rfl, rfl,
        _, rfl, p, _, _, _, rfl, rfl, hp, rfl, _, rfl, q, _, _, _, rfl, rfl, hq, rfl, _, _, rfl, rfl, mulW60 mr.bot ms.bot, _, _, rfl, ne_of_pos2 mr.rt.pos ms.rt.pos, lt450 (mul_lt60 mr.bot ms.bot), k⟩)
theorem ok_mult {f fG : Addr} {fd fdG : FuncData} (F : Fun K "multiplied" "multiplied" sMult f fd) (gG : mg "reduced" = some (.ref fG)) (kG : PySem.W.keepIn K (.ref fG) = true) (bG : Binds K fdG ["top", "bottom"] [])
    (G : FnOk P w K mg base CX0 1 fG fdG ["top", "bottom"] spLow) : FnOk P w K mg base CX0 2 f fd ["one", "other"] (spMul K) := by
  refine F.ok scMult (fun vs H Q E h => ?_) (fun cdv A outer s H vs Q E hr h => ?_)
  · obtain ⟨a, b, r, s, rfl, _⟩ := h; rfl
  obtain ⟨p, q, r, s, rfl, hp, hq, mr, ms, k⟩ := h
  refine ⟨_, pss_cons (ps_if (PW.pt (pw_and (pt_cmpR op_eq (pe_ix ix_tup (pv 0) pe_int (fun _ _ => rfl)) pe_int (nomark _)) (pw_and1 (pt_cmpR op_eq (pe_ix ix_tup (pv 1) pe_int (fun _ _ => rfl)) pe_int (nomark _)))))
      (pss_one (ps_ret (pe_tup (pa_cons (pe_op op_mulW (pe_ix ix_tup (pv 0) pe_int (fun _ _ => rfl)) (pe_ix ix_tup (pv 1) pe_int (fun _ _ => rfl))) (pa_cons pe_int pa_nil))))) pss_nil)
    (pss_one (ps_ret (pe_call G hr (by rfl) gG kG bG .nil pass0 (pa_cons (pe_op op_mulW (pe_ix ix_tup (pv 0) pe_int (fun _ _ => rfl)) (pe_ix ix_tup (pv 1) pe_int (fun _ _ => rfl)))
    (pa_cons (pe_op op_mulW (pe_ix ix_tup (pv 0) pe_int (fun _ _ => rfl)) (pe_ix ix_tup (pv 1) pe_int (fun _ _ => rfl))) pa_nil))))), ?_⟩
  by_cases c1 : r.2 = 1
  · by_cases c2 : s.2 = 1
    · refine ⟨_, rfl, p, _, _, _, rfl, rfl, hp, rfl, rfl, _, rfl, ?_⟩
      rw [decide_eq_true (show V.int r.2 = V.int 1 by rw [c1])]
      refine iteT ⟨_, rfl, q, _, _, _, rfl, rfl, hq, rfl, rfl, _, rfl, ?_⟩
      rw [decide_eq_true (show V.int s.2 = V.int 1 by rw [c2])]
      refine iteT ⟨_, rfl, p, _, _, _, rfl, rfl, hp, rfl, _, rfl, q, _, _, _, rfl, rfl, hq, rfl, _, _, rfl, rfl, mulW60 mr.top ms.top, (by show 2 ≤ sizeLine; decide), fun z hz => ?_⟩
      have x := k z hz
      rw [mulQ_ones c1 c2] at x
      exact x
    · refine ⟨_, rfl, p, _, _, _, rfl, rfl, hp, rfl, rfl, _, rfl, ?_⟩
      rw [decide_eq_true (show V.int r.2 = V.int 1 by rw [c1])]
      refine iteT ⟨_, rfl, q, _, _, _, rfl, rfl, hq, rfl, rfl, _, rfl, ?_⟩
      rw [decide_eq_false (show ¬ V.int s.2 = V.int 1 from fun z => c2 (V.int.inj z))]
      exact iteF ⟨_, rfl, p, _, _, _, rfl, rfl, hp, rfl, _, rfl, q, _, _, _, rfl, rfl, hq, rfl, _, _, rfl, rfl, mulW60 mr.top ms.top,
        _, rfl, p, _, _, _, rfl, rfl, hp, rfl, _, rfl, q, _, _, _, rfl, rfl, hq, rfl, _, _, rfl, rfl, mulW60 mr.bot ms.bot, _, _, rfl, ne_of_pos2 mr.rt.pos ms.rt.pos, lt450 (mul_lt60 mr.bot ms.bot), k⟩
  · refine ⟨_, rfl, p, _, _, _, rfl, rfl, hp, rfl, rfl, _, rfl, ?_⟩
    rw [decide_eq_false (show ¬ V.int r.2 = V.int 1 from fun z => c1 (V.int.inj z))]
    exact iteF (iteF ⟨_, rfl, p, _, _, _, rfl, rfl, hp, rfl, _, rfl, q, _, _, _, rfl, rfl, hq, rfl, _, _, rfl, rfl, mulW60 mr.top ms.top,
        _, rfl, p, _, _, _, rfl, rfl, hp, rfl, _, rfl, q, _, _, _, rfl, rfl, hq, rfl, _, _, rfl, rfl, mulW60 mr.bot ms.bot, _, _, rfl, ne_of_pos2 mr.rt.pos ms.rt.pos, lt450 (mul_lt60 mr.bot ms.bot), k⟩)
end
end K0
namespace K0X
open PySem PySem.W PySem.Calls PyProof.Rows PySem.HandSPX PySem.Builtin PySem.Builtin.ObjectAttr
/-! ### InvalidNumber(given), a class over IndexError with an __init__ of its own -/
abbrev ieB : List Value := [.type "IndexError", .type "LookupError", .type "Exception", .type "BaseException", .type "object"]
def nuA (r1 r2 : Pos) : Arguments :=
  { posonlyargs := [], args := [{ arg := "self", annotation := none, pos := r1 }, { arg := "given", annotation := none, pos := r2 }], vararg := none, kwonlyargs := [], kw_defaults := [], kwarg := none, defaults := [] }
def nuB (r1 r2 r3 r4 : Pos) : List Stmt := [.Assign [.Attribute (.Name "self" r1) "given" r2] (.Name "given" r3) r4]
def nuS : Scope :=
  { kind := .function, names := [(PySem.Str.ofString "self", .local), (PySem.Str.ofString "given", .local)], isGenerator := false, isCoroutine := false, more := [] }
/-- what the written part says of the class at C and of its __init__ at i0 -/
structure NumTxt (K : Frag) (mg : Str → Option Value) (C i0 : Addr) : Prop where
  named : mg "InvalidNumber" = some (.ref C)
  made : excInitIn K C ieB "IndexError.__new__" = true
  over : excOver K C ieB = true
  dict : hasDictIn K C = true
  stores : findIn K (.ref C) "__setattr__" = some (some (.builtin "object.__setattr__"))
  reads : findIn K (.ref C) "__getattribute__" = some (some (.builtin "BaseException.__getattribute__"))
  reads2 : findIn K (.ref C) "__getattr__" = some none
  noGiven : findIn K (.ref C) "given" = some none
  inits : findIn K (.ref C) "__init__" = some (some (.ref i0))
  isdef : typeIn K (.ref i0) = some (.type "function")
  keepC : keepIn K (.ref C) = true
  isExc : subIn K (.ref C) (.type "BaseException") = some true
  isCls : typeIn K (.ref C) = some (.type "type")
  self1 : exmOne K (.ref C) (.ref C) = some true
  text : ∃ (oc : Value) (od : Option Addr) (doc pm : Value) (an : Option Addr) (cdv ct : Value) (osl : Array (Option Value)) (r1 r2 r3 r4 r5 r6 : Pos),
    K.lookup i0 = some ⟨oc, od, .func (fnOf "__init__" "InvalidNumber.__init__" (nuA r1 r2) (nuB r3 r4 r5 r6) nuS .none .none doc pm an cdv ct), osl⟩ ∧ codeIn K cdv "InvalidNumber.__init__" = true
/-- the object of an exception that holds its arguments alone -/
abbrev bareX (C t : Addr) : Obj := { cls := .ref C, data := .fields #[.ref t, .none, .none, .none, .bool false, .none] }
abbrev withX (C t dx : Addr) : Obj := { cls := .ref C, dict := some dx, data := .fields #[.ref t, .none, .none, .none, .bool false, .none] }
theorem one_fits (v : Value) : [v].length ≤ sizeLine := by
  rw [sizeLine_eq]
  show 1 ≤ 16777216
  decide
section
variable {prog : Program} {w : World} {A : Around} {E : Value → Shared → Prop} {R : Result → Shared → Prop} {K : Frag} {mg : Str → Option Value} {C i0 : Addr}
/-- object.__setattr__ on such an object that has no dict yet -/
theorem num_store {hp : Heap} {g : Array GenState} {d : Drawn} {t : Nat} {os : OsState} {name : Str} {tk : Tok} {v : Value} {x t0 : Addr} (X : K.In hp) (gx : hp.get? x = some (bareX C t0)) (ov : excOver K C ieB = true) (hh : hasDictIn K C = true)
    (nn : findIn K (.ref C) name = some none)
    (go : ∀ h' tk' dx, (∀ b o, b ≠ x → hp.get? b = some o → h'.get? b = some o) → hp.objs.size ≤ dx → dx ≠ x → h'.get? x = some (withX C t0 dx) → h'.Ns1 dx (fun y => if y = name then some v else none) → R (.ok (.ret .none)) ⟨h', g, d, tk', os⟩) :
    codeAny (model prog w) A (.call (.builtin "object.__setattr__") ⟨[.ref x, .str name tk, v], []⟩) R ⟨hp, g, d, t, os⟩ := by
  refine osa_openX (s := ⟨hp, g, d, t, os⟩) (ox := bareX C t0) (od := none) PySem.F.store_IndexError X ⟨gx, rfl, rfl, trivial⟩ ov (L2.NoAttr.taker nn) fun b => ?_
  obtain ⟨cd, hc, hd'⟩ := any_some hh
  have nx : x ≠ hp.objs.size := Nat.ne_of_lt (Heap.lt_size gx)
  refine wpAny_bind (wpAny_pure (wpAny_bind (instanceDict_exc (s := ⟨hp, g, d, t, os⟩) (c2 := .none) (t := t0) gx (looks_clsIn X hc) hd' ?_)))
  show wpAny _ _ (storeInDict hp.objs.size (.str name tk) name v) _ _ _
  refine store_in_new (hp := (hp.push (dictOf [] 0)).update x fun o => { o with dict := some hp.objs.size }) ?_ fun h' tk' hn' hs => ?_
  · exact ⟨_, #[], _, (Heap.get?_update_ne _ _ _ _ nx.symm).trans (Heap.get?_push_at rfl rfl), rfl, fun e he => absurd he (by simp), fun _ => rfl⟩
  · have gx1 : (hp.push (dictOf [] 0)).get? x = some (bareX C t0) := Heap.get?_push_of_some _ gx
    refine go h' tk' hp.objs.size (fun b o hb ho => ?_) (Nat.le_refl _) nx.symm ?_ hn'
    · exact (hs.2 b (Nat.ne_of_lt (Heap.lt_size ho))).trans ((Heap.get?_update_ne _ _ _ _ hb).trans (Heap.get?_push_of_some _ ho))
    · exact (hs.2 x nx).trans (Heap.get?_update_self _ gx1 rfl)
theorem localC {M : Model} {s : Shared} {name : Str} {scope : Scope} {L a : Addr} {cd : Value} {m : Str → Option Value} {x : Str} {pos : Pos} {v : Value} {Q : Value → Shared → Prop} (ns : s.heap.Ns L m) (e : m x = some v) (q : Q v s)
    (k1 : scope.kind = .function := by rfl) (k2 : (envOfC name scope L a cd).kindOf x = some .local := by rfl) (k3 : (x == ("__debug__" : Str)) = false := by decide) :
    wpAny M A (eval (.Name x pos) (envOfC name scope L a cd)) Q E s :=
  wpAny_Name (wpAny_loadName_local k1 k2 ns e q) k3
/-- __init__ on a fresh object at x -/
theorem num_init {s : Shared} (T : NumTxt K mg C i0) {x t0 : Addr} {v : Value} (X : K.In s.heap) (lim : s.heap.NoLimit) (gx : s.heap.get? x = some (bareX C t0)) (room : A.depth < recursionLimit)
    (go : ∀ h' tk dx, (∀ b o, b ≠ x → s.heap.get? b = some o → h'.get? b = some o) → h'.get? x = some (withX C t0 dx) → s.heap.objs.size ≤ dx → dx ≠ x → h'.Ns1 dx (fun y => if y = "given" then some v else none) →
      R (.ok (.ret .none)) { s with heap := h', toks := tk }) :
    codeAny (model prog w) A (.call (.ref i0) ⟨[.ref x, v], []⟩) R s := by
  obtain ⟨oc, od, doc, pm, an, cdv, ct, osl, r1, r2, r3, r4, r5, r6, lk, cdk⟩ := T.text
  refine Att.call_fn (binds := [("self", .ref x), ("given", v)]) X lim lk cdk room (BindsTo.of_eq (by first | rfl | with_unfolding_all rfl)) (by first | rfl | decide | with_unfolding_all rfl) (fun s1 IC => ?_) rfl rfl rfl
  obtain ⟨h1, tk1, rfl⟩ := IC.toInCall.same
  have kp : ∀ b o, s.heap.get? b = some o → h1.get? b = some o := IC.toInCall.keep
  have ns := IC.toInCall.ns
  have X1 : K.In h1 := X.keeps kp
  have gx1 := kp _ _ gx
  show wpAny _ _ (execs _ _) _ _ _
  refine wpAny_execs_cons (plainObj_wpAny_Assign_Attribute ?_)
  refine localC (v := v) ns (by first | rfl | with_unfolding_all rfl | kernel_rfl) (localC (v := .ref x) ns (by first | rfl | with_unfolding_all rfl | kernel_rfl) ?_)
  refine set_plain X1 (ox := bareX C t0) (od := none) ⟨gx1, rfl, rfl, trivial⟩ T.stores ?_
  refine num_store X1 gx1 T.over T.dict T.noGiven (fun h3 tk3 dx k3 dn dne gx3 ns3 => ?_)
  show wpAny _ _ (execs _ _) _ _ _
  have z : s.heap.objs.size < h1.objs.size := ns.lt
  exact wpAny_execs_nil (go h3 tk3 dx (fun b o hb e => k3 b o hb (kp b o e)) gx3 (Nat.le_of_lt (Nat.lt_of_lt_of_le z dn)) dne ns3)
/-- InvalidNumber(v) -/
theorem num_call {s : Shared} (T : NumTxt K mg C i0) {v : Value} (X : K.In s.heap) (lim : s.heap.NoLimit) (room : A.depth + 1 < recursionLimit)
    (go : ∀ h' tk e d oe, (∀ b o, s.heap.get? b = some o → h'.get? b = some o) → s.heap.objs.size ≤ e → h'.get? e = some oe → (∃ t0, oe = withX C t0 d) → s.heap.objs.size ≤ d → d ≠ e →
      h'.Ns1 d (fun y => if y = "given" then some v else none) → R (.ok (.ret (.ref e))) { s with heap := h', toks := tk }) :
    codeAny (model prog w) A (.call (.ref C) ⟨[v], []⟩) R s := by
  obtain ⟨nm, N', qn, bs, bm, hdct, sn, sub, ab, col, dd, k0, k1, k2, k3, k5, hC, hT⟩ := excInit_of X T.made
  obtain ⟨hp, g, dr, tk, os⟩ := s
  have kp : ∀ b o, hp.get? b = some o → ((hp.push (kdv_tup [v])).push (excO C hp.objs.size)).get? b = some o := fun b o e => Heap.get?_push_of_some _ (Heap.get?_push_of_some _ e)
  have get1 : ((hp.push (kdv_tup [v])).push (excO C hp.objs.size)).get? (hp.objs.size + 1) = some (bareX C hp.objs.size) := by heap_get
  refine call_own F.excBase_IndexError hT hC (looks_findIn X T.inits) (fun self => bind_fn X self T.isdef) (one_fits v) ?_
  refine num_init (s := ⟨(hp.push (kdv_tup [v])).push (excO C hp.objs.size), g, dr, tk, os⟩) T (X.keeps kp) (lim.keeps kp) get1 ?_ fun h' tk' dx k' gx dn dne ns => ?_
  · show A.depth + 1 < recursionLimit
    exact room
  · have old : ∀ b o, hp.get? b = some o → h'.get? b = some o := fun b o e => k' b o (Nat.ne_of_lt (Nat.lt_succ_of_lt (Heap.lt_size e))) (kp b o e)
    have z : hp.objs.size + 1 + 1 ≤ dx := by
      have q := dn
      rw [Heap.size_push, Heap.size_push] at q
      exact q
    exact ⟨rfl, go h' tk' (hp.objs.size + 1) dx _ old (Nat.le_succ _) gx ⟨_, rfl⟩ (Nat.le_trans (Nat.le_trans (Nat.le_succ _) (Nat.le_succ _)) z) dne ns⟩
end
end K0X
namespace K0
open PySem PySem.Spec PyProof.Rows L2
theorem relO_given {v : V} {u : Value} (r : RelV v u) (f : Str) : RelO (List.lookup f [(("given" : Str), v)]) (if f = "given" then some u else none) := by
  by_cases hf : f = "given"
  · subst hf
    rw [if_pos rfl, show List.lookup ("given" : Str) [(("given" : Str), v)] = some v by simp [List.lookup]]
    exact r
  · have e : (f == ("given" : Str)) = false := by simpa using hf
    rw [if_neg hf, show List.lookup f [(("given" : Str), v)] = none by simp [List.lookup, e]]
    trivial
section
variable {X : Cx} {C i0 : Addr}
/-- what is asked of InvalidNumber(e) -/
def tMkNum (C : Addr) (ta : TA) : L2.St → Hp → XK → Prop := fun σ H Q => ta σ H fun vs H1 => ∃ v, vs = [v] ∧ ∀ d, H1 d = none → Q (.ref C) (some d) (upd H1 d (.xd [(("given" : Str), v)]))
theorem pmk_num {a : Expr} {ta : TA} {p pos : Pos} {k : Nat} (T : K0X.NumTxt X.K X.mg C i0) (hr : Room k X.A) (ha : PA X [a] ta) (hg : Gl X "InvalidNumber" := by rfl)
    (he : starEach (a :: []) X.env = (false, eval a X.env) :: starEach [] X.env := by rfl) (hpl : (backTo pos (starEach [] X.env)).any (·.1) = false := by rfl) :
    PMk X (.Call (.Name "InvalidNumber" p) [a] [] pos) (tMkNum C ta) := by
  intro pins s σ H Q I h
  refine wpAny_Call_Name_kw (ld_glob I hg T.named ?_)
  refine PySem.W.callWith_K (h₀ := X.base) I.ok.mod.kin T.keepC (thn (ha.run pos pins s σ H _ I h) fun us s1 hh => ?_) he hpl
  obtain ⟨vs, H1, I1, r1, v, rfl, q1⟩ := hh
  refine ⟨I1.kIn, ?_⟩
  obtain ⟨v', rfl, rv⟩ := Vals.one r1
  show wpAny _ _ (call (.ref C) [v']) _ _ _
  have lim := I1.nolimit
  obtain ⟨hp, g, dr, tk, os⟩ := s1
  refine wpAny_call (K0X.num_call T I1.kIn lim (by have := hr.dp; omega) fun h' tk' e d oe kp en ge ho dn de ns => ?_)
  show MkP X pins σ Q (.ref e) ⟨h', g, dr, tk', os⟩
  obtain ⟨t0, rfl⟩ := ho
  obtain ⟨G, g1, g2⟩ := restrict h' fun b => decide (b ≠ e)
  have gk : ∀ b, b ≠ e → G.get? b = h'.get? b := fun b hb => g1 b (decide_eq_true hb)
  have g0 : G.get? e = none := g2 e (by simp)
  have old : ∀ b o, hp.get? b = some o → G.get? b = some o := fun b o q => (gk b (Nat.ne_of_lt (Nat.lt_of_lt_of_le (Heap.lt_size q) en))).trans (kp b o q)
  have ob : ObjOk X.prog X.w (upd H1 d (.xd [(("given" : Str), v)])) G d (.xd [(("given" : Str), v)]) := ⟨_, ns.at (fun o q => (gk d de).trans q), fun f => relO_given rv f⟩
  have J : Inv X pins σ (upd H1 d (.xd [(("given" : Str), v)])) ⟨G, g, dr, tk', os⟩ := I1.laid (t' := tk') old dn ob
  refine ⟨e, _, _, ⟨G, g, dr, tk', os⟩, _, .ref C, some d, rfl, J, fun b o q => ?_, g0, ge, ⟨rfl, rfl⟩, rfl, rfl, ?_, rfl, I1.bare, raises_own T.isExc T.isCls, q1 d (I1.hok.fresh dn)⟩
  · by_cases hb : b = e
    · have q' : G.get? b = some o := q
      rw [hb, g0] at q'; cases q'
    · exact (gk b hb).symm.trans q
  · rw [upd_ne (Ne.symm de)]
    exact I1.hok.fresh en
/-- raise InvalidNumber(e) -/
theorem ps_raiseNum {a : Expr} {ta : TA} {W : WX} {p pos pos2 : Pos} {k : Nat} (hc : X.calm = true) (T : K0X.NumTxt X.K X.mg C i0) (hr : Room k X.A) (tk : Takes X W) (ha : PA X [a] ta) (hg : Gl X "InvalidNumber" := by rfl)
    (he : starEach (a :: []) X.env = (false, eval a X.env) :: starEach [] X.env := by rfl) (hpl : (backTo pos (starEach [] X.env)).any (·.1) = false := by rfl) :
    PS X (.Raise (some (.Call (.Name "InvalidNumber" p) [a] [] pos)) none pos2) (fun _ σ H => tMkNum C ta σ H fun cls d H' => W cls d σ H') := ps_raise hc tk (pmk_num T hr ha hg he hpl)
/-- error.given, within the suite of the error at a -/
def tGiven (C a : Addr) (cls : Value) (d : Option Addr) (te : TE) : TE := fun σ H Q => te σ H fun x H1 => x = .ref a ∧ cls = .ref C ∧ ∃ (dd : Addr) (v : V), d = some dd ∧ H1 dd = some (.xd [(("given" : Str), v)]) ∧ Q v H1
theorem pe_given {a : Addr} {oe : Obj} {cls : Value} {d : Option Addr} {pn : List (Addr × Obj)} {e : Expr} {te : TE} {pos : Pos} (T : K0X.NumTxt X.K X.mg C i0) (hz : Zc cls d oe) (hf : ∃ vs, oe.data = .fields vs) (he : PE (X.suite a ((a, oe) :: pn)) e te)
    (hb : attributeBase e "given" X.env (eval e X.env) = eval e X.env := by rfl) : PE (X.suite a ((a, oe) :: pn)) (.Attribute e "given" pos) (tGiven C a cls d te) := by
  refine ⟨fun pins s σ H Q I h => ?_⟩
  refine attr_of hb (thn (he.run pins s σ H _ I h) fun u s1 hh => ?_)
  obtain ⟨x, H1, I1, rx, rfl, rfl, dd, v, rfl, ea, q⟩ := hh
  obtain rfl : u = Value.ref a := rx
  obtain ⟨ga, _⟩ := I1.pin (a, oe) (List.mem_append_left _ List.mem_cons_self)
  obtain ⟨vs, hd⟩ := hf
  obtain ⟨mA, hns, rel⟩ := (show ObjOk X.prog X.w H1 s1.heap dd (.xd [(("given" : Str), v)]) from I1.hok dd _ ea)
  obtain ⟨od, ho, hl⟩ := lookIn_ns hns
  have l : List.lookup ("given" : Str) [(("given" : Str), v)] = some v := by simp [List.lookup]
  obtain ⟨u, hu, ru⟩ := RelO.some_of (v := v) (o := mA "given") (by rw [← l]; exact rel "given")
  have J : PySem.W.InstAt s1.heap a oe C (some od) := ⟨ga, hz.1, by unfold PySem.W.notCls; rw [hd] <;> rfl, by rw [hz.2]; exact ho⟩
  exact HandSPX.exc_get I1.kIn J T.reads T.reads2 T.isExc (PySem.W.findObj_own T.dict T.noGiven rfl (by rw [hl, hu])) (handed_of ru) ⟨v, H1, I1.tok _, ru, q⟩
end
end K0
namespace K0
open PySem PySem.Spec PyProof.Rows L2
/-- a class of errors without anything of its own -/
structure ErrTxt (K : PySem.W.Frag) (mg : Str → Option Value) (x : Str) (C : Addr) : Prop where
  named : mg x = some (.ref C)
  made : PySem.W.excIn K C PySem.HandSPX.veTail "ValueError.__new__" = true
  keepC : PySem.W.keepIn K (.ref C) = true
  isExc : PySem.W.subIn K (.ref C) (.type "BaseException") = some true
  isCls : PySem.W.typeIn K (.ref C) = some (.type "type")
def spCheck (K : PySem.W.Frag) (C : Addr) : Sp := fun vs H Q E => ∃ (x y : V) (b c : Bool), vs = [x, y] ∧ RatIs K H x b ∧ RatIs K H y c ∧ ((b && c) = true → Q .non H) ∧ ((b && c) = false → E (.ref C) none H)
/-- a def of two ratios: what it makes of right ones -/
def spTwo (K : PySem.W.Frag) (C : Addr) (R : (Int × Int) → (Int × Int) → Hp → VK → XK → Prop) : Sp := fun vs H Q E => ∃ (x y : V) (b c : Bool), vs = [x, y] ∧ RatIs K H x b ∧ RatIs K H y c ∧ ((b && c) = false → E (.ref C) none H) ∧
  ((b && c) = true → ∃ (p q : Addr) (r s : Int × Int), x = .ref p ∧ y = .ref q ∧ IsR K H p r ∧ IsR K H q s ∧ Md r ∧ Md s ∧ R r s H Q E)
def rAddQ : (Int × Int) → (Int × Int) → Hp → VK → XK → Prop := fun r s H Q _ => ∀ z, H z = none → Q (.ref z) (upd H z (qT (addQ r s)))
def rSubQ : (Int × Int) → (Int × Int) → Hp → VK → XK → Prop := fun r s H Q _ => ∀ y z, H y = none → upd H y (qT (negQ s)) z = none → Q (.ref z) (upd (upd H y (qT (negQ s))) z (qT (addQ r (negQ s))))
def rMulQ : (Int × Int) → (Int × Int) → Hp → VK → XK → Prop := fun r s H Q _ => ∀ z, H z = none → Q (.ref z) (upd H z (qT (mulQ r s)))
def rOverQ (O : Addr) : (Int × Int) → (Int × Int) → Hp → VK → XK → Prop := fun r s H Q E => (s.1 = 0 → E (.ref O) none H) ∧ (s.1 ≠ 0 → ∀ z, H z = none → Q (.ref z) (upd H z (qT (divQ r s))))
def cmpQ (r s : Int × Int) : Int := if r.1 * s.2 = s.1 * r.2 then 0 else if r.1 * s.2 < s.1 * r.2 then -1 else 1
def rCmpQ : (Int × Int) → (Int × Int) → Hp → VK → XK → Prop := fun r s H Q _ => Q (.int (cmpQ r s)) H
def spRText (K : PySem.W.Frag) (C : Addr) : Sp := fun vs H Q E => ∃ (x : V) (b : Bool), vs = [x] ∧ RatIs K H x b ∧ (b = false → E (.ref C) none H) ∧ (b = true → ∃ (p : Addr) (r : Int × Int), x = .ref p ∧ IsR K H p r ∧ Md r ∧ Q (.str (txt r)) H)
/-- an integer of sixty digits that can stand below -/
def low60 : V → Bool
  | .int i => i60 (.int i) && !decide (i = 0)
  | _ => false
def spLowest (K : PySem.W.Frag) (N : Addr) : Sp := fun vs H Q E => ∃ x y : V, vs = [x, y] ∧ Vk K H x ∧ Vk K H y ∧
  (i60 x = false → ∀ d, H d = none → E (.ref N) (some d) (upd H d (.xd [(("given" : Str), x)]))) ∧
  (i60 x = true → low60 y = false → ∀ d, H d = none → E (.ref N) (some d) (upd H d (.xd [(("given" : Str), y)]))) ∧
  (i60 x = true → low60 y = true → ∃ t b : Int, x = .int t ∧ y = .int b ∧ ∀ p, H p = none → Q (.ref p) (upd H p (qT (low t b))))
theorem scCheck : FnScope ["one", "other"] ["one", "other"] (defScope sCheck) := ⟨rfl, rfl, rfl, by decide +kernel, rfl, by decide +kernel, by decide +kernel⟩
theorem scPlus : FnScope ["one", "other"] ["one", "other"] (defScope sPlus) := ⟨rfl, rfl, rfl, by decide +kernel, rfl, by decide +kernel, by decide +kernel⟩
theorem scMinus : FnScope ["one", "other"] ["one", "other"] (defScope sMinus) := ⟨rfl, rfl, rfl, by decide +kernel, rfl, by decide +kernel, by decide +kernel⟩
theorem scTimes : FnScope ["one", "other"] ["one", "other"] (defScope sTimes) := ⟨rfl, rfl, rfl, by decide +kernel, rfl, by decide +kernel, by decide +kernel⟩
theorem scOver : FnScope ["one", "other"] ["one", "other"] (defScope sOver) := ⟨rfl, rfl, rfl, by decide +kernel, rfl, by decide +kernel, by decide +kernel⟩
theorem scCompare : FnScope ["one", "other", "left", "right"] ["one", "other"] (defScope sCompare) := ⟨rfl, rfl, rfl, by decide +kernel, rfl, by decide +kernel, by decide +kernel⟩
theorem scRText : FnScope ["ratio"] ["ratio"] (defScope sRText) := ⟨rfl, rfl, rfl, by decide +kernel, rfl, by decide +kernel, by decide +kernel⟩
theorem scLowest : FnScope ["top", "bottom"] ["top", "bottom"] (defScope sLowest) := ⟨rfl, rfl, rfl, by decide +kernel, rfl, by decide +kernel, by decide +kernel⟩
theorem i60_lt {t : Int} (h : i60 (.int t) = true) : t.natAbs < 10 ^ 60 := by
  simp only [i60, Bool.and_eq_true, decide_eq_true_eq] at h
  omega
section
variable {P : Program} {w : World} {K : PySem.W.Frag} {mg : Str → Option Value} {base : Heap}
theorem ok_check {C f fR : Addr} {fd fdR : FuncData} (F : Fun K "_check_ratios" "_check_ratios" sCheck f fd) (ER : ErrTxt K mg "InvalidRatio" C) (gR : mg "is_ratio" = some (.ref fR)) (kR : PySem.W.keepIn K (.ref fR) = true) (bR : Binds K fdR ["value"] [])
    (R : FnOk P w K mg base CX0 3 fR fdR ["value"] (spIsRatio K)) : FnOk P w K mg base (L2.CX P w) 4 f fd ["one", "other"] (spCheck K C) := by
  refine F.okX scCheck (fun vs H Q E h => ?_) (fun cdv A outer s H vs Q E hr h => ?_)
  · obtain ⟨a, b, c, d, rfl, _⟩ := h; rfl
  obtain ⟨x, y, b, c, rfl, hx, hy, kQ, kE⟩ := h
  refine ⟨_, pss_cons (ps_if (pt_not (pt_val (pe_call R hr (by rfl) gR kR bR .nil pass0 (pa_cons (pv 0) pa_nil))))
      (pss_one (ps_raise (W := fun cls d _ H => E cls d H) rfl (takes_of rfl rfl rfl rfl) (pmk_own PySem.F.excBase_ValueError ER.made ER.named ER.keepC (raises_own ER.isExc ER.isCls) (by rfl)))) pss_nil)
    (pss_one (ps_if (pt_not (pt_val (pe_call R hr (by rfl) gR kR bR .nil pass0 (pa_cons (pv 1) pa_nil))))
      (pss_one (ps_raise (W := fun cls d _ H => E cls d H) rfl (takes_of rfl rfl rfl rfl) (pmk_own PySem.F.excBase_ValueError ER.made ER.named ER.keepC (raises_own ER.isExc ER.isCls) (by rfl)))) pss_nil)), ?_⟩
  refine ⟨_, rfl, x, b, rfl, hx, _, rfl, ?_⟩
  cases b with
  | false => exact iteT (kE rfl)
  | true =>
    refine iteF ⟨_, rfl, y, c, rfl, hy, _, rfl, ?_⟩
    cases c with
    | false => exact iteT (kE rfl)
    | true => exact iteF (kQ rfl)

/-- the check ahead of a def of two ratios -/
theorem chk {C : Addr} {x y : V} {b c : Bool} {H : Hp} {Q : VK} {E : XK} (hx : RatIs K H x b) (hy : RatIs K H y c) (kE : (b && c) = false → E (.ref C) none H) (kQ : (b && c) = true → Q .non H) : spCheck K C [x, y] H Q E :=
  ⟨x, y, b, c, rfl, hx, hy, kQ, kE⟩
theorem ok_plus {C f fC fG : Addr} {fd fdC fdG : FuncData} (F : Fun K "plus" "plus" sPlus f fd) (gC : mg "_check_ratios" = some (.ref fC)) (kC : PySem.W.keepIn K (.ref fC) = true) (bC : Binds K fdC ["one", "other"] [])
    (FC : FnOk P w K mg base (L2.CX P w) 4 fC fdC ["one", "other"] (spCheck K C)) (gG : mg "added" = some (.ref fG)) (kG : PySem.W.keepIn K (.ref fG) = true) (bG : Binds K fdG ["one", "other"] []) (G : FnOk P w K mg base CX0 2 fG fdG ["one", "other"] (spAdd K)) :
    FnOk P w K mg base (L2.CX P w) 5 f fd ["one", "other"] (spTwo K C rAddQ) := by
  refine F.okX scPlus (fun vs H Q E h => ?_) (fun cdv A outer s H vs Q E hr h => ?_)
  · obtain ⟨a, b, c, d, rfl, _⟩ := h; rfl
  obtain ⟨x, y, b, c, rfl, hx, hy, kE, kQ⟩ := h
  have hr2 : Room 2 _ := hr.mono (by decide)
  refine ⟨_, pss_cons (ps_expr (pe_call FC hr (by rfl) gC kC bC .nil (passes_call (E := E) (takes_of rfl rfl rfl rfl) (fun _ _ _ _ h => h)) (pa_cons (pv 0) (pa_cons (pv 1) pa_nil))))
    (pss_one (ps_ret (pe_call G hr2 (by rfl) gG kG bG .nil pass0 (pa_cons (pv 0) (pa_cons (pv 1) pa_nil))))), ?_⟩
  refine ⟨_, rfl, _, rfl, x, y, b, c, rfl, hx, hy, fun e => ?_, kE⟩
  obtain ⟨p, q, r, s', rfl, rfl, hp, hq, mr, ms, k⟩ := kQ e
  exact ⟨_, rfl, _, rfl, p, q, r, s', rfl, hp, hq, mr, ms, k⟩
theorem ok_times {C f fC fG : Addr} {fd fdC fdG : FuncData} (F : Fun K "times" "times" sTimes f fd) (gC : mg "_check_ratios" = some (.ref fC)) (kC : PySem.W.keepIn K (.ref fC) = true) (bC : Binds K fdC ["one", "other"] [])
    (FC : FnOk P w K mg base (L2.CX P w) 4 fC fdC ["one", "other"] (spCheck K C)) (gG : mg "multiplied" = some (.ref fG)) (kG : PySem.W.keepIn K (.ref fG) = true) (bG : Binds K fdG ["one", "other"] []) (G : FnOk P w K mg base CX0 2 fG fdG ["one", "other"] (spMul K)) :
    FnOk P w K mg base (L2.CX P w) 5 f fd ["one", "other"] (spTwo K C rMulQ) := by
  refine F.okX scTimes (fun vs H Q E h => ?_) (fun cdv A outer s H vs Q E hr h => ?_)
  · obtain ⟨a, b, c, d, rfl, _⟩ := h; rfl
  obtain ⟨x, y, b, c, rfl, hx, hy, kE, kQ⟩ := h
  have hr2 : Room 2 _ := hr.mono (by decide)
  refine ⟨_, pss_cons (ps_expr (pe_call FC hr (by rfl) gC kC bC .nil (passes_call (E := E) (takes_of rfl rfl rfl rfl) (fun _ _ _ _ h => h)) (pa_cons (pv 0) (pa_cons (pv 1) pa_nil))))
    (pss_one (ps_ret (pe_call G hr2 (by rfl) gG kG bG .nil pass0 (pa_cons (pv 0) (pa_cons (pv 1) pa_nil))))), ?_⟩
  refine ⟨_, rfl, _, rfl, x, y, b, c, rfl, hx, hy, fun e => ?_, kE⟩
  obtain ⟨p, q, r, s', rfl, rfl, hp, hq, mr, ms, k⟩ := kQ e
  exact ⟨_, rfl, _, rfl, p, q, r, s', rfl, hp, hq, mr, ms, k⟩
theorem Md.neg {r : Int × Int} (m : Md r) : Md (negQ r) := ⟨m.rt.neg, by show (-r.1).natAbs < _; rw [Int.natAbs_neg]; exact m.top, m.bot⟩
theorem IsR.new {H : Hp} {p z : Addr} {o : HO} {r : Int × Int} (h : IsR K H p r) (hz : H z = none) : IsR K (upd H z o) p r := by
  rcases h with (h | ⟨ob, h⟩) | h
  · exact .inl (.inl (by rw [upd_ne (ne_of_none h hz)]; exact h))
  · exact .inl (.inr ⟨ob, by rw [upd_ne (ne_of_none h hz)]; exact h⟩)
  · exact .inr h
theorem ok_minus {C f fC fG : Addr} {fd fdC fdG : FuncData} (F : Fun K "minus" "minus" sMinus f fd) (gC : mg "_check_ratios" = some (.ref fC)) (kC : PySem.W.keepIn K (.ref fC) = true) (bC : Binds K fdC ["one", "other"] [])
    (FC : FnOk P w K mg base (L2.CX P w) 4 fC fdC ["one", "other"] (spCheck K C)) (gG : mg "added" = some (.ref fG)) (kG : PySem.W.keepIn K (.ref fG) = true) (bG : Binds K fdG ["one", "other"] []) (G : FnOk P w K mg base CX0 2 fG fdG ["one", "other"] (spAdd K)) :
    FnOk P w K mg base (L2.CX P w) 5 f fd ["one", "other"] (spTwo K C rSubQ) := by
  refine F.okX scMinus (fun vs H Q E h => ?_) (fun cdv A outer s H vs Q E hr h => ?_)
  · obtain ⟨a, b, c, d, rfl, _⟩ := h; rfl
  obtain ⟨x, y, b, c, rfl, hx, hy, kE, kQ⟩ := h
  have hr2 : Room 2 _ := hr.mono (by decide)
  refine ⟨_, pss_cons (ps_expr (pe_call FC hr (by rfl) gC kC bC .nil (passes_call (E := E) (takes_of rfl rfl rfl rfl) (fun _ _ _ _ h => h)) (pa_cons (pv 0) (pa_cons (pv 1) pa_nil))))
    (pss_one (ps_ret (pe_call G hr2 (by rfl) gG kG bG .nil pass0 (pa_cons (pv 0) (pa_cons (pe_tup (pa_cons (pe_un un_neg (pe_ix ix_tup (pv 1) pe_int (fun _ _ => rfl))) (pa_cons (pe_ix ix_tup (pv 1) pe_int (fun _ _ => rfl)) pa_nil))) pa_nil))))), ?_⟩
  refine ⟨_, rfl, _, rfl, x, y, b, c, rfl, hx, hy, fun e => ?_, kE⟩
  obtain ⟨p, q, r, s', rfl, rfl, hp, hq, mr, ms, k⟩ := kQ e
  refine ⟨_, rfl, _, rfl, q, _, _, _, rfl, rfl, hq, rfl, _, rfl, _, rfl, q, _, _, _, rfl, rfl, hq, rfl, (by show 2 ≤ sizeLine; decide), fun t ht => ?_⟩
  exact ⟨p, t, r, negQ s', rfl, hp.new ht, IsR.of upd_same, mr, ms.neg, fun z hz => k t z ht hz⟩
theorem ok_over {C O f fC fG : Addr} {fd fdC fdG : FuncData} (F : Fun K "over" "over" sOver f fd) (EO : ErrTxt K mg "InvalidOperation" O) (gC : mg "_check_ratios" = some (.ref fC)) (kC : PySem.W.keepIn K (.ref fC) = true) (bC : Binds K fdC ["one", "other"] [])
    (FC : FnOk P w K mg base (L2.CX P w) 4 fC fdC ["one", "other"] (spCheck K C)) (gG : mg "reduced" = some (.ref fG)) (kG : PySem.W.keepIn K (.ref fG) = true) (bG : Binds K fdG ["top", "bottom"] []) (G : FnOk P w K mg base CX0 1 fG fdG ["top", "bottom"] spLow) :
    FnOk P w K mg base (L2.CX P w) 5 f fd ["one", "other"] (spTwo K C (rOverQ O)) := by
  refine F.okX scOver (fun vs H Q E h => ?_) (fun cdv A outer s H vs Q E hr h => ?_)
  · obtain ⟨a, b, c, d, rfl, _⟩ := h; rfl
  obtain ⟨x, y, b, c, rfl, hx, hy, kE, kQ⟩ := h
  have hr2 : Room 1 _ := hr.mono (by decide)
  refine ⟨_, pss_cons (ps_expr (pe_call FC hr (by rfl) gC kC bC .nil (passes_call (E := E) (takes_of rfl rfl rfl rfl) (fun _ _ _ _ h => h)) (pa_cons (pv 0) (pa_cons (pv 1) pa_nil))))
    (pss_cons (ps_if (pt_cmpR op_eq (pe_ix ix_tup (pv 1) pe_int (fun _ _ => rfl)) pe_int (nomark _))
      (pss_one (ps_raise (W := fun cls d _ H => E cls d H) rfl (takes_of rfl rfl rfl rfl) (pmk_own PySem.F.excBase_ValueError EO.made EO.named EO.keepC (raises_own EO.isExc EO.isCls) (by rfl)))) pss_nil)
    (pss_one (ps_ret (pe_call G hr2 (by rfl) gG kG bG .nil pass0 (pa_cons (pe_op op_mulW (pe_ix ix_tup (pv 0) pe_int (fun _ _ => rfl)) (pe_ix ix_tup (pv 1) pe_int (fun _ _ => rfl)))
      (pa_cons (pe_op op_mulW (pe_ix ix_tup (pv 0) pe_int (fun _ _ => rfl)) (pe_ix ix_tup (pv 1) pe_int (fun _ _ => rfl))) pa_nil)))))), ?_⟩
  refine ⟨_, rfl, _, rfl, x, y, b, c, rfl, hx, hy, fun e => ?_, kE⟩
  obtain ⟨p, q, r, s', rfl, rfl, hp, hq, mr, ms, k0, k1⟩ := kQ e
  refine ⟨_, rfl, q, _, _, _, rfl, rfl, hq, rfl, rfl, _, rfl, ite2 (fun c => ?_) (fun c => ?_)⟩
  · exact k0 (V.int.inj (of_decide_eq_true c))
  · have c' : s'.1 ≠ 0 := fun z => c (decide_eq_true (by rw [z]))
    exact ⟨_, rfl, p, _, _, _, rfl, rfl, hp, rfl, _, rfl, q, _, _, _, rfl, rfl, hq, rfl, _, _, rfl, rfl, mulW60 mr.top ms.bot, _, rfl, p, _, _, _, rfl, rfl, hp, rfl, _, rfl, q, _, _, _, rfl, rfl, hq, rfl, _, _, rfl, rfl, mulW60 mr.bot ms.top,
      _, _, rfl, Int.mul_ne_zero (by have := mr.rt.pos; omega) c', lt450 (mul_lt60 mr.bot ms.top), k1 c'⟩
theorem ok_compare {C f fC : Addr} {fd fdC : FuncData} (F : Fun K "compare" "compare" sCompare f fd) (gC : mg "_check_ratios" = some (.ref fC)) (kC : PySem.W.keepIn K (.ref fC) = true) (bC : Binds K fdC ["one", "other"] [])
    (FC : FnOk P w K mg base (L2.CX P w) 4 fC fdC ["one", "other"] (spCheck K C)) : FnOk P w K mg base (L2.CX P w) 5 f fd ["one", "other"] (spTwo K C rCmpQ) := by
  refine F.okX scCompare (fun vs H Q E h => ?_) (fun cdv A outer s H vs Q E hr h => ?_)
  · obtain ⟨a, b, c, d, rfl, _⟩ := h; rfl
  obtain ⟨x, y, b, c, rfl, hx, hy, kE, kQ⟩ := h
  refine ⟨_, pss_cons (ps_expr (pe_call FC hr (by rfl) gC kC bC .nil (passes_call (E := E) (takes_of rfl rfl rfl rfl) (fun _ _ _ _ h => h)) (pa_cons (pv 0) (pa_cons (pv 1) pa_nil))))
    (pss_cons (ps_par (i := 2) (j := 3) rfl scCompare.nd rfl rfl (by decide) rfl rfl (pa_cons (pe_op op_mulW (pe_ix ix_tup (pv 0) pe_int (fun _ _ => rfl)) (pe_ix ix_tup (pv 1) pe_int (fun _ _ => rfl)))
      (pa_cons (pe_op op_mulW (pe_ix ix_tup (pv 1) pe_int (fun _ _ => rfl)) (pe_ix ix_tup (pv 0) pe_int (fun _ _ => rfl))) pa_nil)) (by rfl))
    (pss_cons (ps_if (pt_cmpR op_eq (pv 2) (pv 3) (nomark _)) (pss_one (ps_ret pe_int)) pss_nil)
    (pss_one (ps_ret (pe_ifExp (pt_cmpR op_lt (pv 2) (pv 3) (nomark _)) (pe_un un_neg pe_int) pe_int))))), ?_⟩
  refine ⟨_, rfl, _, rfl, x, y, b, c, rfl, hx, hy, fun e => ?_, kE⟩
  obtain ⟨p, q, r, s', rfl, rfl, hp, hq, mr, ms, k⟩ := kQ e
  refine ⟨_, rfl, p, _, _, _, rfl, rfl, hp, rfl, _, rfl, q, _, _, _, rfl, rfl, hq, rfl, _, _, rfl, rfl, mulW60 mr.top ms.bot, _, rfl, q, _, _, _, rfl, rfl, hq, rfl, _, rfl, p, _, _, _, rfl, rfl, hp, rfl, _, _, rfl, rfl, mulW60 ms.top mr.bot, _, _, rfl, ?_⟩
  refine ⟨_, rfl, _, rfl, rfl, _, rfl, ite2 (fun c => ?_) (fun c => ?_)⟩
  · have c' : r.1 * s'.2 = s'.1 * r.2 := V.int.inj (of_decide_eq_true c)
    have q := k
    unfold rCmpQ cmpQ at q
    rw [if_pos c'] at q
    exact q
  · have c' : ¬ r.1 * s'.2 = s'.1 * r.2 := fun z => c (decide_eq_true (congrArg V.int z))
    have q := k
    unfold rCmpQ cmpQ at q
    rw [if_neg c'] at q
    refine ⟨_, rfl, _, rfl, _, _, rfl, rfl, _, rfl, ite2 (fun c2 => ?_) (fun c2 => ?_)⟩
    · rw [if_pos (of_decide_eq_true c2)] at q
      exact ⟨_, rfl, q⟩
    · rw [if_neg (fun z => c2 (decide_eq_true z))] at q
      exact q
theorem ok_rtext {C f fR fG : Addr} {fd fdR fdG : FuncData} (F : Fun K "ratio_text" "ratio_text" sRText f fd) (ER : ErrTxt K mg "InvalidRatio" C) (gR : mg "is_ratio" = some (.ref fR)) (kR : PySem.W.keepIn K (.ref fR) = true) (bR : Binds K fdR ["value"] [])
    (R : FnOk P w K mg base CX0 3 fR fdR ["value"] (spIsRatio K)) (gG : mg "quotient_text" = some (.ref fG)) (kG : PySem.W.keepIn K (.ref fG) = true) (bG : Binds K fdG ["ratio"] []) (G : FnOk P w K mg base CX0 2 fG fdG ["ratio"] (spTxt K)) :
    FnOk P w K mg base (L2.CX P w) 4 f fd ["ratio"] (spRText K C) := by
  refine F.okX scRText (fun vs H Q E h => ?_) (fun cdv A outer s H vs Q E hr h => ?_)
  · obtain ⟨a, b, rfl, _⟩ := h; rfl
  obtain ⟨x, b, rfl, hx, kE, kQ⟩ := h
  have hr2 : Room 2 _ := hr.mono (by decide)
  refine ⟨_, pss_cons (ps_if (pt_not (pt_val (pe_call R hr (by rfl) gR kR bR .nil pass0 (pa_cons (pv 0) pa_nil))))
      (pss_one (ps_raise (W := fun cls d _ H => E cls d H) rfl (takes_of rfl rfl rfl rfl) (pmk_own PySem.F.excBase_ValueError ER.made ER.named ER.keepC (raises_own ER.isExc ER.isCls) (by rfl)))) pss_nil)
    (pss_one (ps_ret (pe_call G hr2 (by rfl) gG kG bG .nil pass0 (pa_cons (pv 0) pa_nil)))), ?_⟩
  refine ⟨_, rfl, x, b, rfl, hx, _, rfl, ?_⟩
  cases b with
  | false => exact iteT (kE rfl)
  | true =>
    obtain ⟨p, r, rfl, hp, m, k⟩ := kQ rfl
    exact iteF ⟨_, rfl, p, r, rfl, hp, m, k⟩
theorem ok_lowest {N i0 f fI fG : Addr} {fd fdI fdG : FuncData} (F : Fun K "lowest" "lowest" sLowest f fd) (EN : K0X.NumTxt K mg N i0) (gI : mg "is_integer" = some (.ref fI)) (kI : PySem.W.keepIn K (.ref fI) = true) (bI : Binds K fdI ["value"] [])
    (I : FnOk P w K mg base CX0 2 fI fdI ["value"] (spIsInt K)) (gG : mg "reduced" = some (.ref fG)) (kG : PySem.W.keepIn K (.ref fG) = true) (bG : Binds K fdG ["top", "bottom"] []) (G : FnOk P w K mg base CX0 1 fG fdG ["top", "bottom"] spLow) :
    FnOk P w K mg base (L2.CX P w) 4 f fd ["top", "bottom"] (spLowest K N) := by
  refine F.okX scLowest (fun vs H Q E h => ?_) (fun cdv A outer s H vs Q E hr h => ?_)
  · obtain ⟨a, b, rfl, _⟩ := h; rfl
  obtain ⟨x, y, rfl, hx, hy, k1, k2, k3⟩ := h
  have hr1 : Room 1 _ := hr.mono (by decide)
  have hr2 : Room 2 _ := hr.mono (by decide)
  refine ⟨_, pss_cons (ps_if (pt_not (pt_val (pe_call I hr2 (by rfl) gI kI bI .nil pass0 (pa_cons (pv 0) pa_nil))))
      (pss_one (ps_raiseNum (W := fun cls d _ H => E cls d H) rfl EN hr (takes_of rfl rfl rfl rfl) (by exact (pa_cons (pv 0) pa_nil)))) pss_nil)
    (pss_cons (ps_if (PW.pt (pw_or (pt_not (pt_val (pe_call I hr2 (by rfl) gI kI bI .nil pass0 (pa_cons (pv 1) pa_nil)))) (pw_or1 (pt_cmpR op_eq (pv 1) pe_int (nomark _)))))
      (pss_one (ps_raiseNum (W := fun cls d _ H => E cls d H) rfl EN hr (takes_of rfl rfl rfl rfl) (by exact (pa_cons (pv 1) pa_nil)))) pss_nil)
    (pss_one (ps_ret (pe_call G hr1 (by rfl) gG kG bG .nil pass0 (pa_cons (pv 0) (pa_cons (pv 1) pa_nil)))))), ?_⟩
  refine ⟨_, rfl, x, rfl, hx, _, rfl, ?_⟩
  cases e1 : i60 x with
  | false => exact iteT ⟨_, rfl, _, rfl, k1 e1⟩
  | true =>
    refine iteF ⟨_, rfl, y, rfl, hy, _, rfl, ?_⟩
    cases e2 : i60 y with
    | false =>
      have e3 : low60 y = false := by
        cases y <;> first | rfl | (show (i60 _ && _) = false; rw [e2]; rfl)
      exact iteT (iteT ⟨_, rfl, _, rfl, k2 e1 e3⟩)
    | true =>
      obtain ⟨b, rfl⟩ : ∃ b, y = .int b := by cases y <;> first | exact ⟨_, rfl⟩ | cases e2
      refine iteF ⟨_, rfl, rfl, _, rfl, ite2 (fun c => ?_) (fun c => ?_)⟩
      · have c' : b = 0 := V.int.inj (of_decide_eq_true c)
        have e3 : low60 (.int b) = false := by rw [c']; decide
        exact ⟨_, rfl, _, rfl, k2 e1 e3⟩
      · have c' : ¬ b = 0 := fun z => c (decide_eq_true (by rw [z]))
        have e3 : low60 (.int b) = true := by
          show (i60 (.int b) && !decide (b = 0)) = true
          rw [e2, decide_eq_false c']
          rfl
        obtain ⟨t, b', rfl, eb, k⟩ := k3 e1 e3
        cases eb
        exact ⟨_, rfl, _, rfl, t, b, rfl, c', Nat.lt_of_lt_of_le (i60_lt e2) (by decide), k⟩
end
end K0
namespace K0
open PySem PySem.Spec PyProof.Rows L2
def dQ (r : Int × Int) : PyData := .tuple [.int r.1, .int r.2]
theorem dpQ {K : PySem.W.Frag} {H : Hp} {p : Addr} {r : Int × Int} (h : IsR K H p r) : Dp K H (.ref p) (dQ r) := .tup h (.cons (.int _) (.cons (.int _) .nil))
theorem shQ (r : Int × Int) : SeqAt.shaped (dQ r) = true := by
  first | rfl | decide | simp [SeqAt.shaped, dQ]
theorem eqQ (r : Int × Int) : PyData.eqv (dQ r) (dQ r) = true := by
  simp [dQ, PyData.eqv, PyData.eqvAll]
theorem neQ (r : Int × Int) : (!PyData.eqv (dQ r) (dQ r)) = false := by rw [eqQ]; rfl
theorem Same.new {H : Hp} {p : Addr} {o : HO} (hp : H p = none) : Same H (upd H p o) := fun b u h => by
  rw [upd_ne (ne_of_none h hp)]
  exact h
theorem IsR.same {K : PySem.W.Frag} {H H' : Hp} {p : Addr} {r : Int × Int} (h : IsR K H p r) (e : Same H H') : IsR K H' p r := by
  rcases h with (h | ⟨ob, h⟩) | h
  · exact .inl (.inl (e _ _ h))
  · exact .inl (.inr ⟨ob, e _ _ h⟩)
  · exact .inr h
theorem cmp_is (r s : Int × Int) : cmpQ r s = (if decide (s.1 * r.2 < r.1 * s.2) = true then (1 : Int) else 0) - (if decide (r.1 * s.2 < s.1 * r.2) = true then 1 else 0) := by
  unfold cmpQ
  simp only [decide_eq_true_eq]
  split
  · rename_i h
    simp [h]
  · split
    · rename_i h1 h2
      rw [if_neg (by omega)]
      rfl
    · rename_i h1 h2
      rw [if_pos (by omega)]
      rfl
theorem cmp_back (r s : Int × Int) : cmpQ s r = 0 - cmpQ r s := by
  unfold cmpQ
  by_cases h : r.1 * s.2 = s.1 * r.2
  · rw [if_pos h, if_pos h.symm]
    rfl
  · rw [if_neg h, if_neg (fun z => h z.symm)]
    by_cases h2 : r.1 * s.2 < s.1 * r.2
    · rw [if_pos h2, if_neg (by omega)]
      rfl
    · rw [if_neg h2, if_pos (by omega)]
      rfl
/-- what is reckoned with drawn ratios has at most sixty digits -/
theorem sm_prod {a b : Int} (ha : a.natAbs ≤ 10 ^ 20) (hb : b.natAbs ≤ 10 ^ 20) : (a * b).natAbs ≤ 10 ^ 40 := by
  rw [Int.natAbs_mul]
  exact Nat.le_trans (Nat.mul_le_mul ha hb) (by decide)
theorem up20 {a : Int} (h : a.natAbs ≤ 10 ^ 15) : a.natAbs ≤ 10 ^ 20 := Nat.le_trans h (by decide)
theorem add_md {r s : Int × Int} (hr : Sm r) (hs : Sm s) : Md (addQ r s) := by
  have n := ne_of_pos2 hr.rt.pos hs.rt.pos
  have l := low_le (t := r.1 * s.2 + s.1 * r.2) n
  have b1 := sm_prod hr.top (up20 hs.bot)
  have b2 := sm_prod hs.top (up20 hr.bot)
  have b3 := sm_prod (up20 hr.bot) (up20 hs.bot)
  have t : (r.1 * s.2 + s.1 * r.2).natAbs ≤ (r.1 * s.2).natAbs + (s.1 * r.2).natAbs := Int.natAbs_add_le _ _
  exact ⟨addQ_rt hr.rt hs.rt, by show (low _ _).1.natAbs < _; omega, by show (low _ _).2.natAbs < _; omega⟩
theorem mul_md {r s : Int × Int} (hr : Sm r) (hs : Sm s) : Md (mulQ r s) := by
  have n := ne_of_pos2 hr.rt.pos hs.rt.pos
  have l := low_le (t := r.1 * s.1) n
  have b1 := sm_prod hr.top hs.top
  have b3 := sm_prod (up20 hr.bot) (up20 hs.bot)
  exact ⟨mulQ_rt hr.rt hs.rt, by show (low _ _).1.natAbs < _; omega, by show (low _ _).2.natAbs < _; omega⟩
theorem iteF' {b : Bool} {A B : Prop} (h : b = false) (hB : B) : if b = true then A else B := by
  rw [h]
  exact iteF hB
theorem iteT' {b : Bool} {A B : Prop} (h : b = true) (hA : A) : if b = true then A else B := by
  rw [h]
  exact iteT hA
def spLTwo (K : PySem.W.Frag) : Sp := fun vs H Q _ => ∃ (p q : Addr) (r s : Int × Int), vs = [.ref p, .ref q] ∧ IsR K H p r ∧ IsR K H q s ∧ Sm r ∧ Sm s ∧ ∀ H', Same H H' → Q (.bl true) H'
theorem scTwo : FnScope ["one", "other", "total", "product", "due", "left", "right"] ["one", "other"] (defScope sTwo) := ⟨rfl, rfl, rfl, by decide +kernel, rfl, by decide +kernel, by decide +kernel⟩
section
variable {P : Program} {w : World} {K : PySem.W.Frag} {mg : Str → Option Value} {base : Heap}
theorem ok_two {C O f fLP fLT fLL fTT fPl fMi fTi fOv fCo fRT fIR : Addr} {fd dLP dLT dLL dTT dPl dMi dTi dOv dCo dRT dIR : FuncData} (F : Fun K "_law_two_right" "_law_two_right" sTwo f fd) (T : Txt K mg)
    (gLP : mg "_law_plus" = some (.ref fLP)) (kLP : PySem.W.keepIn K (.ref fLP) = true) (bLP : Binds K dLP ["one", "other"] []) (FLP : FnOk P w K mg base CX0 3 fLP dLP ["one", "other"] (spAdd K))
    (gLT : mg "_law_times" = some (.ref fLT)) (kLT : PySem.W.keepIn K (.ref fLT) = true) (bLT : Binds K dLT ["one", "other"] []) (FLT : FnOk P w K mg base CX0 3 fLT dLT ["one", "other"] (spMul K))
    (gLL : mg "_law_lowest" = some (.ref fLL)) (kLL : PySem.W.keepIn K (.ref fLL) = true) (bLL : Binds K dLL ["top", "bottom"] []) (FLL : FnOk P w K mg base CX0 2 fLL dLL ["top", "bottom"] spLow)
    (gTT : mg "_law_text_told" = some (.ref fTT)) (kTT : PySem.W.keepIn K (.ref fTT) = true) (bTT : Binds K dTT ["ratio"] []) (FTT : FnOk P w K mg base CX0 1 fTT dTT ["ratio"] (spTxt K))
    (gPl : mg "plus" = some (.ref fPl)) (kPl : PySem.W.keepIn K (.ref fPl) = true) (bPl : Binds K dPl ["one", "other"] []) (FPl : FnOk P w K mg base (L2.CX P w) 5 fPl dPl ["one", "other"] (spTwo K C rAddQ))
    (gMi : mg "minus" = some (.ref fMi)) (kMi : PySem.W.keepIn K (.ref fMi) = true) (bMi : Binds K dMi ["one", "other"] []) (FMi : FnOk P w K mg base (L2.CX P w) 5 fMi dMi ["one", "other"] (spTwo K C rSubQ))
    (gTi : mg "times" = some (.ref fTi)) (kTi : PySem.W.keepIn K (.ref fTi) = true) (bTi : Binds K dTi ["one", "other"] []) (FTi : FnOk P w K mg base (L2.CX P w) 5 fTi dTi ["one", "other"] (spTwo K C rMulQ))
    (gOv : mg "over" = some (.ref fOv)) (kOv : PySem.W.keepIn K (.ref fOv) = true) (bOv : Binds K dOv ["one", "other"] []) (FOv : FnOk P w K mg base (L2.CX P w) 5 fOv dOv ["one", "other"] (spTwo K C (rOverQ O)))
    (gCo : mg "compare" = some (.ref fCo)) (kCo : PySem.W.keepIn K (.ref fCo) = true) (bCo : Binds K dCo ["one", "other"] []) (FCo : FnOk P w K mg base (L2.CX P w) 5 fCo dCo ["one", "other"] (spTwo K C rCmpQ))
    (gRT : mg "ratio_text" = some (.ref fRT)) (kRT : PySem.W.keepIn K (.ref fRT) = true) (bRT : Binds K dRT ["ratio"] []) (FRT : FnOk P w K mg base (L2.CX P w) 4 fRT dRT ["ratio"] (spRText K C))
    (gIR : mg "is_ratio" = some (.ref fIR)) (kIR : PySem.W.keepIn K (.ref fIR) = true) (bIR : Binds K dIR ["value"] []) (FIR : FnOk P w K mg base CX0 3 fIR dIR ["value"] (spIsRatio K)) :
    FnOk P w K mg base CX0 6 f fd ["one", "other"] (spLTwo K) := by
  refine F.ok scTwo (fun vs H Q E h => ?_) (fun cdv A outer s H vs Q E hr h => ?_)
  · obtain ⟨a, b, c, d, rfl, _⟩ := h; rfl
  obtain ⟨p, q, r, s', rfl, hp, hq, sr, ss, k⟩ := h
  have hr1 : Room 1 _ := hr.mono (by decide)
  have hr2 : Room 2 _ := hr.mono (by decide)
  have hr3 : Room 3 _ := hr.mono (by decide)
  have hr4 : Room 4 _ := hr.mono (by decide)
  refine ⟨_, pss_cons (ps_par (i := 2) (j := 3) rfl scTwo.nd rfl rfl (by decide) rfl rfl (pa_cons (pe_call FLP hr3 (by rfl) gLP kLP bLP .nil pass0 (pa_cons (pv 0) (pa_cons (pv 1) pa_nil))) (pa_cons (pe_call FLT hr3 (by rfl) gLT kLT bLT .nil pass0 (pa_cons (pv 0) (pa_cons (pv 1) pa_nil))) pa_nil)) (by rfl))
    (pss_cons (ps_if (PW.pt (pw_or (pt_cmpR (op_neD hr.units) (pe_call FPl hr (by rfl) gPl kPl bPl .nil passL (pa_cons (pv 0) (pa_cons (pv 1) pa_nil))) (pv 2) (nomark _))
        (pw_or (pt_cmpR (op_neD hr.units) (pe_call FMi hr (by rfl) gMi kMi bMi .nil passL (pa_cons (pv 2) (pa_cons (pv 1) pa_nil))) (pv 0) (nomark _))
        (pw_or1 (pt_cmpR (op_neD hr.units) (pe_call FTi hr (by rfl) gTi kTi bTi .nil passL (pa_cons (pv 0) (pa_cons (pv 1) pa_nil))) (pv 3) (nomark _)))))) (pss_one (ps_ret pe_bl)) pss_nil)
    (C8.pss_cut (ps_if (pt_cmpR op_ne (pe_ix ix_tup (pv 1) pe_int (fun _ _ => rfl)) pe_int (nomark _))
      (pss_cons (ps_set (i := 4) scTwo.nd rfl (.inl rfl) (pe_call FLL hr2 (by rfl) gLL kLL bLL .nil pass0 (pa_cons (pe_op op_mulW (pe_ix ix_tup (pv 0) pe_int (fun _ _ => rfl)) (pe_ix ix_tup (pv 1) pe_int (fun _ _ => rfl))) (pa_cons (pe_op op_mulW (pe_ix ix_tup (pv 0) pe_int (fun _ _ => rfl)) (pe_ix ix_tup (pv 1) pe_int (fun _ _ => rfl))) pa_nil))))
      (pss_one (ps_if (PW.pt (pw_or (pt_cmpR (op_neD hr.units) (pe_call FOv hr (by rfl) gOv kOv bOv .nil passL (pa_cons (pv 3) (pa_cons (pv 1) pa_nil))) (pv 0) (nomark _))
        (pw_or1 (pt_cmpR (op_neD hr.units) (pe_call FOv hr (by rfl) gOv kOv bOv .nil passL (pa_cons (pv 0) (pa_cons (pv 1) pa_nil))) (pv 4) (nomark _))))) (pss_one (ps_ret pe_bl)) pss_nil))) pss_nil)
    (pss_cons (ps_par (i := 5) (j := 6) rfl scTwo.nd rfl rfl (by decide) rfl rfl (pa_cons (pe_op op_mulW (pe_ix ix_tup (pv 0) pe_int (fun _ _ => rfl)) (pe_ix ix_tup (pv 1) pe_int (fun _ _ => rfl))) (pa_cons (pe_op op_mulW (pe_ix ix_tup (pv 1) pe_int (fun _ _ => rfl)) (pe_ix ix_tup (pv 0) pe_int (fun _ _ => rfl))) pa_nil)) (by rfl))
    (pss_cons (ps_if (PW.pt (pw_or (pt_cmpR op_ne (pe_call FCo hr (by rfl) gCo kCo bCo .nil passL (pa_cons (pv 0) (pa_cons (pv 1) pa_nil)))
          (pe_op op_sub (pe_callTy call_int1 (by rfl) T.int bootInt (pa_cons (pe_cmpR op_gt (pv 5) (pv 6) (nomark _)) pa_nil)) (pe_callTy call_int1 (by rfl) T.int bootInt (pa_cons (pe_cmpR op_lt (pv 5) (pv 6) (nomark _)) pa_nil))) (nomark _))
        (pw_or1 (pt_cmpR op_ne (pe_call FCo hr (by rfl) gCo kCo bCo .nil passL (pa_cons (pv 1) (pa_cons (pv 0) pa_nil))) (pe_op op_sub pe_int (pe_call FCo hr (by rfl) gCo kCo bCo .nil passL (pa_cons (pv 0) (pa_cons (pv 1) pa_nil)))) (nomark _)))))
        (pss_one (ps_ret pe_bl)) pss_nil)
    (pss_one (ps_ret (pe_and (pe_cmpR op_eq (pe_call FRT hr4 (by rfl) gRT kRT bRT .nil passL (pa_cons (pv 0) pa_nil)) (pe_call FTT hr1 (by rfl) gTT kTT bTT .nil pass0 (pa_cons (pv 0) pa_nil)) (nomark _))
      (pe_and (pe_cmpR op_eq (pe_call FRT hr4 (by rfl) gRT kRT bRT .nil passL (pa_cons (pv 2) pa_nil)) (pe_call FTT hr1 (by rfl) gTT kTT bTT .nil pass0 (pa_cons (pv 2) pa_nil)) (nomark _))
      (pe_one (pe_call FIR hr3 (by rfl) gIR kIR bIR .nil pass0 (pa_cons (pv 3) pa_nil))))))))))), ?_⟩
  have mr := sr.md
  have ms := ss.md
  have ma := add_md sr ss
  have mm := mul_md sr ss
  -- total, product
  refine ⟨_, rfl, _, rfl, p, q, r, s', rfl, hp, hq, mr, ms, fun t ht => ?_⟩
  have e1 : Same H (upd H t (qT (addQ r s'))) := Same.new ht
  have htot : IsR K (upd H t (qT (addQ r s'))) t (addQ r s') := IsR.of upd_same
  generalize upd H t (qT (addQ r s')) = H1 at *
  refine ⟨_, rfl, _, rfl, p, q, r, s', rfl, hp.same e1, hq.same e1, mr, ms, fun m hm => ?_⟩
  have e2 : Same H (upd H1 m (qT (mulQ r s'))) := e1.trans (Same.new hm)
  have htot2 : IsR K (upd H1 m (qT (mulQ r s'))) t (addQ r s') := htot.new hm
  have hpro2 : IsR K (upd H1 m (qT (mulQ r s'))) m (mulQ r s') := IsR.of upd_same
  generalize upd H1 m (qT (mulQ r s')) = H2 at *
  refine ⟨_, _, rfl, ?_⟩
  -- plus, minus, times
  refine ⟨_, rfl, _, rfl, .ref p, .ref q, true, true, rfl, rat_md (hp.same e2) mr, rat_md (hq.same e2) ms, (fun e => nomatch e), fun _ => ⟨p, q, r, s', rfl, rfl, hp.same e2, hq.same e2, mr, ms, fun z hz => ?_⟩⟩
  have e3 : Same H2 (upd H2 z (qT (addQ r s'))) := Same.new hz
  have hz3 : IsR K (upd H2 z (qT (addQ r s'))) z (addQ r s') := IsR.of upd_same
  generalize upd H2 z (qT (addQ r s')) = H3 at *
  refine ⟨_, rfl, dQ _, dQ _, dpQ hz3, dpQ (htot2.same e3), shQ _, shQ _, _, rfl, ?_⟩
  rw [neQ]
  refine iteF ?_
  have E3 := e2.trans e3
  refine ⟨_, rfl, _, rfl, .ref t, .ref q, true, true, rfl, rat_md (htot2.same e3) ma, rat_md (hq.same E3) ms, (fun e => nomatch e), fun _ => ⟨t, q, addQ r s', s', rfl, rfl, htot2.same e3, hq.same E3, ma, ms, fun y z4 hy hz4 => ?_⟩⟩
  rw [sub_back sr.rt ss.rt] at *
  have e4 : Same H3 (upd (upd H3 y (qT (negQ s'))) z4 (qT r)) := (Same.new hy).trans (Same.new hz4)
  have hz4' : IsR K (upd (upd H3 y (qT (negQ s'))) z4 (qT r)) z4 r := IsR.of upd_same
  generalize upd (upd H3 y (qT (negQ s'))) z4 (qT r) = H4 at *
  have E4 := E3.trans e4
  refine ⟨_, rfl, dQ _, dQ _, dpQ hz4', dpQ (hp.same E4), shQ _, shQ _, _, rfl, ?_⟩
  rw [neQ]
  refine iteF ?_
  refine ⟨_, rfl, _, rfl, .ref p, .ref q, true, true, rfl, rat_md (hp.same E4) mr, rat_md (hq.same E4) ms, (fun e => nomatch e), fun _ => ⟨p, q, r, s', rfl, rfl, hp.same E4, hq.same E4, mr, ms, fun z5 hz5 => ?_⟩⟩
  have e5 : Same H4 (upd H4 z5 (qT (mulQ r s'))) := Same.new hz5
  have hz5' : IsR K (upd H4 z5 (qT (mulQ r s'))) z5 (mulQ r s') := IsR.of upd_same
  generalize upd H4 z5 (qT (mulQ r s')) = H5 at *
  have E5 := E4.trans e5
  have htot5 : IsR K H5 t (addQ r s') := ((htot2.same e3).same e4).same e5
  have hpro5 : IsR K H5 m (mulQ r s') := ((hpro2.same e3).same e4).same e5
  refine ⟨_, rfl, dQ _, dQ _, dpQ hz5', dpQ hpro5, shQ _, shQ _, _, rfl, ?_⟩
  rw [neQ]
  refine iteF ?_
  -- the quotients; behind them both ways are one
  refine ⟨fun σ' H' => ∃ o : Option V, σ' = [some (.ref p), some (.ref q), some (.ref t), some (.ref m), o, none, none] ∧ Same H5 H', ?_, ?_⟩
  · refine ⟨_, rfl, q, _, _, _, rfl, rfl, hq.same E5, rfl, rfl, _, rfl, ite2 (fun c => ?_) (fun c => ?_)⟩
    · have c' : s'.1 ≠ 0 := fun z => by rw [z] at c; exact absurd c (by decide)
      have nb : r.2 * s'.1 ≠ 0 := Int.mul_ne_zero (by have := sr.rt.pos; omega) c'
      refine ⟨_, rfl, p, _, _, _, rfl, rfl, hp.same E5, rfl, _, rfl, q, _, _, _, rfl, rfl, hq.same E5, rfl, _, _, rfl, rfl, mulW60 mr.top ms.bot, _, rfl, p, _, _, _, rfl, rfl, hp.same E5, rfl, _, rfl, q, _, _, _, rfl, rfl, hq.same E5, rfl, _, _, rfl, rfl, mulW60 mr.bot ms.top,
        _, _, rfl, nb, lt450 (mul_lt60 mr.bot ms.top), fun u hu => ?_⟩
      have e6 : Same H5 (upd H5 u (qT (low (r.1 * s'.2) (r.2 * s'.1)))) := Same.new hu
      have hu6 : IsR K (upd H5 u (qT (low (r.1 * s'.2) (r.2 * s'.1)))) u (divQ r s') := IsR.of upd_same
      generalize upd H5 u (qT (low (r.1 * s'.2) (r.2 * s'.1))) = H6 at *
      have E6 := E5.trans e6
      refine ⟨_, rfl, _, rfl, .ref m, .ref q, true, true, rfl, rat_md (hpro5.same e6) mm, rat_md (hq.same E6) ms, (fun e => nomatch e), fun _ => ⟨m, q, mulQ r s', s', rfl, rfl, hpro5.same e6, hq.same E6, mm, ms, fun z0 => absurd z0 c', fun _ z7 hz7 => ?_⟩⟩
      rw [div_back sr.rt ss.rt c'] at *
      have e7 : Same H6 (upd H6 z7 (qT r)) := Same.new hz7
      have hz7' : IsR K (upd H6 z7 (qT r)) z7 r := IsR.of upd_same
      generalize upd H6 z7 (qT r) = H7 at *
      have E7 := E6.trans e7
      refine ⟨_, rfl, dQ _, dQ _, dpQ hz7', dpQ (hp.same E7), shQ _, shQ _, _, rfl, ?_⟩
      rw [neQ]
      refine iteF ⟨_, rfl, _, rfl, .ref p, .ref q, true, true, rfl, rat_md (hp.same E7) mr, rat_md (hq.same E7) ms, (fun e => nomatch e), fun _ => ⟨p, q, r, s', rfl, rfl, hp.same E7, hq.same E7, mr, ms, fun z0 => absurd z0 c', fun _ z8 hz8 => ?_⟩⟩
      have e8 : Same H7 (upd H7 z8 (qT (divQ r s'))) := Same.new hz8
      have hz8' : IsR K (upd H7 z8 (qT (divQ r s'))) z8 (divQ r s') := IsR.of upd_same
      generalize upd H7 z8 (qT (divQ r s')) = H8 at *
      refine ⟨_, rfl, dQ _, dQ _, dpQ hz8', dpQ ((hu6.same e7).same e8), shQ _, shQ _, _, rfl, ?_⟩
      rw [neQ]
      exact iteF ⟨_, rfl, (e6.trans e7).trans e8⟩
    · exact ⟨_, rfl, Same.refl _⟩
  rintro σ' H' ⟨o, rfl, e9⟩
  have E9 := E5.trans e9
  have hp9 := hp.same E9
  have hq9 := hq.same E9
  have ht9 := htot5.same e9
  have hm9 := hpro5.same e9
  refine ⟨_, rfl, p, _, _, _, rfl, rfl, hp9, rfl, _, rfl, q, _, _, _, rfl, rfl, hq9, rfl, _, _, rfl, rfl, mulW60 mr.top ms.bot, _, rfl, q, _, _, _, rfl, rfl, hq9, rfl, _, rfl, p, _, _, _, rfl, rfl, hp9, rfl, _, _, rfl, rfl, mulW60 ms.top mr.bot, _, _, rfl, ?_⟩
  refine ⟨_, rfl, _, rfl, .ref p, .ref q, true, true, rfl, rat_md hp9 mr, rat_md hq9 ms, (fun e => nomatch e), fun _ => ⟨p, q, r, s', rfl, rfl, hp9, hq9, mr, ms, ?_⟩⟩
  refine ⟨_, rfl, _, rfl, _, _, rfl, rfl, .inr ⟨_, rfl, _, rfl, _, rfl, _, _, rfl, rfl, .inr ⟨_, rfl, _, _, rfl, rfl, rfl, _, rfl, ?_⟩⟩⟩
  have c1 := cmp_is r s'
  have t1 : (!decide (V.int (cmpQ r s') = V.int ((if decide (s'.1 * r.2 < r.1 * s'.2) = true then (1 : Int) else 0) - (if decide (r.1 * s'.2 < s'.1 * r.2) = true then 1 else 0)))) = false := by
    rw [decide_eq_true (congrArg V.int c1)]
    rfl
  refine iteF' t1 ?_
  have c2 := cmp_back r s'
  have t2 : (!decide (V.int (cmpQ s' r) = V.int (0 - cmpQ r s'))) = false := by
    rw [decide_eq_true (congrArg V.int c2)]
    rfl
  refine ⟨_, rfl, _, rfl, .ref q, .ref p, true, true, rfl, rat_md hq9 ms, rat_md hp9 mr, (fun e => nomatch e), fun _ => ⟨q, p, s', r, rfl, rfl, hq9, hp9, ms, mr, ?_⟩⟩
  refine ⟨_, rfl, _, rfl, .ref p, .ref q, true, true, rfl, rat_md hp9 mr, rat_md hq9 ms, (fun e => nomatch e), fun _ => ⟨p, q, r, s', rfl, rfl, hp9, hq9, mr, ms, ?_⟩⟩
  refine ⟨_, _, rfl, rfl, rfl, _, rfl, ?_⟩
  refine iteF' t2 ?_
  refine ⟨_, rfl, .ref p, true, rfl, rat_md hp9 mr, (fun e => nomatch e), fun _ => ⟨p, r, rfl, hp9, mr, ?_⟩⟩
  refine ⟨_, rfl, p, r, rfl, hp9, mr, rfl, _, rfl, ?_⟩
  refine iteT' (decide_eq_true rfl) ?_
  refine ⟨_, rfl, .ref t, true, rfl, rat_md ht9 ma, (fun e => nomatch e), fun _ => ⟨t, _, rfl, ht9, ma, ?_⟩⟩
  refine ⟨_, rfl, t, _, rfl, ht9, ma, rfl, _, rfl, ?_⟩
  refine iteT' (decide_eq_true rfl) ?_
  exact ⟨_, rfl, .ref m, true, rfl, rat_md hm9 mm, k _ E9⟩
end
end K0
namespace K0
open PySem PySem.Spec PyProof.Rows L2
/-! ### repr of data, where no repr is under way -/
/-- repr(x) is the text z -/
def Shown (K : PySem.W.Frag) (H : Hp) (x : V) (z : Str) : Prop := ∃ d : PyData, Dp K H x d ∧ d.showable = true ∧ d.hasDict = false ∧ d.depth ≤ 60 ∧ d.shown.length ≤ sizeLine ∧ z = d.shown
theorem call_reprS {X : Cx} (hg : X.A.guards = some []) (hu : X.A.units + 64 < cLine) : CallR X (.builtin "repr") (fun xs H Q => ∃ (x : V) (z : Str), xs = [x] ∧ Shown X.K H x z ∧ Q (.str z) H) := by
  intro pins s σ H xs us Q I r h
  obtain ⟨x, z, rfl, ⟨d, dp, sh, nd, de, le, rfl⟩, q⟩ := h
  obtain ⟨u, rfl, ru⟩ := vals1 r
  have ends : ∀ h' tk, (∀ b o, s.heap.get? b = some o → h'.get? b = some o) → ∀ t, EP X pins σ Q (.str d.shown t) { s with heap := h', toks := tk } := fun h' tk kp t => ⟨.str d.shown, H, I.kept kp, ⟨t, rfl⟩, q⟩
  cases dp with
  | non =>
    cases (show u = Value.none from ru)
    exact PySem.P.repr_of_none (ends _ _ (fun _ _ e => e) _)
  | bl b =>
    cases (show u = Value.bool b from ru)
    exact PySem.P.repr_of_bool (ends _ _ (fun _ _ e => e) _)
  | int i =>
    obtain ⟨t, e⟩ := (show ∃ t, u = Value.int i t from ru)
    subst e
    exact PySem.P.repr_of_int (of_decide_eq_true sh) (ends _ _ (fun _ _ e => e) _)
  | str y =>
    obtain ⟨t, e⟩ := (show ∃ t, u = Value.str y t from ru)
    subst e
    exact PySem.P.repr_of_str (ends _ _ (fun _ _ e => e) _) le
  | @lst a ys ds h1 h2 =>
    obtain ⟨as, rd⟩ := Dp.reads I _ _ _ (.lst h1 h2) ru
    cases (show u = Value.ref a from ru)
    exact repr_of_reads' rd sh (fun e => by rw [nd] at e; cases e) hg (by omega) (fun _ _ e => e) (fun h' u tk kp => ends h' tk kp u) le
  | @tup a ys ds h1 h2 =>
    obtain ⟨as, rd⟩ := Dp.reads I _ _ _ (.tup h1 h2) ru
    cases (show u = Value.ref a from ru)
    exact repr_of_reads' rd sh (fun e => by rw [nd] at e; cases e) hg (by omega) (fun _ _ e => e) (fun h' u tk kp => ends h' tk kp u) le
/-! ### try with several clauses, some with a name -/
abbrev Clause := Value × Option Nat × (Addr → Value → Option Addr → TS)
/-- behind a clause with a name the slot is empty -/
def gone (i : Nat) (D : Ends) : Ends := { nx := fun σ H => D.nx (σ.set i none) H, rt := D.rt, bk := fun σ H => D.bk (σ.set i none) H, ct := fun σ H => D.ct (σ.set i none) H }
/-- what a clause does with the error at a -/
def clauseRun (D : Ends) (ts : Addr → Value → Option Addr → TS) (a : Addr) (cls : Value) (d : Option Addr) (σ : L2.St) (H : Hp) : Option Nat → Prop
  | none => ts a cls d D σ H
  | some i => i < σ.length → ts a cls d (gone i D) (σ.set i (some (.ref a))) H
/-- the clauses one behind the other -/
def wMix (K : PySem.W.Frag) (D : Ends) : List Clause → WX
  | [] => fun _ _ _ _ => False
  | c :: r => fun cls d σ H => ∃ b, PySem.W.exmOne K cls c.1 = some b ∧ (b = true → ∀ a, H a = none → clauseRun D c.2.2 a cls d σ H c.2.1) ∧ (b = false → wMix K D r cls d σ H)
inductive MixOk (X : Cx) : List ExceptHandler → List Clause → Prop
  | nil : MixOk X [] []
  | plain {x : Str} {c : Value} {ts : Addr → Value → Option Addr → TS} {st : Stmt} {sts : List Stmt} {p p' : Pos} {hs : List ExceptHandler} {l : List Clause} (hc : Names X x c)
      (hsu : ∀ (a : Addr) (oe : Obj) (cls : Value) (d : Option Addr) (pn : List (Addr × Obj)), Zc cls d oe → (∃ vs, oe.data = .fields vs) → PSs (X.suite a ((a, oe) :: pn)) (st :: sts) (ts a cls d)) (r : MixOk X hs l) :
      MixOk X (.ExceptHandler (some (.Name x p)) none (st :: sts) p' :: hs) ((c, none, ts) :: l)
  | named {x n : Str} {c : Value} {i : Nat} {ts : Addr → Value → Option Addr → TS} {st : Stmt} {sts : List Stmt} {p p' : Pos} {hs : List ExceptHandler} {l : List Clause} (hc : Names X x c) (hi : X.N[i]? = some n) (hn : X.env.kindOf n = some .local)
      (hsu : ∀ (a : Addr) (oe : Obj) (cls : Value) (d : Option Addr) (pn : List (Addr × Obj)), Zc cls d oe → (∃ vs, oe.data = .fields vs) → PSs (X.suite a ((a, oe) :: pn)) (st :: sts) (ts a cls d)) (r : MixOk X hs l) :
      MixOk X (.ExceptHandler (some (.Name x p)) (some n) (st :: sts) p' :: hs) ((c, some i, ts) :: l)
section
variable {X : Cx} {body : List Stmt} {h1 : ExceptHandler} {hs : List ExceptHandler} {l : List Clause} {pos : Pos} {tb : WX → TS}
theorem ps_try_mix (hstk : X.stack = X.env :: X.outer) (hfr : X.env.frame = some X.env.locals) (hN : X.N.Nodup)
    (hbody : ∀ (W : WX) (pn : List (Addr × Obj)) (xe : Value → Shared → Prop), Takes (X.tr pn xe) W → PassesOwn (model X.prog X.w) X.A X.env xe → PSs (X.tr pn xe) body (tb W))
    (hclauses : MixOk X (h1 :: hs) l) : PS X (.Try body (h1 :: hs) [] [] pos) (fun D σ H => tb (wMix X.K D l) D σ H) := by
  refine ⟨fun pins s σ H D I h => ?_⟩
  have ok := I.ok
  have frames : X.A.frames = some (X.env :: X.outer) := by
    rw [ok.frames, hstk]
  refine wpAny_Try_except ?_
  refine wpAny_mono ((hbody (wMix X.K D l) (X.pn ++ pins)
      (fun e s1 => wpAny (model X.prog X.w) X.A (noteFrame e X.env) (fun _ s2 => wpAny (model X.prog X.w) X.A (setFlight e none)
        (fun _ s3 => wpAny (model X.prog X.w) X.A (handleBy e X.env (h1 :: hs)) (SP X pins D) X.xe s3) X.xe s2) X.xe s1)
      (fun u s' x => ?caught) PassesOwn.looking).run [] s σ H D (I.toTry _) h) (fun f s1 q => ?through) (fun e s1 q => q)
  case through =>
    cases f with
    | next =>
      obtain ⟨σ1, H1, J, q⟩ := q
      exact wpAny_execs_nil ⟨σ1, H1, J.ofTry ok, q⟩
    | brk =>
      obtain ⟨σ1, H1, J, q⟩ := q
      exact ⟨σ1, H1, J.ofTry ok, q⟩
    | cont =>
      obtain ⟨σ1, H1, J, q⟩ := q
      exact ⟨σ1, H1, J.ofTry ok, q⟩
    | ret u =>
      obtain ⟨v, σ1, H1, J, rv, q⟩ := q
      exact ⟨v, σ1, H1, J.ofTry ok, rv, q⟩
  case caught =>
    obtain ⟨a, B, sI, pins1, σ1, H1, cls, d, rfl, J0, nb, up, sky, na, hos, bare, wish⟩ := x
    have J : Inv X pins σ1 H1 sI := J0.ofTry ok
    have sky1 : Sky B (X.env :: X.outer) a (Zc cls d) X.env.locals s'.heap := by
      rw [← hstk]
      exact sky
    show wpAny (model X.prog X.w) X.A (noteFrame (.ref a) X.env) _ _ _
    refine Sky.land Zc.steady frames hfr sky1 fun g3 fly3 up3 => ?_
    have J3 : Inv X pins σ1 H1 { s' with heap := g3 } := J.landed nb fly3.1 (up.trans up3) hos bare
    obtain ⟨oe3, vs3, ge3, z3, dat3⟩ := fly3.there
    have out3 : a ∉ frs (X.env :: X.outer) := fun hm => by
      obtain ⟨_, o', e', hnf⟩ := fly3.2.2.1.mem hm
      rw [ge3] at e'
      cases e'
      exact hnf _ dat3
    have nL : a ≠ X.env.locals := fun z => out3 (List.mem_filterMap.mpr ⟨X.env, List.mem_cons_self, by rw [hfr, z]⟩)
    have nF : a ∉ X.fs := fun hm => by
      obtain ⟨e, he, q⟩ := List.mem_filterMap.mp hm
      exact out3 (List.mem_filterMap.mpr ⟨e, List.mem_cons_of_mem _ he, q⟩)
    have S3 := J3.suite ge3 dat3 na nL nF
    have asks : ∀ {x : Str} {c : Value} {p : Pos} {Q : Value → Shared → Prop} {E : Value → Shared → Prop}, Names X x c → Q c { s' with heap := g3 } →
        wpAny (model X.prog X.w) (X.A.mark (some (.ref a))) (eval (.Name x p) X.env) Q E { s' with heap := g3 } := fun {x c p Q E} hc q => by
      obtain ⟨hg, hd, hm | ⟨hm, hv, hnn⟩⟩ := hc
      · exact ld_glob (X := X.suite a ((a, oe3) :: (X.pn ++ pins))) S3 hg hm q hd
      · exact ld_blt (X := X.suite a ((a, oe3) :: (X.pn ++ pins))) S3 hg hm hv q hnn hd
    have cls3 : PySem.W.Looks (model X.prog X.w) g3 (typeOf (.ref a)) cls := fun A Q E s k q => wpAny_typeOf_ref (k _ _ ge3) (by rw [z3.1]; exact q)
    have go : ∀ {hs' : List ExceptHandler} {l' : List Clause}, MixOk X hs' l' → wMix X.K D l' cls d σ1 H1 → wpAny (model X.prog X.w) X.A (handleBy (.ref a) X.env hs') (SP X pins D) X.xe { s' with heap := g3 } := by
      intro hs' l' hk
      induction hk with
      | nil => exact fun no => no.elim
      | @plain x c ts st sts p p' hs2 l2 hc hsu r ih =>
        rintro ⟨b, hb, yes, no⟩
        refine wpAny_handleBy_cons (codeAny_handlers_test ?_) (by intro q; cases q)
        refine asks hc ((PySem.W.exm_one (M := model X.prog X.w) J3.kIn cls3 hb).here ?_)
        cases b with
        | false =>
          show wpAny _ X.A (handleBy (.ref a) X.env hs2) _ _ _
          exact ih (no rfl)
        | true =>
          refine codeAny_handlers_suite ?_
          refine HandSPX.lands_againZ fly3 fun g4 fly4 up4 => ?_
          have J4 : Inv X pins σ1 H1 { s' with heap := g4 } := J.landed nb fly4.1 ((up.trans up3).trans up4) hos bare
          obtain ⟨oe4, vs4, ge4, z4, dat4⟩ := fly4.there
          refine wpAny_mono ((hsu a oe4 cls d (X.pn ++ pins) z4 ⟨_, dat4⟩).run [] _ _ H1 _ (J4.suite ge4 dat4 na nL nF) (yes rfl a na)) (fun f s6 q => ?_) (fun _ _ z => z.elim)
          cases f with
          | next =>
            obtain ⟨σ6, H6, S6, q⟩ := q
            exact ⟨_, _, S6.unsuite ok, q⟩
          | brk =>
            obtain ⟨σ6, H6, S6, q⟩ := q
            exact ⟨_, _, S6.unsuite ok, q⟩
          | cont =>
            obtain ⟨σ6, H6, S6, q⟩ := q
            exact ⟨_, _, S6.unsuite ok, q⟩
          | ret u =>
            obtain ⟨v6, σ6, H6, S6, r6, q⟩ := q
            exact ⟨_, _, _, S6.unsuite ok, r6, q⟩
      | @named x n c i ts st sts p p' hs2 l2 hc hi hn hsu r ih =>
        rintro ⟨b, hb, yes, no⟩
        refine wpAny_handleBy_cons (codeAny_handlers_test ?_) (by intro q; cases q)
        refine asks hc ((PySem.W.exm_one (M := model X.prog X.w) J3.kIn cls3 hb).here ?_)
        cases b with
        | false =>
          show wpAny _ X.A (handleBy (.ref a) X.env hs2) _ _ _
          exact ih (no rfl)
        | true =>
          refine codeAny_handlers_suite_as ?_
          refine HandSPX.lands_againZ fly3 fun g4 fly4 up4 => ?_
          have J4 : Inv X pins σ1 H1 { s' with heap := g4 } := J.landed nb fly4.1 ((up.trans up3).trans up4) hos bare
          obtain ⟨oe4, vs4, ge4, z4, dat4⟩ := fly4.there
          refine store_ok (X := X.suite a ((a, oe4) :: (X.pn ++ pins))) (v := .ref a) (J4.suite ge4 dat4 na nL nF) hN hi (.inl hn) rfl (fun s5 S5 => ?_) (.inr hn)
          have close : ∀ {σ6 : L2.St} {H6 : Hp} {s6 : Shared} {R : Shared → Prop}, Inv (X.suite a ((a, oe4) :: (X.pn ++ pins))) [] σ6 H6 s6 → (∀ s7, Inv X pins (σ6.set i none) H6 s7 → R s7) →
              wpAny (model X.prog X.w) X.A (do bindName X.env n .none; unbindBehindTheSuite X.env n p') (fun _ s7 => R s7) X.xe s6 := fun S6 k => gone_ok (S6.unsuite ok) hN hi hn k
          have il : i < σ1.length := by
            rw [J.len]
            exact (List.getElem?_eq_some_iff.mp hi).1
          refine wpAny_mono ((hsu a oe4 cls d (X.pn ++ pins) z4 ⟨_, dat4⟩).run [] s5 _ H1 _ S5 (yes rfl a na il)) (fun f s6 q => ?_) (fun _ _ z => z.elim)
          cases f with
          | next =>
            obtain ⟨σ6, H6, S6, q⟩ := q
            exact close S6 fun s7 J7 => ⟨_, _, J7, q⟩
          | brk =>
            obtain ⟨σ6, H6, S6, q⟩ := q
            exact close S6 fun s7 J7 => ⟨_, _, J7, q⟩
          | cont =>
            obtain ⟨σ6, H6, S6, q⟩ := q
            exact close S6 fun s7 J7 => ⟨_, _, J7, q⟩
          | ret u =>
            obtain ⟨v6, σ6, H6, S6, r6, q⟩ := q
            exact close S6 fun s7 J7 => ⟨_, _, _, J7, r6, q⟩
    exact go hclauses wish
end
end K0
namespace K0
open PySem PySem.Spec PyProof.Rows L2 LamX
/-! ### promises that lean on no repr being under way -/
structure FnG (P : Program) (w : World) (K : PySem.W.Frag) (mg : Str → Option Value) (base : Heap) (CX : CXT) (k : Nat) (f : Addr) (fd : FuncData) (ps : List Str) (sp : Sp) : Prop where
  len : ∀ vs H Q E, sp vs H Q E → vs.length = ps.length
  run : ∀ (A : Around) (outer : List Env) (s : Shared) (H : Hp) (args : Args) (us : List Value) (vs : List V) (Q : VK) (E : XK), A.guards = some [] → Room k A → Env0 P w K mg base A outer s H → BindsTo s fd args (ps.zip us) → Vals vs us → sp vs H Q E →
    codeAny (model P w) A (.call (.ref f) args) (CR CX outer P w H s Q E) s
section
variable {X : Cx} {k : Nat} {f : Addr} {fd : FuncData} {ps : List Str} {sp : Sp} {x : Str} {p pos : Pos} {e : Expr} {es : List Expr} {t : TA}
theorem pe_callG (F : FnG X.prog X.w X.K X.mg X.base CX0 k f fd ps sp) (hgd : X.A.guards = some []) (hr : Room k X.A) (hg : Gl X x) (hm : X.mg x = some (.ref f)) (hk : PySem.W.keepIn X.K (.ref f) = true) (hb : Binds X.K fd ps []) (ha : PA X (e :: es) t)
    (hdb : (x == ("__debug__" : Str)) = false := by decide) (he : starEach (e :: es) X.env = (false, eval e X.env) :: starEach es X.env := by rfl) (hpl : (backTo pos (starEach es X.env)).any (·.1) = false := by rfl) :
    PE X (.Call (.Name x p) (e :: es) [] pos) (fun σ H Q => t σ H fun vs H1 => sp vs H1 Q E0) := by
  refine ⟨fun pins s σ H Q I h => ?_⟩
  refine wpAny_Call_Name_kw (ld_glob I hg hm ?_ hdb)
  refine PySem.W.callWith_K (h₀ := X.base) I.ok.mod.kin hk (thn (ha.run pos pins s σ H _ I h) fun us s1 ⟨vs, H1, I1, r, q⟩ => ⟨I1.kIn, ?_⟩) he hpl
  have hl : us.length = ps.length := by rw [← r.length]; exact F.len _ _ _ _ q
  refine wpAny_call (codeAny_mono (F.run X.A X.stack s1 H1 ⟨us, []⟩ us vs Q E0 hgd hr I1.env0 ?_ r q) fun r' s2 hq => ?_)
  · have b := hb s1 us I1.kIn (by rw [List.append_nil]; exact hl)
    rw [List.append_nil] at b
    exact b
  · cases r' with
    | error e => exact hq.elim
    | ok fl =>
      cases fl with
      | ret u => exact I1.after hq
      | next => exact hq.elim
      | brk => exact hq.elim
      | cont => exact hq.elim
end
/-! ### a def of two ratios that a name holds, called with what is no ratio -/
def spBad (K : PySem.W.Frag) (C : Addr) : Sp := fun vs H _ E => ∃ (x y : V) (b c : Bool), vs = [x, y] ∧ RatIs K H x b ∧ RatIs K H y c ∧ (b && c) = false ∧ E (.ref C) none H
theorem two_bad {K : PySem.W.Frag} {C : Addr} {R : (Int × Int) → (Int × Int) → Hp → VK → XK → Prop} (vs : List V) (H : Hp) (Q : VK) (E : XK) (h : spBad K C vs H Q E) : spTwo K C R vs H Q E := by
  obtain ⟨x, y, b, c, rfl, hx, hy, e, k⟩ := h
  exact ⟨x, y, b, c, rfl, hx, hy, fun _ => k, fun z => by rw [e] at z; cases z⟩
def HeldBad (P : Program) (w : World) (K : PySem.W.Frag) (mg : Str → Option Value) (base : Heap) (C f : Addr) : Prop :=
  ∃ fd : FuncData, FnOk P w K mg base (L2.CX P w) 5 f fd ["one", "other"] (spBad K C) ∧ PySem.W.keepIn K (.ref f) = true ∧ Binds K fd ["one", "other"] []
def tCallBad (K : PySem.W.Frag) (C : Addr) (i : Nat) (Fs : Addr → Prop) (E : XK) (t : TA) : TE := fun σ H Q => ∃ f, σ[i]? = some (some (.ref f)) ∧ Fs f ∧ t σ H fun vs H1 => spBad K C vs H1 Q E
theorem pe_callBad {X : Cx} {C : Addr} {i : Nat} {Fs : Addr → Prop} {E : XK} {x : Str} {p pos : Pos} {e : Expr} {es : List Expr} {t : TA} (A : ∀ f, Fs f → HeldBad X.prog X.w X.K X.mg X.base C f) (hr : Room 5 X.A) (hx : Passes (L2.CX X.prog X.w) X E)
    (hN : X.N[i]? = some x) (hv : Vis X.env.scope x) (ha : PA X (e :: es) t) (hdb : (x == ("__debug__" : Str)) = false := by decide) (hcd : (x == ("__classdict__" : Str)) = false := by decide)
    (he : starEach (e :: es) X.env = (false, eval e X.env) :: starEach es X.env := by rfl) (hpl : (backTo pos (starEach es X.env)).any (·.1) = false := by rfl) : PE X (.Call (.Name x p) (e :: es) [] pos) (tCallBad X.K C i Fs E t) := by
  refine ⟨fun pins s σ H Q I h => ?_⟩
  obtain ⟨f, hs, hf, ht⟩ := h
  obtain ⟨fd, F, hk, hb⟩ := A f hf
  refine (pe_callL (i := i) (f := f) (dvs := []) (E := E) F hr hN hv hk hb .nil hx ha hdb hcd he hpl).run pins s σ H Q I ⟨hs, ?_⟩
  have e0 : (fun (vs : List V) (H1 : Hp) => spBad X.K C (vs ++ []) H1 Q E) = fun vs H1 => spBad X.K C vs H1 Q E := by
    funext vs H1
    rw [List.append_nil]
  show t σ H (fun vs H1 => spBad X.K C (vs ++ []) H1 Q E)
  rw [e0]
  exact ht
/-! ### what the law makes of a call's end -/
def two (a b : V) : HO := .tup [a, b]
abbrev tR : V := .str "refused"
def FaultEnd (K : PySem.W.Frag) (CR CO CN : Addr) (Q : VK) : XK := fun cls d H =>
  (cls = .ref CR ∧ ∀ p, H p = none → Q (.ref p) (upd H p (two tR (.str "ratio")))) ∨
  (cls = .ref CO ∧ ∀ p, H p = none → Q (.ref p) (upd H p (two tR (.str "operation")))) ∨
  (cls = .ref CN ∧ ∃ (dd : Addr) (v : V) (z : Str), d = some dd ∧ H dd = some (.xd [(("given" : Str), v)]) ∧ Shown K H v z ∧ ∀ p, H p = none → Q (.ref p) (upd H p (two tR (.str z))))
def TFault (K : PySem.W.Frag) (CR CO CN : Addr) : (XK → Hp → VK → Prop) → Hp → VK → Prop := fun tl H Q =>
  tl (FaultEnd K CR CO CN Q) H (fun _ H' => [V.str "let", V.non].length ≤ sizeLine ∧ ∀ p, H' p = none → Q (.ref p) (upd H' p (two (.str "let") .non)))
/-- which clause takes which class -/
structure Clss (K : PySem.W.Frag) (mg : Str → Option Value) (CR CO CN : Addr) : Prop where
  nR : mg "InvalidRatio" = some (.ref CR)
  nO : mg "InvalidOperation" = some (.ref CO)
  nN : mg "InvalidNumber" = some (.ref CN)
  rr : PySem.W.exmOne K (.ref CR) (.ref CR) = some true
  or : PySem.W.exmOne K (.ref CO) (.ref CR) = some false
  oo : PySem.W.exmOne K (.ref CO) (.ref CO) = some true
  nr : PySem.W.exmOne K (.ref CN) (.ref CR) = some false
  no : PySem.W.exmOne K (.ref CN) (.ref CO) = some false
  nn : PySem.W.exmOne K (.ref CN) (.ref CN) = some true
theorem scFault : FnScope ["call", "error"] ["call"] (defScope sFault) := ⟨rfl, rfl, rfl, by decide +kernel, rfl, by decide +kernel, by decide +kernel⟩
theorem bootRepr : bootBuiltins "repr" = some (.builtin "repr") := by decide +kernel
section
variable {X : Cx}
theorem fault_gives {q : Str} {g CR CO CN i0 : Addr} {cdg : Value} (hgd : X.A.guards = some []) (hu : X.A.units + 128 < cLine) (T : Txt X.K X.mg) (M : Clss X.K X.mg CR CO CN) (EN : K0X.NumTxt X.K X.mg CN i0) :
    GivesTo X ["call", "error"] "_law_fault" (defScope sFault) g cdg (defBody sFault) "call" q (TFault X.K CR CO CN) := by
  intro f c' s H Q tl act hc h
  let Y := (cxOf C8.CX0 X.prog X.w X.K X.mg X.base ["call", "error"] "_law_fault" (defScope sFault) g cdg X.A X.stack s H C8.E0).nox
  refine ⟨_, pss_cons (ps_try_mix (X := Y) (l := [(.ref CR, none, fun _ _ _ => tRet (tTup (tCons (tC tR) (tCons (tC (.str "ratio")) tNil)))), (.ref CO, none, fun _ _ _ => tRet (tTup (tCons (tC tR) (tCons (tC (.str "operation")) tNil)))),
        (.ref CN, some 1, fun a cls d => tRet (tTup (tCons (tC tR) (tCons (tCB (fun xs H Q => ∃ (x : V) (z : Str), xs = [x] ∧ Shown X.K H x z ∧ Q (.str z) H) (tCons (tGiven CN a cls d (tVar 1)) tNil)) tNil))))])
      (tb := fun W D σ H => ∃ Ech : XK, (∀ cls d σ' H', Ech cls d H' → W cls d σ' H') ∧ σ[0]? = some (some (.ref f)) ∧ H c' = some (CodeO c' q) ∧ tl Ech H (fun _ H' => D.nx σ H'))
      rfl rfl scFault.nd (fun W pn xe tk _ => ?_)
      (.plain ⟨by rfl, by decide, .inl M.nR⟩ (fun a oe cls d pn _ _ => pss_one (ps_ret (pe_tup (pa_cons pe_str (pa_cons pe_str pa_nil)))))
        (.plain ⟨by rfl, by decide, .inl M.nO⟩ (fun a oe cls d pn _ _ => pss_one (ps_ret (pe_tup (pa_cons pe_str (pa_cons pe_str pa_nil)))))
        (.named ⟨by rfl, by decide, .inl M.nN⟩ rfl rfl (fun a oe cls d pn hz hf => pss_one (ps_ret (pe_tup (pa_cons pe_str (pa_cons (pe_callB (call_reprS (by exact hgd) (by show X.A.units + 3 + 64 < cLine; omega)) (by rfl) T.repr bootRepr (by exact (pa_cons (pe_given (X := Y) EN hz hf (pv 1)) pa_nil))) pa_nil))))) .nil))))
    (pss_one (ps_ret (pe_tup (pa_cons pe_str (pa_cons pe_non pa_nil))))), ?_⟩
  · refine ⟨fun pins s' σ H' D I h' => ?_⟩
    obtain ⟨Ech, hW, h1, h2, h3⟩ := h'
    exact (pss_one (ps_expr (act W pn xe Ech _ _ tk hW))).run pins s' σ H' D I ⟨h1, h2, h3⟩
  · refine ⟨FaultEnd X.K CR CO CN Q, fun cls d σ' H' z => ?_, rfl, hc, ?_⟩
    · rcases z with ⟨rfl, k⟩ | ⟨rfl, k⟩ | ⟨rfl, dd, v, z, rfl, hd, sh, k⟩
      · exact ⟨true, M.rr, fun _ a _ => ⟨by show 2 ≤ sizeLine; decide, k⟩, (fun e => nomatch e)⟩
      · exact ⟨false, M.or, (fun e => nomatch e), fun _ => ⟨true, M.oo, fun _ a _ => ⟨by show 2 ≤ sizeLine; decide, k⟩, (fun e => nomatch e)⟩⟩
      · refine ⟨false, M.nr, (fun e => nomatch e), fun _ => ⟨false, M.no, (fun e => nomatch e), fun _ => ⟨true, M.nn, fun _ a _ hl => ?_, (fun e => nomatch e)⟩⟩⟩
        refine ⟨.ref a, by rw [List.getElem?_set_self hl], rfl, rfl, dd, v, rfl, hd, v, z, rfl, sh, (by show 2 ≤ sizeLine; decide), k⟩
    · exact h
end
end K0
namespace K0
open PySem PySem.Spec PyProof.Rows L2 LamX
/-! ### what stays: all but the lists at S; all but these and the tables of code -/
def NoLst (o : HO) : Prop := ∀ xs, o ≠ .lst xs
def NoTbl (o : HO) : Prop := ∀ ps, o ≠ .tbl ps
def Kq (S : List Addr) (H H' : Hp) : Prop := ∀ b o, H b = some o → (b ∉ S ∨ NoLst o) → H' b = some o
def Kp (S : List Addr) (H H' : Hp) : Prop := ∀ b o, H b = some o → (b ∉ S ∨ NoLst o) → NoTbl o → H' b = some o
theorem tup_nl (xs : List V) : NoLst (.tup xs) := fun _ z => nomatch z
theorem tup_nt (xs : List V) : NoTbl (.tup xs) := fun _ z => nomatch z
theorem lst_nt (xs : List V) : NoTbl (.lst xs) := fun _ z => nomatch z
theorem Kq.refl (S : List Addr) (H : Hp) : Kq S H H := fun _ _ h _ => h
theorem Kq.trans {S : List Addr} {H H1 H2 : Hp} (a : Kq S H H1) (b : Kq S H1 H2) : Kq S H H2 := fun c o h n => b c o (a c o h n) n
theorem Kp.trans {S : List Addr} {H H1 H2 : Hp} (a : Kp S H H1) (b : Kp S H1 H2) : Kp S H H2 := fun c o h n t => b c o (a c o h n t) n t
theorem Kq.kp {S : List Addr} {H H1 : Hp} (a : Kq S H H1) : Kp S H H1 := fun c o h n _ => a c o h n
theorem Kp.of {S : List Addr} {H H1 : Hp} (a : ExtN H H1) : Kp S H H1 := fun c o h _ t => a c o h t
theorem Kq.same {S : List Addr} {H H1 : Hp} (a : Same H H1) : Kq S H H1 := fun c o h _ => a c o h
theorem Kq.new {S : List Addr} {H : Hp} {p : Addr} {o : HO} (hp : H p = none) : Kq S H (upd H p o) := fun c u h _ => by
  rw [upd_ne (ne_of_none h hp)]
  exact h
theorem Kq.write {S : List Addr} {H : Hp} {s : Addr} {xs : List V} {o : HO} (hs : s ∈ S) (h : H s = some (.lst xs)) : Kq S H (upd H s o) := fun c u e n => by
  by_cases z : c = s
  · subst z
    rw [h] at e
    cases e
    rcases n with n | n
    · exact absurd hs n
    · exact absurd rfl (n xs)
  · rw [upd_ne z]
    exact e
theorem Kq.but {d : Addr} {S : List Addr} {H H1 : Hp} {L : List V} (hs : d ∈ S) (hd : H d = some (.lst L)) (a : KeepBut d H H1) : Kq S H H1 := fun c o e n => by
  by_cases z : c = d
  · subst z
    rw [hd] at e
    cases e
    rcases n with n | n
    · exact absurd hs n
    · exact absurd rfl (n L)
  · exact a c o z e
theorem tab_kq {S : List Addr} {H H' : Hp} {P : Addr} {q : Str} (t : TabS H P q) (k : Kq S H H') : TabS H' P q := by
  obtain ⟨ps, h1, h2, h3⟩ := t
  refine ⟨ps, k _ _ h1 (.inr fun _ z => nomatch z), h2, fun pos cv hc => ?_⟩
  obtain ⟨c, e1, e2⟩ := h3 pos cv hc
  exact ⟨c, e1, k _ _ e2 (.inr fun _ z => by unfold CodeO at z; cases z)⟩
/-! ### data -/
def isFlat : PyData → Bool
  | .none => true
  | .bool _ => true
  | .int _ => true
  | .str _ => true
  | _ => false
def fV : PyData → V
  | .none => .non
  | .bool b => .bl b
  | .int i => .int i
  | .str z => .str z
  | _ => .non
/-- x is the data d; a list stands apart from S -/
inductive Dt (S : List Addr) (H : Hp) : V → PyData → Prop
  | flat {d : PyData} (h : isFlat d = true) : Dt S H (fV d) d
  | tup {a : Addr} {ds : List PyData} (h : ds.all isFlat = true) (e : H a = some (.tup (ds.map fV))) : Dt S H (.ref a) (.tuple ds)
  | lst {a : Addr} {ds : List PyData} (h : ds.all isFlat = true) (n : a ∉ S) (e : H a = some (.lst (ds.map fV))) : Dt S H (.ref a) (.list ds)
theorem flat_dp {K : PySem.W.Frag} {H : Hp} : ∀ {d : PyData}, isFlat d = true → Dp K H (fV d) d
  | .none, _ => .non
  | .bool b, _ => .bl b
  | .int i, _ => .int i
  | .str z, _ => .str z
  | .list _, h => nomatch h
  | .tuple _, h => nomatch h
  | .dict _, h => nomatch h
theorem flat_vk {K : PySem.W.Frag} {H : Hp} : ∀ {d : PyData}, isFlat d = true → Vk K H (fV d)
  | .none, _ => .non
  | .bool b, _ => .bl b
  | .int i, _ => .int i
  | .str z, _ => .str z
  | .list _, h => nomatch h
  | .tuple _, h => nomatch h
  | .dict _, h => nomatch h
theorem flats_dp {K : PySem.W.Frag} {H : Hp} : ∀ {ds : List PyData}, ds.all isFlat = true → DpAll K H (ds.map fV) ds
  | [], _ => .nil
  | d :: ds, h => by
    rw [List.all_cons, Bool.and_eq_true] at h
    exact .cons (flat_dp h.1) (flats_dp h.2)
section
variable {K : PySem.W.Frag} {S : List Addr} {H H' : Hp} {x : V} {d : PyData}
theorem Dt.dp (h : Dt S H x d) : Dp K H x d := by
  cases h with
  | flat h => exact flat_dp h
  | tup h e => exact .tup (SqT.of e) (flats_dp h)
  | lst h _ e => exact .lst (SqL.of e) (flats_dp h)
theorem Dt.vk (h : Dt S H x d) : Vk K H x := by
  cases h with
  | flat h => exact flat_vk h
  | tup h e => exact .tup (SqT.of e)
  | lst h _ e => exact .lst e
theorem Dt.mono (h : Dt S H x d) (k : Kp S H H') : Dt S H' x d := by
  cases h with
  | flat h => exact .flat h
  | tup h e => exact .tup h (k _ _ e (.inr (tup_nl _)) (tup_nt _))
  | lst h n e => exact .lst h n (k _ _ e (.inl n) (lst_nt _))
/-- one address more that is left out: a new one -/
theorem Dt.more {l : Addr} {o : HO} (h : Dt S H x d) (hl : H l = none) : Dt (l :: S) (upd H l o) x d := by
  cases h with
  | flat h => exact .flat h
  | tup h e => exact .tup h (by rw [upd_ne (ne_of_none e hl)]; exact e)
  | lst h n e => exact .lst h (fun z => (List.mem_cons.mp z).elim (fun z => ne_of_none e hl z) n) (by rw [upd_ne (ne_of_none e hl)]; exact e)
/-- no ratio -/
def noRat : PyData → Bool
  | .tuple [a, b] => !(quotB (fV a) (fV b) && i60 (fV a) && i60 (fV b))
  | _ => true
theorem Dt.rat (h : Dt S H x d) (n : noRat d = true) : RatIs K H x false := by
  cases h with
  | @flat d h =>
    cases d with
    | none => exact .no .non
    | bool b => exact .no (.bl b)
    | int i => exact .no (.int i)
    | str z => exact .no (.str z)
    | list _ => cases h
    | tuple _ => cases h
    | dict _ => cases h
  | @tup a ds h e =>
    match ds, h, e, n with
    | [], _, e, _ => exact .no (.len (SqT.of e) (by simp))
    | [_], _, e, _ => exact .no (.len (SqT.of e) (by simp))
    | [a, b], h, e, n =>
      have e2 : (quotB (fV a) (fV b) && i60 (fV a) && i60 (fV b)) = false := by
        have n' : (!(quotB (fV a) (fV b) && i60 (fV a) && i60 (fV b))) = true := n
        rw [Bool.not_eq_true'] at n'
        exact n'
      rw [List.all_cons, List.all_cons, Bool.and_eq_true, Bool.and_eq_true] at h
      have q := RatIs.two (K := K) (SqT.of (K := K) e) (flat_vk h.1) (flat_vk h.2.1)
      rw [e2] at q
      exact q
    | _ :: _ :: _ :: _, _, e, _ => exact .no (.len (SqT.of e) (by simp))
  | lst h _ e => exact .no (.lst e)
def showOk (d : PyData) : Bool := d.showable && !d.hasDict && decide (d.depth ≤ 60) && decide (d.shown.length ≤ 1000)
theorem Dt.shown (h : Dt S H x d) (o : showOk d = true) : Shown K H x d.shown := by
  unfold showOk at o
  simp only [Bool.and_eq_true, Bool.not_eq_true', decide_eq_true_eq] at o
  exact ⟨d, h.dp, o.1.1.1, o.1.1.2, o.1.2, sl o.2, rfl⟩
/-- no integer of sixty digits; none that can stand below -/
def noInt : PyData → Bool
  | .int i => !i60 (.int i)
  | _ => true
def noLow : PyData → Bool
  | .int i => !low60 (.int i)
  | _ => true
theorem Dt.noint (h : Dt S H x d) (n : noInt d = true) : i60 x = false := by
  cases h with
  | @flat d h =>
    cases d with
    | int i =>
      have n' : (!i60 (.int i)) = true := n
      rw [Bool.not_eq_true'] at n'
      exact n'
    | none => rfl
    | bool b => rfl
    | str z => rfl
    | list _ => cases h
    | tuple _ => cases h
    | dict _ => cases h
  | tup h e => rfl
  | lst h _ e => rfl
theorem Dt.nolow (h : Dt S H x d) (n : noLow d = true) : low60 x = false := by
  cases h with
  | @flat d h =>
    cases d with
    | int i =>
      have n' : (!low60 (.int i)) = true := n
      rw [Bool.not_eq_true'] at n'
      exact n'
    | none => rfl
    | bool b => rfl
    | str z => rfl
    | list _ => cases h
    | tuple _ => cases h
    | dict _ => cases h
  | tup h e => rfl
  | lst h _ e => rfl
end
/-! ### lists of data -/
abbrev Dts (S : List Addr) (H : Hp) (xs : List V) (ds : List PyData) : Prop := Paired (fun x d => Dt S H x d) xs ds
section
variable {K : PySem.W.Frag} {S : List Addr} {H H' : Hp}
theorem Dts.mono {xs : List V} {ds : List PyData} (h : Dts S H xs ds) (k : Kp S H H') : Dts S H' xs ds := Paired.mapP h fun _ _ z => z.mono k
theorem Dts.dp : ∀ {xs : List V} {ds : List PyData}, Dts S H xs ds → DpAll K H xs ds
  | _, _, .nil => .nil
  | _, _, .cons a b => .cons a.dp (Dts.dp b)
theorem Dts.snoc {x : V} {d : PyData} : ∀ {xs : List V} {ds : List PyData}, Dts S H xs ds → Dt S H x d → Dts S H (xs ++ [x]) (ds ++ [d])
  | _, _, .nil, h => .cons h .nil
  | _, _, .cons a b, h => .cons a (Dts.snoc b h)
theorem Dts.mem {x : V} : ∀ {xs : List V} {ds : List PyData}, Dts S H xs ds → x ∈ xs → ∃ d, d ∈ ds ∧ Dt S H x d
  | _, _, .nil, h => nomatch h
  | _, _, .cons a b, h => by
    rcases List.mem_cons.mp h with e | e
    · subst e
      exact ⟨_, List.mem_cons_self, a⟩
    · obtain ⟨d, h1, h2⟩ := Dts.mem b e
      exact ⟨d, List.mem_cons_of_mem _ h1, h2⟩
end
end K0
namespace K0
open PySem PySem.Spec PyProof.Rows L2 LamX
theorem pw10 {k : Int} (h1 : 0 ≤ k) (h2 : k ≤ 1000000) : CPow 10 k := ⟨h1, h2, by decide⟩
theorem kq_none {S : List Addr} {H H1 : Hp} {l : Addr} (k : Kq S H H1) (hl : H1 l = none) (hS : ∀ s ∈ S, H1 s ≠ none) : H l = none := by
  cases e : H l with
  | none => rfl
  | some o =>
    have n : l ∉ S := fun z => hS l z hl
    rw [k l o e (.inl n)] at hl
    cases hl
theorem kp_drop {S : List Addr} {H H1 H2 : Hp} {l : Addr} (k : Kq S H H1) (hl : H l = none) (k2 : Kp (l :: S) H1 H2) : Kp S H H2 := fun c o h n t => by
  have ne : c ≠ l := ne_of_none h hl
  exact k2 c o (k c o h n) (n.imp (fun z q => (List.mem_cons.mp q).elim ne z) id) t
/-- what the calls that are told leave: the list of what was told, at lt -/
structure Run (S : List Addr) (Hs : Hp) (Pt lt : Addr) (q : Str) (ts : List V) (ds : List PyData) (H : Hp) : Prop where
  kp : Kp S Hs H
  tab : TabS H Pt q
  here : H lt = some (.lst ts)
  dts : Dts S H ts ds
section
variable {S : List Addr} {Hs H H1 : Hp} {Pt lt p : Addr} {q : Str} {ts : List V} {ds : List PyData}
theorem Run.len (R : Run S Hs Pt lt q ts ds H) (h : ds.length < 1000) : ts.length < sizeLine := by
  have e : ts.length = ds.length := R.dts.length
  exact small1000 (by omega)
theorem Run.ext (R : Run S Hs Pt lt q ts ds H) (e : ExtN H H1) (t : Tabs [(Pt, q)] H1) : Run S Hs Pt lt q ts ds H1 :=
  ⟨R.kp.trans (.of e), t (Pt, q) List.mem_cons_self, e _ _ R.here (lst_nt _), R.dts.mono (.of e)⟩
theorem Run.same (R : Run S Hs Pt lt q ts ds H) (e : Same H H1) : Run S Hs Pt lt q ts ds H1 :=
  ⟨R.kp.trans (Kq.same e).kp, tab_kq (S := S) R.tab (Kq.same e), e _ _ R.here, R.dts.mono (Kq.same e).kp⟩
theorem Run.tabs (R : Run S Hs Pt lt q ts ds H) : Tabs [(Pt, q)] H := fun p hp => by
  rw [List.mem_singleton.mp hp]
  exact R.tab
theorem Run.add {a b : PyData} (R : Run S Hs Pt lt q ts ds H) (hS : lt ∈ S) (hp : H p = none) (ha : isFlat a = true) (hb : isFlat b = true) :
    Run S Hs Pt lt q (ts ++ [.ref p]) (ds ++ [.tuple [a, b]]) (upd (upd H p (.tup [fV a, fV b])) lt (.lst (ts ++ [.ref p]))) := by
  have k1 : Kq S H (upd H p (.tup [fV a, fV b])) := .new hp
  have ne : lt ≠ p := ne_of_none R.here hp
  have h2 : upd H p (.tup [fV a, fV b]) lt = some (.lst ts) := by rw [upd_ne ne]; exact R.here
  have k2 : Kq S (upd H p (.tup [fV a, fV b])) (upd (upd H p (.tup [fV a, fV b])) lt (.lst (ts ++ [.ref p]))) := .write hS h2
  have d1 : Dt S (upd H p (.tup [fV a, fV b])) (.ref p) (.tuple [a, b]) := .tup (by simp [ha, hb]) upd_same
  exact ⟨R.kp.trans (k1.trans k2).kp, tab_kq R.tab (k1.trans k2), upd_same, (R.dts.mono (k1.trans k2).kp).snoc (d1.mono k2.kp)⟩
end
end K0
namespace K0
open PySem PySem.Spec PyProof.Rows L2 LamX
abbrev nRight : List Str := ["dice", "other", "top", "bottom", "odd", "told", "due", "bad", "call", "low", "none", "one", "value"]
theorem scRight : FnScope nRight ["dice"] (defScope sRight) := ⟨rfl, rfl, rfl, by decide +kernel, rfl, by decide +kernel, by decide +kernel⟩
def qL : Str := (envOfC "_law_right" (defScope sRight) 0 0 .none).qual ++ ("<lambda>" : Str)
/-- what the program's defs are, and where -/
structure Defs (P : Program) (w : World) (K : PySem.W.Frag) (mg : Str → Option Value) (base : Heap) (CR CO CN i0 : Addr) : Prop where
  txt : Txt K mg
  num : K0X.NumTxt K mg CN i0
  cls : Clss K mg CR CO CN
  drawn : ∃ f fd, mg "_law_ratio_drawn" = some (.ref f) ∧ PySem.W.keepIn K (.ref f) = true ∧ Binds K fd ["dice"] [] ∧ FnOk P w K mg base CX0 3 f fd ["dice"] spDrawn
  near : ∃ f fd, mg "_law_near" = some (.ref f) ∧ PySem.W.keepIn K (.ref f) = true ∧ Binds K fd ["dice", "most"] [] ∧ FnOk P w K mg base CX0 2 f fd ["dice", "most"] spNear
  roll : ∃ f fd, mg "_law_roll" = some (.ref f) ∧ PySem.W.keepIn K (.ref f) = true ∧ Binds K fd ["dice", "total"] [] ∧ FnOk P w K mg base CX0 1 f fd ["dice", "total"] spRoll
  pick : ∃ f fd, mg "_law_pick" = some (.ref f) ∧ PySem.W.keepIn K (.ref f) = true ∧ Binds K fd ["dice", "items"] [] ∧ FnOk P w K mg base CX0 2 f fd ["dice", "items"] spPick
  llow : ∃ f fd, mg "_law_lowest" = some (.ref f) ∧ PySem.W.keepIn K (.ref f) = true ∧ Binds K fd ["top", "bottom"] [] ∧ FnOk P w K mg base CX0 2 f fd ["top", "bottom"] spLow
  two : ∃ f fd, mg "_law_two_right" = some (.ref f) ∧ PySem.W.keepIn K (.ref f) = true ∧ Binds K fd ["one", "other"] [] ∧ FnOk P w K mg base CX0 6 f fd ["one", "other"] (spLTwo K)
  isr : ∃ f fd, mg "is_ratio" = some (.ref f) ∧ PySem.W.keepIn K (.ref f) = true ∧ Binds K fd ["value"] [] ∧ FnOk P w K mg base CX0 3 f fd ["value"] (spIsRatio K)
  isi : ∃ f fd, mg "is_integer" = some (.ref f) ∧ PySem.W.keepIn K (.ref f) = true ∧ Binds K fd ["value"] [] ∧ FnOk P w K mg base CX0 2 f fd ["value"] (spIsInt K)
  lowest : ∃ f fd, mg "lowest" = some (.ref f) ∧ PySem.W.keepIn K (.ref f) = true ∧ Binds K fd ["top", "bottom"] [] ∧ FnOk P w K mg base (L2.CX P w) 4 f fd ["top", "bottom"] (spLowest K CN)
  rtext : ∃ f fd, mg "ratio_text" = some (.ref f) ∧ PySem.W.keepIn K (.ref f) = true ∧ Binds K fd ["ratio"] [] ∧ FnOk P w K mg base (L2.CX P w) 4 f fd ["ratio"] (spRText K CR)
  plus : ∃ f fd, mg "plus" = some (.ref f) ∧ PySem.W.keepIn K (.ref f) = true ∧ Binds K fd ["one", "other"] [] ∧ FnOk P w K mg base (L2.CX P w) 5 f fd ["one", "other"] (spTwo K CR rAddQ)
  minus : ∃ f fd, mg "minus" = some (.ref f) ∧ PySem.W.keepIn K (.ref f) = true ∧ Binds K fd ["one", "other"] [] ∧ FnOk P w K mg base (L2.CX P w) 5 f fd ["one", "other"] (spTwo K CR rSubQ)
  times : ∃ f fd, mg "times" = some (.ref f) ∧ PySem.W.keepIn K (.ref f) = true ∧ Binds K fd ["one", "other"] [] ∧ FnOk P w K mg base (L2.CX P w) 5 f fd ["one", "other"] (spTwo K CR rMulQ)
  over : ∃ f fd, mg "over" = some (.ref f) ∧ PySem.W.keepIn K (.ref f) = true ∧ Binds K fd ["one", "other"] [] ∧ FnOk P w K mg base (L2.CX P w) 5 f fd ["one", "other"] (spTwo K CR (rOverQ CO))
  compare : ∃ f fd, mg "compare" = some (.ref f) ∧ PySem.W.keepIn K (.ref f) = true ∧ Binds K fd ["one", "other"] [] ∧ FnOk P w K mg base (L2.CX P w) 5 f fd ["one", "other"] (spTwo K CR rCmpQ)
  fault : ∃ (f : Addr) (oc : Value) (od : Option Addr) (kV doc pm : Value) (an : Option Addr) (cdv ct : Value) (osl : Array (Option Value)), mg "_law_fault" = some (.ref f) ∧ PySem.W.keepIn K (.ref f) = true ∧
    K.lookup f = some ⟨oc, od, .func (PySem.W.fnOf "_law_fault" "_law_fault" (defArgs sFault) (defBody sFault) (defScope sFault) .none kV doc pm an cdv ct), osl⟩ ∧ PySem.W.codeIn K cdv "_law_fault" = true
def spRight (Pt : Addr) : Sp := fun vs H Q _ => ∃ (d : Addr) (L : List V), vs = [.ref d] ∧ H d = some (.lst L) ∧ DiceL L ∧ TabS H Pt qL ∧ ∀ H', Kp [d] H H' → TabS H' Pt qL → Q (.bl true) H'
def oddD : List PyData := [.tuple [.int 2, .int 4], .tuple [.int 1, .int 0], .tuple [.int 1, .int (-2)], .tuple [.int 0, .int 2], .tuple [.int 1, .int 2, .int 3], .list [.int 1, .int 2], .tuple [.int 1], .str "1/2", .none, .int 1,
  .tuple [.bool true, .int 1], .tuple [.int 1, .bool true], .tuple [.int (10 ^ (60 : Int).toNat), .int 1]]
def badD : List PyData := [.none, .bool true, .str "1", .int (10 ^ (60 : Int).toNat), .tuple [.int 1]]
def lowD : List PyData := [.none, .bool false, .int 0, .str "2", .int (10 ^ (60 : Int).toNat), .list [.int 2]]
def dR : PyData := .tuple [.str "refused", .str "ratio"]
theorem can_cons {d : PyData} {ds : List PyData} (h : d.canLay0 = true) (hs : PyData.canLayAll0 ds = true) : PyData.canLayAll0 (d :: ds) = true := by
  rw [PyData.canLayAll0, h, hs]
  rfl
theorem can_two {a b : Str} (ha : (PyData.str a).canLay0 = true) (hb : (PyData.str b).canLay0 = true) : (PyData.tuple [.str a, .str b]).canLay0 = true := by
  rw [PyData.canLay0]
  exact can_cons ha (can_cons hb rfl)
theorem due_shaped {a b : Str} (ha : (PyData.str a).canLay0 = true) (hb : (PyData.str b).canLay0 = true) :
    SeqAt.shaped (.list (List.replicate 10 dR ++ [dR] ++ [.tuple [.str "refused", .str a]] ++ [.tuple [.str "refused", .str b]] ++ [.tuple [.str "refused", .str "operation"]])) = true := by
  rw [SeqAt.shaped, Bool.and_eq_true]
  have hr : (PyData.str "refused").canLay0 = true := by decide +kernel
  have hq : dR.canLay0 = true := can_two hr (by decide +kernel)
  refine ⟨?_, ?_⟩
  · rw [PyData.canLay0]
    exact can_cons hq (can_cons hq (can_cons hq (can_cons hq (can_cons hq (can_cons hq (can_cons hq (can_cons hq (can_cons hq (can_cons hq (can_cons hq (can_cons (can_two hr ha) (can_cons (can_two hr hb) (can_cons (can_two hr (by decide +kernel)) rfl)))))))))))))
  · rfl
def fine (d : PyData) : Bool := showOk d && (PyData.str d.shown).canLay0
theorem fine_show {d : PyData} (h : fine d = true) : showOk d = true := (Bool.and_eq_true_iff.mp h).1
theorem fine_lay {d : PyData} (h : fine d = true) : (PyData.str d.shown).canLay0 = true := (Bool.and_eq_true_iff.mp h).2
theorem odd_ok : oddD.all noRat = true := by decide +kernel
theorem bad_ok : badD.all (fun d => noInt d && fine d) = true := by decide +kernel
theorem low_ok : lowD.all (fun d => noLow d && fine d) = true := by decide +kernel
section
variable {P : Program} {w : World} {K : PySem.W.Frag} {mg : Str → Option Value} {base : Heap} {CR CO CN i0 : Addr}
theorem ok_right {f c Pt : Addr} {kV doc pm ct oc : Value} {an od : Option Addr} {osl : Array (Option Value)} (lk : K.lookup f = some ⟨oc, od, .func (PySem.W.fnOf "_law_right" "_law_right" (defArgs sRight) (defBody sRight) (defScope sRight) .none kV doc pm an (.ref c) ct), osl⟩)
    (hcd : PySem.W.codeIn K (.ref c) "_law_right" = true) (TB : TabB base mg c Pt) (D : Defs P w K mg base CR CO CN i0) :
    FnG P w K mg base CX0 8 f (PySem.W.fnOf "_law_right" "_law_right" (defArgs sRight) (defBody sRight) (defScope sRight) .none kV doc pm an (.ref c) ct) ["dice"] (spRight Pt) := by
  obtain ⟨fDr, dDr, gDr, kDr, bDr, FDr⟩ := D.drawn
  obtain ⟨fNe, dNe, gNe, kNe, bNe, FNe⟩ := D.near
  obtain ⟨fRo, dRo, gRo, kRo, bRo, FRo⟩ := D.roll
  obtain ⟨fPi, dPi, gPi, kPi, bPi, FPi⟩ := D.pick
  obtain ⟨fLL, dLL, gLL, kLL, bLL, FLL⟩ := D.llow
  obtain ⟨fTw, dTw, gTw, kTw, bTw, FTw⟩ := D.two
  obtain ⟨fIR, dIR, gIR, kIR, bIR, FIR⟩ := D.isr
  obtain ⟨fLo, dLo, gLo, kLo, bLo, FLo⟩ := D.lowest
  obtain ⟨fRT, dRT, gRT, kRT, bRT, FRT⟩ := D.rtext
  obtain ⟨fP1, dP1, gP1, kP1, bP1, FP1⟩ := D.plus
  obtain ⟨fP2, dP2, gP2, kP2, bP2, FP2⟩ := D.minus
  obtain ⟨fP3, dP3, gP3, kP3, bP3, FP3⟩ := D.times
  obtain ⟨fP4, dP4, gP4, kP4, bP4, FP4⟩ := D.over
  obtain ⟨fP5, dP5, gP5, kP5, bP5, FP5⟩ := D.compare
  obtain ⟨fF, ocF, odF, kVF, docF, pmF, anF, cdF, ctF, oslF, gF, kF, lkF, cF⟩ := D.fault
  have M := D.cls
  let Fs : Addr → Prop := fun a => a = fP1 ∨ a = fP2 ∨ a = fP3 ∨ a = fP4 ∨ a = fP5
  have AFs : ∀ a, Fs a → HeldBad P w K mg base CR a := fun a h => by
    rcases h with e | e | e | e | e
    · subst e; exact ⟨_, FP1.imp two_bad, kP1, bP1⟩
    · subst e; exact ⟨_, FP2.imp two_bad, kP2, bP2⟩
    · subst e; exact ⟨_, FP3.imp two_bad, kP3, bP3⟩
    · subst e; exact ⟨_, FP4.imp two_bad, kP4, bP4⟩
    · subst e; exact ⟨_, FP5.imp two_bad, kP5, bP5⟩
  refine ⟨fun vs H Q E h => ?_, fun A outer s H args us vs Q E hgd hr e0 hb r h => ?_⟩
  · obtain ⟨d, L, rfl, _⟩ := h; rfl
  have hlen : vs.length = (["dice"] : List Str).length := by obtain ⟨d, L, rfl, _⟩ := h; rfl
  refine run_ofS (N := nRight) (k := 7) lk hcd scRight hr e0 hb r hlen fun hr => ?_
  obtain ⟨d, L, rfl, hd, hL, hT, k⟩ := h
  have hr1 : Room 1 _ := hr.mono (by decide)
  have hr2 : Room 2 _ := hr.mono (by decide)
  have hr3 : Room 3 _ := hr.mono (by decide)
  have hr4 : Room 4 _ := hr.mono (by decide)
  have hr6 : Room 6 _ := hr.mono (by decide)
  have FG := fault_gives (X := (cxOf CX0 P w K mg base nRight "_law_right" (defScope sRight) f (.ref c) A outer s H E).nox) (q := qL) (g := fF) (cdg := cdF) hgd (by have := hr.un; show A.units + 3 + 128 < cLine; have h3 : (A.deeper (envOfC (Str.ofString "_law_right") (defScope sRight) s.heap.objs.size f (.ref c))).units = A.units + 3 := rfl; omega) D.txt M D.num
  have bF : L2.Binds K (PySem.W.fnOf "_law_fault" "_law_fault" (defArgs sFault) (defBody sFault) (defScope sFault) .none kVF docF pmF anF cdF ctF) ["call"] [] := .all fun us hl => match us, hl with | [_], _ => rfl
  have lam : ∀ {params : Arguments} {body : Expr} {scope : Scope} {t : XK → TE} {p lpos pos : Pos}, LamS (defScope sRight) scope → defaultsOf params (cxOf CX0 P w K mg base nRight "_law_right" (defScope sRight) f (.ref c) A outer s H E).nox.env = ([], []) →
      (∀ (q : Str) (cl : List (Str × Addr)) (pm cv ctv : Value), bindArgs (PySem.W.kla_fn "<lambda>" q params body scope cl pm cv ctv) ⟨[], []⟩ = pure []) →
      (∀ (A' : Around) (outer' : List Env) (s' : Shared) (H' : Hp) (E' : XK) (f' c' : Addr), Room 5 (A'.deeper (lamEnv (cxOf CX0 P w K mg base nRight "_law_right" (defScope sRight) f (.ref c) A outer s H E).nox scope s'.heap.objs.size f' c')) →
        PE (lamCx (cxOf CX0 P w K mg base nRight "_law_right" (defScope sRight) f (.ref c) A outer s H E).nox A' outer' s' H' E' scope f' c') body (t E')) →
      PE (cxOf CX0 P w K mg base nRight "_law_right" (defScope sRight) f (.ref c) A outer s H E).nox (.Call (.Name "_law_fault" p) [.Lambda params body scope lpos] [] pos) (tLam [(Pt, qL)] (TFault K CR CO CN) t) :=
    fun LS hdef hbi hbd => pe_lamcall (k := 5) (by rfl) gF kF lkF cF bF scFault rfl (.inl rfl) FG TB rfl (List.mem_singleton.mpr rfl) (fun p hp _ => by rw [List.mem_singleton.mp hp]; rfl) hr LS hdef hbi hbd
  suffices hx : ∃ t, PSs (cxOf CX0 P w K mg base nRight "_law_right" (defScope sRight) f (.ref c) A outer s H E).nox (defBody sRight) t ∧ t { nx := fun _ H' => Q .non H', rt := Q } (L2.start nRight [.ref d]) H by
    obtain ⟨t, ht, hq⟩ := hx
    exact ⟨t, ht.nox, hq⟩
  refine ⟨_, pss_cons (ps_asg (pe_tup (pa_cons (pe_call FDr hr3 (by rfl) gDr kDr bDr .nil pass0 (pa_cons (pv 0) pa_nil)) (pa_cons (pe_call FDr hr3 (by rfl) gDr kDr bDr .nil pass0 (pa_cons (pv 0) pa_nil)) pa_nil))) (pg_tup (by rfl) (pgs_cons (pg_name (i := 11) scRight.nd rfl (.inr rfl)) (pgs_cons (pg_name (i := 1) scRight.nd rfl (.inl rfl)) pgs_nil))))
    (pss_cons (ps_par (i := 2) (j := 3) rfl scRight.nd rfl rfl (by decide) rfl rfl (pa_cons (pe_call FNe hr2 (by rfl) gNe kNe bNe .nil pass0 (pa_cons (pv 0) (pa_cons (pe_op op_pow pe_int pe_int) pa_nil))) (pa_cons (pe_op op_add pe_int (pe_call FRo hr1 (by rfl) gRo kRo bRo .nil pass0 (pa_cons (pv 0) (pa_cons (pe_op op_pow pe_int pe_int) pa_nil)))) pa_nil)) (by rfl))
    (pss_cons (ps_if (PW.pt (pw_or (pt_cmpR (op_neD hr.units) (pe_call FLo hr4 (by rfl) gLo kLo bLo .nil passL (pa_cons (pe_op op_mul (pv 2) (pv 3)) (pa_cons (pe_op op_sub pe_int (pv 3)) pa_nil))) (pe_tup (pa_cons (pe_op op_sub pe_int (pv 2)) (pa_cons pe_int pa_nil))) (nomark _)) (pw_or1 (pt_cmpR (op_neD hr.units) (pe_call FLo hr4 (by rfl) gLo kLo bLo .nil passL (pa_cons (pv 2) (pa_cons (pv 3) pa_nil))) (pe_call FLL hr2 (by rfl) gLL kLL bLL .nil pass0 (pa_cons (pv 2) (pa_cons (pv 3) pa_nil))) (nomark _))))) (pss_one (ps_ret pe_bl)) pss_nil)
    (pss_cons (ps_set (i := 4) scRight.nd rfl (.inl rfl) (pe_lst (pa_cons (pe_tup (pa_cons pe_int (pa_cons pe_int pa_nil))) (pa_cons (pe_tup (pa_cons pe_int (pa_cons pe_int pa_nil))) (pa_cons (pe_tup (pa_cons pe_int (pa_cons (pe_un un_neg pe_int) pa_nil))) (pa_cons (pe_tup (pa_cons pe_int (pa_cons pe_int pa_nil))) (pa_cons (pe_tup (pa_cons pe_int (pa_cons pe_int (pa_cons pe_int pa_nil)))) (pa_cons (pe_lst (pa_cons pe_int (pa_cons pe_int pa_nil))) (pa_cons (pe_tup (pa_cons pe_int pa_nil)) (pa_cons pe_str (pa_cons pe_non (pa_cons pe_int (pa_cons (pe_tup (pa_cons pe_bl (pa_cons pe_int pa_nil))) (pa_cons (pe_tup (pa_cons pe_int (pa_cons pe_bl pa_nil))) (pa_cons (pe_tup (pa_cons (pe_op op_pow pe_int pe_int) (pa_cons pe_int pa_nil))) pa_nil)))))))))))))))
    (pss_cons (ps_if (pt_cmpR (op_neD hr.units) (pe_lc (own := [("value", 12)]) (g := gName 12) rfl scRight.nd (pi_list (pv 4)) (blkOk_by (N := nRight) (sc := defScope sRight) (by decide +kernel)) (fun _ _ _ _ _ => pg_name (i := 12) scRight.nd rfl (Or.inl rfl)) (fun _ _ _ _ _ => pts_one (pt_val (pe_call FIR hr3 (by rfl) gIR kIR bIR .nil pass0 (pa_cons (pv 12) pa_nil)))) (fun _ _ _ _ _ => pv 12)) (pe_lst pa_nil) (nomark _)) (pss_one (ps_ret pe_bl)) pss_nil)
    (pss_cons (ps_set (i := 10) scRight.nd rfl (.inr rfl) (pe_call FPi hr2 (by rfl) gPi kPi bPi .nil pass0 (pa_cons (pv 0) (pa_cons (pv 4) pa_nil))))
    (C8.pss_cut (ps_asg (pe_tup (pa_cons (pe_call FPi hr2 (by rfl) gPi kPi bPi .nil pass0 (pa_cons (pv 0) (pa_cons (pe_lst (pa_cons pe_non (pa_cons pe_bl (pa_cons pe_str (pa_cons (pe_op op_pow pe_int pe_int) (pa_cons (pe_tup (pa_cons pe_int pa_nil)) pa_nil)))))) pa_nil))) (pa_cons (pe_call FPi hr2 (by rfl) gPi kPi bPi .nil pass0 (pa_cons (pv 0) (pa_cons (pe_lst (pa_cons pe_non (pa_cons pe_bl (pa_cons pe_int (pa_cons pe_str (pa_cons (pe_op op_pow pe_int pe_int) (pa_cons (pe_lst (pa_cons pe_int pa_nil)) pa_nil))))))) pa_nil))) pa_nil))) (pg_tup (by rfl) (pgs_cons (pg_name (i := 7) scRight.nd rfl (.inr rfl)) (pgs_cons (pg_name (i := 9) scRight.nd rfl (.inr rfl)) pgs_nil))))
    (pss_cons (ps_set (i := 5) scRight.nd rfl (.inl rfl) (pe_lst pa_nil))
    (C8.pss_cut (ps_for PassesOwn.never rfl (pi_tup (pe_tup (pa_cons (pe_glob (v := .ref _) (by rfl) gP1 rfl) (pa_cons (pe_glob (v := .ref _) (by rfl) gP2 rfl) (pa_cons (pe_glob (v := .ref _) (by rfl) gP3 rfl) (pa_cons (pe_glob (v := .ref _) (by rfl) gP4 rfl) (pa_cons (pe_glob (v := .ref _) (by rfl) gP5 rfl) pa_nil))))))) (pg_name (i := 8) scRight.nd rfl (.inr rfl)) (pss_cons (ps_expr (pe_bm PySem.F.plainAttrs_list PySem.F.slot_list_append PySem.F.type_list_append mt_append (pv 5) (pa_cons (lam (t := fun E' => tCallBad K CR 8 Fs E' (tCons (tVar 10) (tCons (tVar 10) tNil))) (lamS_by (by decide +kernel)) (by rfl) (fun _ _ _ _ _ => rfl) (fun A' o' s' H' E' f' c' rm => pe_callBad (i := 8) (Fs := Fs) AFs rm (passes_call (E := E') (takes_of rfl rfl rfl rfl) (fun _ _ _ _ h => h)) rfl (.inr (.inr rfl)) (by exact (pa_cons (pv 10) (pa_cons (pv 10) pa_nil))))) pa_nil))) (pss_one (ps_expr (pe_bm PySem.F.plainAttrs_list PySem.F.slot_list_append PySem.F.type_list_append mt_append (pv 5) (pa_cons (lam (t := fun E' => tCallBad K CR 8 Fs E' (tCons (tVar 11) (tCons (tVar 10) tNil))) (lamS_by (by decide +kernel)) (by rfl) (fun _ _ _ _ _ => rfl) (fun A' o' s' H' E' f' c' rm => pe_callBad (i := 8) (Fs := Fs) AFs rm (passes_call (E := E') (takes_of rfl rfl rfl rfl) (fun _ _ _ _ h => h)) rfl (.inr (.inr rfl)) (by exact (pa_cons (pv 11) (pa_cons (pv 10) pa_nil))))) pa_nil))))))
    (pss_cons (ps_expr (pe_bm PySem.F.plainAttrs_list PySem.F.slot_list_append PySem.F.type_list_append mt_append (pv 5) (pa_cons (lam (t := fun E' => tCall (spRText K CR) [] E' (tCons (tVar 10) tNil)) (lamS_by (by decide +kernel)) (by rfl) (fun _ _ _ _ _ => rfl) (fun A' o' s' H' E' f' c' rm => pe_call FRT (rm.mono (by decide)) (by rfl) gRT kRT bRT .nil (passes_call (E := E') (takes_of rfl rfl rfl rfl) (fun _ _ _ _ h => h)) (by exact (pa_cons (pv 10) pa_nil)))) pa_nil)))
    (pss_cons (ps_expr (pe_bm PySem.F.plainAttrs_list PySem.F.slot_list_append PySem.F.type_list_append mt_append (pv 5) (pa_cons (lam (t := fun E' => tCall (spLowest K CN) [] E' (tCons (tVar 7) (tCons (tVar 9) tNil))) (lamS_by (by decide +kernel)) (by rfl) (fun _ _ _ _ _ => rfl) (fun A' o' s' H' E' f' c' rm => pe_call FLo (rm.mono (by decide)) (by rfl) gLo kLo bLo .nil (passes_call (E := E') (takes_of rfl rfl rfl rfl) (fun _ _ _ _ h => h)) (by exact (pa_cons (pv 7) (pa_cons (pv 9) pa_nil))))) pa_nil)))
    (pss_cons (ps_expr (pe_bm PySem.F.plainAttrs_list PySem.F.slot_list_append PySem.F.type_list_append mt_append (pv 5) (pa_cons (lam (t := fun E' => tCall (spLowest K CN) [] E' (tCons (tC (.int 5)) (tCons (tVar 9) tNil))) (lamS_by (by decide +kernel)) (by rfl) (fun _ _ _ _ _ => rfl) (fun A' o' s' H' E' f' c' rm => pe_call FLo (rm.mono (by decide)) (by rfl) gLo kLo bLo .nil (passes_call (E := E') (takes_of rfl rfl rfl rfl) (fun _ _ _ _ h => h)) (by exact (pa_cons pe_int (pa_cons (pv 9) pa_nil))))) pa_nil)))
    (pss_cons (ps_expr (pe_bm PySem.F.plainAttrs_list PySem.F.slot_list_append PySem.F.type_list_append mt_append (pv 5) (pa_cons (lam (t := fun E' => tCall (spTwo K CR (rOverQ CO)) [] E' (tCons (tVar 11) (tCons (tTup (tCons (tC (.int 0)) (tCons (tC (.int 1)) tNil))) tNil))) (lamS_by (by decide +kernel)) (by rfl) (fun _ _ _ _ _ => rfl) (fun A' o' s' H' E' f' c' rm => pe_call FP4 rm (by rfl) gP4 kP4 bP4 .nil (passes_call (E := E') (takes_of rfl rfl rfl rfl) (fun _ _ _ _ h => h)) (by exact (pa_cons (pv 11) (pa_cons (pe_tup (pa_cons pe_int (pa_cons pe_int pa_nil))) pa_nil))))) pa_nil)))
    (pss_cons (ps_set (i := 6) scRight.nd rfl (.inl rfl) (pe_op op_cat (pe_op op_rep (pe_lst (pa_cons (pe_tup (pa_cons pe_str (pa_cons pe_str pa_nil))) pa_nil)) pe_int) (pe_lst (pa_cons (pe_tup (pa_cons pe_str (pa_cons (pe_callB (call_reprS (by exact hgd) (by exact hr.units)) (by rfl) D.txt.repr bootRepr (pa_cons (pv 7) pa_nil)) pa_nil))) (pa_cons (pe_tup (pa_cons pe_str (pa_cons (pe_callB (call_reprS (by exact hgd) (by exact hr.units)) (by rfl) D.txt.repr bootRepr (pa_cons (pv 9) pa_nil)) pa_nil))) (pa_cons (pe_tup (pa_cons pe_str (pa_cons pe_str pa_nil))) pa_nil))))))
    (pss_one (ps_ret (pe_and (pe_cmpR (op_eqD hr.units) (pv 5) (pv 6) (nomark _)) (pe_and (pe_call FTw hr6 (by rfl) gTw kTw bTw .nil pass0 (pa_cons (pv 11) (pa_cons (pv 1) pa_nil))) (pe_one (pe_call FTw hr6 (by rfl) gTw kTw bTw .nil pass0 (pa_cons (pv 1) (pa_cons (pv 1) pa_nil))))))))))))))))))))), ?_⟩

  have dS : d ∈ [d] := List.mem_cons_self
  -- one, other
  refine ⟨_, rfl, d, L, rfl, hd, hL, fun H1 p1 r1 L1 sm1 hL1 hd1 hp1 np1 kb1 => ?_⟩
  have K1 : Kq [d] H H1 := .but dS hd kb1
  refine ⟨_, rfl, d, L1, rfl, hd1, hL1, fun H2 p2 r2 L2 sm2 hL2 hd2 hp2 np2 kb2 => ?_⟩
  have K2 : Kq [d] H1 H2 := .but dS hd1 kb2
  have hp1' : H2 p1 = some (qT r1) := K2 _ _ hp1 (.inr (tup_nl _))
  refine ⟨by show 2 ≤ sizeLine; decide, fun t ht => ⟨t, _, rfl, SqT.of upd_same, rfl, _, _, rfl, _, _, rfl, rfl, ?_⟩⟩
  have K3 : Kq [d] H2 (upd H2 t (.tup [.ref p1, .ref p2])) := .new ht
  have hd3 : upd H2 t (.tup [.ref p1, .ref p2]) d = some (.lst L2) := by rw [upd_ne (ne_of_none hd2 ht)]; exact hd2
  generalize upd H2 t (.tup [.ref p1, .ref p2]) = H3 at *
  have hp13 := K3 _ _ hp1' (.inr (tup_nl _))
  have hp23 := K3 _ _ hp2 (.inr (tup_nl _))
  have KA := (K1.trans K2).trans K3
  -- top, bottom
  refine ⟨_, rfl, _, _, rfl, rfl, pw10 (by decide) (by decide), d, 10 ^ (14 : Int).toNat, L2, rfl, by decide +kernel, by decide +kernel, hd3, hL2, fun tp L3 i0 i1 hL3 => ?_⟩
  refine ⟨_, rfl, _, _, rfl, rfl, pw10 (by decide) (by decide), d, 10 ^ (9 : Int).toNat, L3, rfl, by decide +kernel, by decide +kernel, upd_same, hL3, fun jj L4 j0 j1 hL4 => ?_⟩
  rw [upd_upd]
  refine ⟨_, _, rfl, rfl, _, _, rfl, ?_⟩
  have K4 : Kq [d] H3 (upd H3 d (.lst L4)) := .write dS hd3
  have hd4 : upd H3 d (.lst L4) d = some (.lst L4) := upd_same
  generalize upd H3 d (.lst L4) = H4 at *
  have i1' : tp ≤ 10 ^ 14 := i1
  have i0' : -(10 ^ 14) ≤ tp := i0
  have j1' : jj < 10 ^ 9 := j1
  have hp14 := K4 _ _ hp13 (.inr (tup_nl _))
  have hp24 := K4 _ _ hp23 (.inr (tup_nl _))
  have KB := KA.trans K4
  have bt0 : 0 < (1 + jj) := by omega
  have bt1 : (1 + jj) ≤ 10 ^ 9 := by omega
  have lw1 : low (tp * (1 + jj)) (0 - (1 + jj)) = (0 - tp, 1) := low_eq (by omega) ⟨by show (0 : Int) < 1; decide, by show Nat.gcd (0 - tp).natAbs 1 = 1; simp⟩ (by show tp * (1 + jj) * 1 = (0 - tp) * (0 - (1 + jj)); rw [Int.mul_one, Int.zero_sub, Int.zero_sub, Int.neg_mul_neg])
  have bp : (tp * (1 + jj)).natAbs < 10 ^ 60 := by
    rw [Int.natAbs_mul]
    exact Nat.lt_of_le_of_lt (Nat.mul_le_mul (by omega : tp.natAbs ≤ 10 ^ 14) (by omega : (1 + jj).natAbs ≤ 10 ^ 9)) (by decide)
  have i60p : ∀ {z : Int}, z.natAbs < 10 ^ 60 → i60 (.int z) = true := fun {z} h => by
    show (decide (-(10 ^ 60) < z) && decide (z < 10 ^ 60)) = true
    rw [Bool.and_eq_true, decide_eq_true_eq, decide_eq_true_eq]
    omega
  have low60p : ∀ {z : Int}, z.natAbs < 10 ^ 60 → z ≠ 0 → low60 (.int z) = true := fun {z} h n => by
    show (i60 (.int z) && !decide (z = 0)) = true
    rw [i60p h, decide_eq_false n]
    rfl
  -- lowest
  refine ⟨_, rfl, _, rfl, _, _, rfl, rfl, .inl ⟨by omega, by omega⟩, _, rfl, _, _, rfl, rfl, .int (tp * (1 + jj)), .int (0 - (1 + jj)), rfl, .int _, .int _, (fun e => by rw [i60p bp] at e; cases e), (fun _ e => by rw [low60p (by omega) (by omega)] at e; cases e),
    fun _ _ => ⟨_, _, rfl, rfl, fun z1 hz1 => ?_⟩⟩
  rw [lw1]
  refine ⟨_, rfl, _, _, rfl, rfl, (by show 2 ≤ sizeLine; decide), fun z2 hz2 => ⟨dQ (0 - tp, 1), dQ (0 - tp, 1), dpQ ((IsR.of upd_same).new hz2), dpQ (IsR.of (r := (0 - tp, 1)) upd_same), shQ _, shQ _, _, rfl, iteF' (neQ _) ?_⟩⟩
  have K5 : Kq [d] H4 (upd (upd H4 z1 (qT (0 - tp, 1))) z2 (.tup [.int (0 - tp), .int 1])) := (Kq.new hz1).trans (.new hz2)
  have hd5 := hd4
  replace hd5 : upd (upd H4 z1 (qT (0 - tp, 1))) z2 (.tup [.int (0 - tp), .int 1]) d = some (.lst L4) := by
    have n1 := ne_of_none hd4 hz1
    have e1 : upd H4 z1 (qT (0 - tp, 1)) d = some (.lst L4) := by rw [upd_ne n1]; exact hd4
    rw [upd_ne (ne_of_none e1 hz2)]
    exact e1
  generalize upd (upd H4 z1 (qT (0 - tp, 1))) z2 (.tup [.int (0 - tp), .int 1]) = H5 at *
  refine ⟨_, rfl, _, rfl, .int tp, .int (1 + jj), rfl, .int _, .int _, (fun e => by rw [i60p (by omega)] at e; cases e), (fun _ e => by rw [low60p (by omega) (by omega)] at e; cases e), fun _ _ => ⟨_, _, rfl, rfl, fun z3 hz3 => ?_⟩⟩
  refine ⟨_, rfl, _, rfl, tp, (1 + jj), rfl, by omega, Nat.lt_of_le_of_lt (by omega : (1 + jj : Int).natAbs ≤ 10 ^ 9) (by decide), fun z4 hz4 => ⟨dQ (low tp (1 + jj)), dQ (low tp (1 + jj)), dpQ ((IsR.of upd_same).new hz4), dpQ (IsR.of upd_same), shQ _, shQ _, _, rfl, iteF' (neQ _) ?_⟩⟩
  have K6 : Kq [d] H5 (upd (upd H5 z3 (qT (low tp (1 + jj)))) z4 (qT (low tp (1 + jj)))) := (Kq.new hz3).trans (.new hz4)
  have hd6 : upd (upd H5 z3 (qT (low tp (1 + jj)))) z4 (qT (low tp (1 + jj))) d = some (.lst L4) := by
    have n1 := ne_of_none hd5 hz3
    have e1 : upd H5 z3 (qT (low tp (1 + jj))) d = some (.lst L4) := by rw [upd_ne n1]; exact hd5
    rw [upd_ne (ne_of_none e1 hz4)]
    exact e1
  generalize upd (upd H5 z3 (qT (low tp (1 + jj)))) z4 (qT (low tp (1 + jj))) = H6 at *
  have hp16 := K6 _ _ (K5 _ _ hp14 (.inr (tup_nl _))) (.inr (tup_nl _))
  have hp26 := K6 _ _ (K5 _ _ hp24 (.inr (tup_nl _))) (.inr (tup_nl _))
  have KC := (KB.trans K5).trans K6
  -- odd
  refine ⟨by show 2 ≤ sizeLine; decide, fun q0 hq0 => ?_⟩
  have kk0 : Kq [d] H6 (upd H6 q0 (.tup [.int 2, .int 4])) := .new hq0
  have a0 : Dt [d] (upd H6 q0 (.tup [.int 2, .int 4])) (.ref q0) (.tuple [.int 2, .int 4]) := .tup rfl upd_same
  have hg0 : upd H6 q0 (.tup [.int 2, .int 4]) d = some (.lst L4) := by rw [upd_ne (ne_of_none hd6 hq0)]; exact hd6
  generalize upd H6 q0 (.tup [.int 2, .int 4]) = G0 at *
  refine ⟨by show 2 ≤ sizeLine; decide, fun q1 hq1 => ?_⟩
  have kk1 : Kq [d] G0 (upd G0 q1 (.tup [.int 1, .int 0])) := .new hq1
  have a1 : Dt [d] (upd G0 q1 (.tup [.int 1, .int 0])) (.ref q1) (.tuple [.int 1, .int 0]) := .tup rfl upd_same
  have hg1 : upd G0 q1 (.tup [.int 1, .int 0]) d = some (.lst L4) := by rw [upd_ne (ne_of_none hg0 hq1)]; exact hg0
  generalize upd G0 q1 (.tup [.int 1, .int 0]) = G1 at *
  refine ⟨_, rfl, (by show 2 ≤ sizeLine; decide), fun q2 hq2 => ?_⟩
  have kk2 : Kq [d] G1 (upd G1 q2 (.tup [.int 1, .int (-2)])) := .new hq2
  have a2 : Dt [d] (upd G1 q2 (.tup [.int 1, .int (-2)])) (.ref q2) (.tuple [.int 1, .int (-2)]) := .tup rfl upd_same
  have hg2 : upd G1 q2 (.tup [.int 1, .int (-2)]) d = some (.lst L4) := by rw [upd_ne (ne_of_none hg1 hq2)]; exact hg1
  generalize upd G1 q2 (.tup [.int 1, .int (-2)]) = G2 at *
  refine ⟨by show 2 ≤ sizeLine; decide, fun q3 hq3 => ?_⟩
  have kk3 : Kq [d] G2 (upd G2 q3 (.tup [.int 0, .int 2])) := .new hq3
  have a3 : Dt [d] (upd G2 q3 (.tup [.int 0, .int 2])) (.ref q3) (.tuple [.int 0, .int 2]) := .tup rfl upd_same
  have hg3 : upd G2 q3 (.tup [.int 0, .int 2]) d = some (.lst L4) := by rw [upd_ne (ne_of_none hg2 hq3)]; exact hg2
  generalize upd G2 q3 (.tup [.int 0, .int 2]) = G3 at *
  refine ⟨by show 3 ≤ sizeLine; decide, fun q4 hq4 => ?_⟩
  have kk4 : Kq [d] G3 (upd G3 q4 (.tup [.int 1, .int 2, .int 3])) := .new hq4
  have a4 : Dt [d] (upd G3 q4 (.tup [.int 1, .int 2, .int 3])) (.ref q4) (.tuple [.int 1, .int 2, .int 3]) := .tup rfl upd_same
  have hg4 : upd G3 q4 (.tup [.int 1, .int 2, .int 3]) d = some (.lst L4) := by rw [upd_ne (ne_of_none hg3 hq4)]; exact hg3
  generalize upd G3 q4 (.tup [.int 1, .int 2, .int 3]) = G4 at *
  refine ⟨by show 2 ≤ sizeLine; decide, fun q5 hq5 => ?_⟩
  have kk5 : Kq [d] G4 (upd G4 q5 (.lst [.int 1, .int 2])) := .new hq5
  have a5 : Dt [d] (upd G4 q5 (.lst [.int 1, .int 2])) (.ref q5) (.list [.int 1, .int 2]) := .lst rfl (fun z => ne_of_none hg4 hq5 (List.mem_singleton.mp z).symm) upd_same
  have hg5 : upd G4 q5 (.lst [.int 1, .int 2]) d = some (.lst L4) := by rw [upd_ne (ne_of_none hg4 hq5)]; exact hg4
  generalize upd G4 q5 (.lst [.int 1, .int 2]) = G5 at *
  refine ⟨by show 1 ≤ sizeLine; decide, fun q6 hq6 => ?_⟩
  have kk6 : Kq [d] G5 (upd G5 q6 (.tup [.int 1])) := .new hq6
  have a6 : Dt [d] (upd G5 q6 (.tup [.int 1])) (.ref q6) (.tuple [.int 1]) := .tup rfl upd_same
  have hg6 : upd G5 q6 (.tup [.int 1]) d = some (.lst L4) := by rw [upd_ne (ne_of_none hg5 hq6)]; exact hg5
  generalize upd G5 q6 (.tup [.int 1]) = G6 at *
  refine ⟨by show 2 ≤ sizeLine; decide, fun q10 hq10 => ?_⟩
  have kk10 : Kq [d] G6 (upd G6 q10 (.tup [.bl true, .int 1])) := .new hq10
  have a10 : Dt [d] (upd G6 q10 (.tup [.bl true, .int 1])) (.ref q10) (.tuple [.bool true, .int 1]) := .tup rfl upd_same
  have hg10 : upd G6 q10 (.tup [.bl true, .int 1]) d = some (.lst L4) := by rw [upd_ne (ne_of_none hg6 hq10)]; exact hg6
  generalize upd G6 q10 (.tup [.bl true, .int 1]) = G10 at *
  refine ⟨by show 2 ≤ sizeLine; decide, fun q11 hq11 => ?_⟩
  have kk11 : Kq [d] G10 (upd G10 q11 (.tup [.int 1, .bl true])) := .new hq11
  have a11 : Dt [d] (upd G10 q11 (.tup [.int 1, .bl true])) (.ref q11) (.tuple [.int 1, .bool true]) := .tup rfl upd_same
  have hg11 : upd G10 q11 (.tup [.int 1, .bl true]) d = some (.lst L4) := by rw [upd_ne (ne_of_none hg10 hq11)]; exact hg10
  generalize upd G10 q11 (.tup [.int 1, .bl true]) = G11 at *
  refine ⟨_, _, rfl, rfl, pw10 (by decide) (by decide), (by show 2 ≤ sizeLine; decide), fun q12 hq12 => ?_⟩
  have kk12 : Kq [d] G11 (upd G11 q12 (.tup [.int (10 ^ (60 : Int).toNat), .int 1])) := .new hq12
  have a12 : Dt [d] (upd G11 q12 (.tup [.int (10 ^ (60 : Int).toNat), .int 1])) (.ref q12) (.tuple [.int (10 ^ (60 : Int).toNat), .int 1]) := .tup rfl upd_same
  have hg12 : upd G11 q12 (.tup [.int (10 ^ (60 : Int).toNat), .int 1]) d = some (.lst L4) := by rw [upd_ne (ne_of_none hg11 hq12)]; exact hg11
  generalize upd G11 q12 (.tup [.int (10 ^ (60 : Int).toNat), .int 1]) = G12 at *
  refine ⟨by show 13 ≤ sizeLine; decide, fun lo hlo => ?_⟩
  replace a0 := (((((((((a0).mono kk1.kp).mono kk2.kp).mono kk3.kp).mono kk4.kp).mono kk5.kp).mono kk6.kp).mono kk10.kp).mono kk11.kp).mono kk12.kp
  replace a1 := ((((((((a1).mono kk2.kp).mono kk3.kp).mono kk4.kp).mono kk5.kp).mono kk6.kp).mono kk10.kp).mono kk11.kp).mono kk12.kp
  replace a2 := (((((((a2).mono kk3.kp).mono kk4.kp).mono kk5.kp).mono kk6.kp).mono kk10.kp).mono kk11.kp).mono kk12.kp
  replace a3 := ((((((a3).mono kk4.kp).mono kk5.kp).mono kk6.kp).mono kk10.kp).mono kk11.kp).mono kk12.kp
  replace a4 := (((((a4).mono kk5.kp).mono kk6.kp).mono kk10.kp).mono kk11.kp).mono kk12.kp
  replace a5 := ((((a5).mono kk6.kp).mono kk10.kp).mono kk11.kp).mono kk12.kp
  replace a6 := (((a6).mono kk10.kp).mono kk11.kp).mono kk12.kp
  replace a10 := ((a10).mono kk11.kp).mono kk12.kp
  replace a11 := (a11).mono kk12.kp
  have KD0 : Kq [d] H6 G12 := (((((((((kk0).trans kk1).trans kk2).trans kk3).trans kk4).trans kk5).trans kk6).trans kk10).trans kk11).trans kk12
  have aa : Dts [d] G12 [.ref q0, .ref q1, .ref q2, .ref q3, .ref q4, .ref q5, .ref q6, .str "1/2", .non, .int 1, .ref q10, .ref q11, .ref q12] oddD := .cons a0 (.cons a1 (.cons a2 (.cons a3 (.cons a4 (.cons a5 (.cons a6 (.cons (.flat (d := .str "1/2") rfl) (.cons (.flat (d := .none) rfl) (.cons (.flat (d := .int 1) rfl) (.cons a10 (.cons a11 (.cons a12 (.nil)))))))))))))
  have KD1 : Kq [d] G12 (upd G12 lo (.lst [.ref q0, .ref q1, .ref q2, .ref q3, .ref q4, .ref q5, .ref q6, .str "1/2", .non, .int 1, .ref q10, .ref q11, .ref q12])) := .new hlo
  replace aa := aa.mono KD1.kp
  have hlo7 : upd G12 lo (.lst [.ref q0, .ref q1, .ref q2, .ref q3, .ref q4, .ref q5, .ref q6, .str "1/2", .non, .int 1, .ref q10, .ref q11, .ref q12]) lo = some (.lst [.ref q0, .ref q1, .ref q2, .ref q3, .ref q4, .ref q5, .ref q6, .str "1/2", .non, .int 1, .ref q10, .ref q11, .ref q12]) := upd_same
  have hd7 : upd G12 lo (.lst [.ref q0, .ref q1, .ref q2, .ref q3, .ref q4, .ref q5, .ref q6, .str "1/2", .non, .int 1, .ref q10, .ref q11, .ref q12]) d = some (.lst L4) := by rw [upd_ne (ne_of_none hg12 hlo)]; exact hg12
  have nelo : lo ≠ d := fun z => ne_of_none hg12 hlo z.symm
  generalize upd G12 lo (.lst [.ref q0, .ref q1, .ref q2, .ref q3, .ref q4, .ref q5, .ref q6, .str "1/2", .non, .int 1, .ref q10, .ref q11, .ref q12]) = H7 at *
  generalize hxs : ([.ref q0, .ref q1, .ref q2, .ref q3, .ref q4, .ref q5, .ref q6, .str "1/2", .non, .int 1, .ref q10, .ref q11, .ref q12] : List V) = xs at *
  have xs0 : xs ≠ [] := by rw [← hxs]; simp
  have xs1 : xs.length < 1000 := by rw [← hxs]; show 13 < 1000; decide
  have hp17 := KD1 _ _ (KD0 _ _ hp16 (.inr (tup_nl _))) (.inr (tup_nl _))
  have hp27 := KD1 _ _ (KD0 _ _ hp26 (.inr (tup_nl _))) (.inr (tup_nl _))
  have KD := (KC.trans KD0).trans KD1
  -- none of them is a ratio
  refine ⟨_, rfl, lo, rfl, ⟨_, SqL.of hlo7⟩, fun De hDe => lc_list (K := K) (a := lo) (xs := xs) (fun _ H' => H' = upd H7 De (.lst [])) rfl ?_ ?_ ?_⟩
  · rintro i' H' _ rfl
    exact SqL.of (by rw [upd_ne (ne_of_none hlo7 hDe)]; exact hlo7)
  · rintro i' x H' hx rfl
    obtain ⟨dx, m1, m2⟩ := aa.mem (List.mem_of_getElem? hx)
    have nr := List.all_eq_true.mp odd_ok dx m1
    have m3 := (m2.mono (Kq.new (S := [d]) (o := .lst []) hDe).kp).rat (K := K) nr
    exact ⟨rfl, _, rfl, x, false, rfl, m3, _, rfl, iteF rfl⟩
  rintro H' rfl
  refine ⟨by show 0 ≤ sizeLine; decide, fun e1 he1 => ?_⟩
  have K8 : Kq [d] H7 (upd (upd H7 De (.lst [])) e1 (.lst [])) := (Kq.new hDe).trans (.new he1)
  have hDe8 : upd (upd H7 De (.lst [])) e1 (.lst []) De = some (.lst []) := by rw [upd_ne (ne_of_none upd_same he1)]; exact upd_same
  have he8 : upd (upd H7 De (.lst [])) e1 (.lst []) e1 = some (.lst []) := upd_same
  have hd8 : upd (upd H7 De (.lst [])) e1 (.lst []) d = some (.lst L4) := by
    have e0 : upd H7 De (.lst []) d = some (.lst L4) := by rw [upd_ne (ne_of_none hd7 hDe)]; exact hd7
    rw [upd_ne (ne_of_none e0 he1)]
    exact e0
  generalize upd (upd H7 De (.lst [])) e1 (.lst []) = H8 at *
  refine ⟨.list [], .list [], .lst (SqL.of hDe8) .nil, .lst (SqL.of he8) .nil, rfl, rfl, _, rfl, iteF' (by decide) ?_⟩
  have aa8 := aa.mono K8.kp
  have hlo8 : H8 lo = some (.lst xs) := K8 _ _ hlo7 (.inl fun z => nelo (List.mem_singleton.mp z))
  -- none
  refine ⟨_, rfl, _, rfl, d, lo, xs, L4, rfl, hd8, hL4, hlo8, nelo, xs0, xs1, fun vn L5 hvn hL5 => ?_⟩
  obtain ⟨dn, hdn, an⟩ := aa8.mem hvn
  have nrn := List.all_eq_true.mp odd_ok dn hdn
  have K9 : Kq [d] H8 (upd H8 d (.lst L5)) := .write dS hd8
  replace an := an.mono K9.kp
  have hd9 : upd H8 d (.lst L5) d = some (.lst L5) := upd_same
  generalize upd H8 d (.lst L5) = H9 at *
  have KE := (KD.trans K8).trans K9
  have hp19 := K9 _ _ (K8 _ _ hp17 (.inr (tup_nl _))) (.inr (tup_nl _))
  have hp29 := K9 _ _ (K8 _ _ hp27 (.inr (tup_nl _))) (.inr (tup_nl _))
  -- bad, low
  refine ⟨fun σ' H' => ∃ (vb vl : V) (db dl : PyData) (L7 : List V), σ' = [some (.ref d), some (.ref p2), some (.int tp), some (.int (1 + jj)), some (.ref lo), none, none, some vb, none, some vl, some vn, some (.ref p1), none] ∧ Kq [d] H H' ∧ H' d = some (.lst L7) ∧
    H' p1 = some (qT r1) ∧ H' p2 = some (qT r2) ∧ Dt [d] H' vn dn ∧ Dt [d] H' vb db ∧ Dt [d] H' vl dl ∧ (noInt db && fine db) = true ∧ (noLow dl && fine dl) = true, ?_, ?_⟩
  · refine ⟨_, rfl, _, _, rfl, rfl, pw10 (by decide) (by decide), (by show 1 ≤ sizeLine; decide), fun b1 hb1 => ⟨by show 5 ≤ sizeLine; decide, fun bl hbl => ?_⟩⟩
    have B1 : Kq [d] H9 (upd H9 b1 (.tup [.int 1])) := .new hb1
    have ab1 : Dt [d] (upd H9 b1 (.tup [.int 1])) (.ref b1) (.tuple [.int 1]) := .tup rfl upd_same
    have hdb1 : upd H9 b1 (.tup [.int 1]) d = some (.lst L5) := by rw [upd_ne (ne_of_none hd9 hb1)]; exact hd9
    generalize upd H9 b1 (.tup [.int 1]) = B1h at *
    have abs_ : Dts [d] B1h [.non, .bl true, .str "1", .int (10 ^ (60 : Int).toNat), .ref b1] badD := .cons (.flat (d := .none) rfl) (.cons (.flat (d := .bool true) rfl) (.cons (.flat (d := .str "1") rfl) (.cons (.flat (d := .int (10 ^ (60 : Int).toNat)) rfl) (.cons ab1 .nil))))
    have B2 : Kq [d] B1h (upd B1h bl (.lst [.non, .bl true, .str "1", .int (10 ^ (60 : Int).toNat), .ref b1])) := .new hbl
    have nebl : bl ≠ d := fun z => ne_of_none hdb1 hbl z.symm
    have hdb2 : upd B1h bl (.lst [.non, .bl true, .str "1", .int (10 ^ (60 : Int).toNat), .ref b1]) d = some (.lst L5) := by rw [upd_ne (ne_of_none hdb1 hbl)]; exact hdb1
    have hbl2 : upd B1h bl (.lst [.non, .bl true, .str "1", .int (10 ^ (60 : Int).toNat), .ref b1]) bl = some (.lst [.non, .bl true, .str "1", .int (10 ^ (60 : Int).toNat), .ref b1]) := upd_same
    generalize upd B1h bl (.lst [.non, .bl true, .str "1", .int (10 ^ (60 : Int).toNat), .ref b1]) = B2h at *
    refine ⟨d, bl, _, L5, rfl, hdb2, hL5, hbl2, nebl, by simp, by simp, fun vb L6 hvb hL6 => ?_⟩
    obtain ⟨db, hdb, avb⟩ := (abs_.mono B2.kp).mem hvb
    have okb := List.all_eq_true.mp bad_ok db hdb
    have B3 : Kq [d] B2h (upd B2h d (.lst L6)) := .write dS hdb2
    replace avb := avb.mono B3.kp
    have hdb3 : upd B2h d (.lst L6) d = some (.lst L6) := upd_same
    generalize upd B2h d (.lst L6) = B3h at *
    refine ⟨_, rfl, _, _, rfl, rfl, pw10 (by decide) (by decide), (by show 1 ≤ sizeLine; decide), fun c1 hc1 => ⟨by show 6 ≤ sizeLine; decide, fun cl hcl => ?_⟩⟩
    have C1 : Kq [d] B3h (upd B3h c1 (.lst [.int 2])) := .new hc1
    have ac1 : Dt [d] (upd B3h c1 (.lst [.int 2])) (.ref c1) (.list [.int 2]) := .lst rfl (fun z => ne_of_none hdb3 hc1 (List.mem_singleton.mp z).symm) upd_same
    have hdc1 : upd B3h c1 (.lst [.int 2]) d = some (.lst L6) := by rw [upd_ne (ne_of_none hdb3 hc1)]; exact hdb3
    generalize upd B3h c1 (.lst [.int 2]) = C1h at *
    have acs : Dts [d] C1h [.non, .bl false, .int 0, .str "2", .int (10 ^ (60 : Int).toNat), .ref c1] lowD := .cons (.flat (d := .none) rfl) (.cons (.flat (d := .bool false) rfl) (.cons (.flat (d := .int 0) rfl) (.cons (.flat (d := .str "2") rfl) (.cons (.flat (d := .int (10 ^ (60 : Int).toNat)) rfl) (.cons ac1 .nil)))))
    have C2 : Kq [d] C1h (upd C1h cl (.lst [.non, .bl false, .int 0, .str "2", .int (10 ^ (60 : Int).toNat), .ref c1])) := .new hcl
    have necl : cl ≠ d := fun z => ne_of_none hdc1 hcl z.symm
    have hdc2 : upd C1h cl (.lst [.non, .bl false, .int 0, .str "2", .int (10 ^ (60 : Int).toNat), .ref c1]) d = some (.lst L6) := by rw [upd_ne (ne_of_none hdc1 hcl)]; exact hdc1
    have hcl2 : upd C1h cl (.lst [.non, .bl false, .int 0, .str "2", .int (10 ^ (60 : Int).toNat), .ref c1]) cl = some (.lst [.non, .bl false, .int 0, .str "2", .int (10 ^ (60 : Int).toNat), .ref c1]) := upd_same
    generalize upd C1h cl (.lst [.non, .bl false, .int 0, .str "2", .int (10 ^ (60 : Int).toNat), .ref c1]) = C2h at *
    refine ⟨d, cl, _, L6, rfl, hdc2, hL6, hcl2, necl, by simp, by simp, fun vl L7 hvl hL7 => ?_⟩
    obtain ⟨dl, hdl, avl⟩ := (acs.mono C2.kp).mem hvl
    have okl := List.all_eq_true.mp low_ok dl hdl
    have C3 : Kq [d] C2h (upd C2h d (.lst L7)) := .write dS hdc2
    replace avl := avl.mono C3.kp
    have hdc3 : upd C2h d (.lst L7) d = some (.lst L7) := upd_same
    generalize upd C2h d (.lst L7) = C3h at *
    refine ⟨by show 2 ≤ sizeLine; decide, fun t2 ht2 => ⟨t2, _, rfl, SqT.of upd_same, rfl, _, _, rfl, _, _, rfl, rfl, ?_⟩⟩
    have C4 : Kq [d] C3h (upd C3h t2 (.tup [vb, vl])) := .new ht2
    have hdc4 : upd C3h t2 (.tup [vb, vl]) d = some (.lst L7) := by rw [upd_ne (ne_of_none hdc3 ht2)]; exact hdc3
    have KF : Kq [d] H9 (upd C3h t2 (.tup [vb, vl])) := (((((B1.trans B2).trans B3).trans C1).trans C2).trans C3).trans C4
    exact ⟨vb, vl, db, dl, L7, rfl, KE.trans KF, hdc4, KF _ _ hp19 (.inr (tup_nl _)), KF _ _ hp29 (.inr (tup_nl _)), an.mono KF.kp, avb.mono (((C1.trans C2).trans C3).trans C4).kp, avl.mono C4.kp, okb, okl⟩
  rintro σ' Hm ⟨vb, vl, db, dl, L7, rfl, KM, hdm, hp1m, hp2m, anm, abm, alm, okb, okl⟩

  -- told
  refine ⟨by show 0 ≤ sizeLine; decide, fun lt hlt => ?_⟩
  have hl0 : H lt = none := kq_none KM hlt fun s' hs' => by rw [List.mem_singleton.mp hs', hdm]; exact fun z => nomatch z
  have Ks : Kq [d] Hm (upd Hm lt (.lst [])) := .new hlt
  have KMs := KM.trans Ks
  have anS : Dt [lt, d] (upd Hm lt (.lst [])) vn dn := anm.more hlt
  have abS : Dt [lt, d] (upd Hm lt (.lst [])) vb db := abm.more hlt
  have alS : Dt [lt, d] (upd Hm lt (.lst [])) vl dl := alm.more hlt
  have hp1s := Ks _ _ hp1m (.inr (tup_nl _))
  have hp2s := Ks _ _ hp2m (.inr (tup_nl _))
  have R0 : Run [lt, d] (upd Hm lt (.lst [])) Pt lt qL [] [] (upd Hm lt (.lst [])) := ⟨fun _ _ h _ _ => h, tab_kq hT KMs, upd_same, .nil⟩
  generalize upd Hm lt (.lst []) = Hs at *
  have lS : lt ∈ [lt, d] := List.mem_cons_self
  -- the five defs
  refine ⟨fun σ' H' => ∃ (co : Option V) (ts : List V), σ' = [some (.ref d), some (.ref p2), some (.int tp), some (.int (1 + jj)), some (.ref lo), some (.ref lt), none, some vb, co, some vl, some vn, some (.ref p1), none] ∧ Run [lt, d] Hs Pt lt qL ts (List.replicate 10 dR) H', ?_, ?_⟩
  · refine ⟨by show 5 ≤ sizeLine; decide, fun ft hft => ⟨ft, rfl, ⟨_, SqT.of upd_same⟩, ?_⟩⟩
    have sf : Same Hs (upd Hs ft (.tup [.ref fP1, .ref fP2, .ref fP3, .ref fP4, .ref fP5])) := Same.new hft
    have hft1 : upd Hs ft (.tup [.ref fP1, .ref fP2, .ref fP3, .ref fP4, .ref fP5]) ft = some (.tup [.ref fP1, .ref fP2, .ref fP3, .ref fP4, .ref fP5]) := upd_same
    have Rf := R0.same sf
    generalize upd Hs ft (.tup [.ref fP1, .ref fP2, .ref fP3, .ref fP4, .ref fP5]) = Hf at *
    refine for_tup (K := K) (a := ft) (xs := [.ref fP1, .ref fP2, .ref fP3, .ref fP4, .ref fP5]) (fun i' σ' H' => (∃ (co : Option V) (ts : List V), σ' = [some (.ref d), some (.ref p2), some (.int tp), some (.int (1 + jj)), some (.ref lo), some (.ref lt), none, some vb, co, some vl, some vn, some (.ref p1), none] ∧ Run [lt, d] Hs Pt lt qL ts (List.replicate (2 * i') dR) H') ∧ H' ft = some (.tup [.ref fP1, .ref fP2, .ref fP3, .ref fP4, .ref fP5]))
      ⟨⟨none, [], rfl, Rf⟩, hft1⟩ (fun _ _ _ _ z => SqT.of z.2) ?_ ?_
    · rintro i' x σ' H' hx ⟨⟨co, ts, rfl, Ri⟩, hfi⟩
      have hi5 : i' < 5 := (List.getElem?_eq_some_iff.mp hx).1
      obtain ⟨a', rfl, hFs⟩ : ∃ a', x = .ref a' ∧ Fs a' := by
        have hm := List.mem_of_getElem? hx
        simp only [List.mem_cons, List.not_mem_nil, or_false] at hm
        rcases hm with e | e | e | e | e
        · exact ⟨_, e, .inl rfl⟩
        · exact ⟨_, e, .inr (.inl rfl)⟩
        · exact ⟨_, e, .inr (.inr (.inl rfl))⟩
        · exact ⟨_, e, .inr (.inr (.inr (.inl rfl)))⟩
        · exact ⟨_, e, .inr (.inr (.inr (.inr rfl)))⟩
      refine ⟨_, rfl, .inl ⟨rfl, _, SqL.of Ri.here⟩, Ri.tabs, fun Ha ea ta => ?_⟩
      have Ra := Ri.ext ea ta
      have hfa := ea _ _ hfi (tup_nt _)
      have rn := (anS.mono Ra.kp).rat (K := K) nrn
      refine ⟨a', rfl, hFs, _, rfl, _, rfl, vn, vn, false, false, rfl, rn, rn, rfl, .inl ⟨rfl, fun p hp => ?_⟩⟩
      refine ⟨lt, ts, .ref p, rfl, rfl, by rw [upd_ne (ne_of_none Ra.here hp)]; exact Ra.here, Ra.len (by rw [List.length_replicate]; omega), ?_⟩
      have Rb : Run [lt, d] Hs Pt lt qL (ts ++ [.ref p]) (List.replicate (2 * i') dR ++ [dR]) (upd (upd Ha p (two tR (.str "ratio"))) lt (.lst (ts ++ [.ref p]))) := Ra.add (a := .str "refused") (b := .str "ratio") lS hp rfl rfl
      have hfb : upd (upd Ha p (two tR (.str "ratio"))) lt (.lst (ts ++ [.ref p])) ft = some (.tup [.ref fP1, .ref fP2, .ref fP3, .ref fP4, .ref fP5]) := by
        rw [upd_ne (ne_of hfa Ra.here (tup_nl _ _)), upd_ne (ne_of_none hfa hp)]
        exact hfa
      generalize upd (upd Ha p (two tR (.str "ratio"))) lt (.lst (ts ++ [.ref p])) = Hb at *
      refine ⟨_, rfl, .inl ⟨rfl, _, SqL.of Rb.here⟩, Rb.tabs, fun Hc ec tc => ?_⟩
      have Rc := Rb.ext ec tc
      have hfc := ec _ _ hfb (tup_nt _)
      have rn2 := (anS.mono Rc.kp).rat (K := K) nrn
      have r1c := rat_md (K := K) (IsR.of (Rc.kp _ _ hp1s (.inr (tup_nl _)) (tup_nt _))) sm1.md
      refine ⟨a', rfl, hFs, _, rfl, _, rfl, .ref p1, vn, true, false, rfl, r1c, rn2, rfl, .inl ⟨rfl, fun p' hp' => ?_⟩⟩
      refine ⟨lt, _, .ref p', rfl, rfl, by rw [upd_ne (ne_of_none Rc.here hp')]; exact Rc.here, Rc.len (by rw [List.length_append, List.length_replicate]; show 2 * i' + 1 < 1000; omega), ?_⟩
      have Rd : Run [lt, d] Hs Pt lt qL (ts ++ [.ref p] ++ [.ref p']) (List.replicate (2 * i') dR ++ [dR] ++ [dR]) (upd (upd Hc p' (two tR (.str "ratio"))) lt (.lst (ts ++ [.ref p] ++ [.ref p']))) := Rc.add (a := .str "refused") (b := .str "ratio") lS hp' rfl rfl
      have hfd : upd (upd Hc p' (two tR (.str "ratio"))) lt (.lst (ts ++ [.ref p] ++ [.ref p'])) ft = some (.tup [.ref fP1, .ref fP2, .ref fP3, .ref fP4, .ref fP5]) := by
        rw [upd_ne (ne_of hfc Rc.here (tup_nl _ _)), upd_ne (ne_of_none hfc hp')]
        exact hfc
      have er : List.replicate (2 * i') dR ++ [dR] ++ [dR] = List.replicate (2 * (i' + 1)) dR := by
        rw [← List.replicate_succ', ← List.replicate_succ']
        rfl
      rw [er] at Rd
      exact ⟨⟨_, _, rfl, Rd⟩, hfd⟩
    · rintro σ' H' ⟨⟨co, ts, rfl, Ri⟩, _⟩
      exact ⟨co, ts, rfl, Ri⟩
  rintro σ' He ⟨co, ts, rfl, Re⟩
  -- ratio_text
  refine ⟨_, rfl, .inl ⟨rfl, _, SqL.of Re.here⟩, Re.tabs, fun Ha ea ta => ?_⟩
  have Ra := Re.ext ea ta
  refine ⟨_, rfl, vn, false, rfl, (anS.mono Ra.kp).rat nrn, (fun _ => .inl ⟨rfl, fun p hp => ?_⟩), (fun e => nomatch e)⟩
  refine ⟨lt, ts, .ref p, rfl, rfl, by rw [upd_ne (ne_of_none Ra.here hp)]; exact Ra.here, Ra.len (by decide), ?_⟩
  have Rb : Run [lt, d] Hs Pt lt qL (ts ++ [.ref p]) (List.replicate 10 dR ++ [dR]) (upd (upd Ha p (two tR (.str "ratio"))) lt (.lst (ts ++ [.ref p]))) := Ra.add (a := .str "refused") (b := .str "ratio") lS hp rfl rfl
  generalize upd (upd Ha p (two tR (.str "ratio"))) lt (.lst (ts ++ [.ref p])) = Hb at *
  generalize ts ++ [.ref p] = ts1 at *
  rw [Bool.and_eq_true] at okb okl
  -- lowest(bad, low)
  refine ⟨_, rfl, .inl ⟨rfl, _, SqL.of Rb.here⟩, Rb.tabs, fun Hc ec tc => ?_⟩
  have Rc := Rb.ext ec tc
  refine ⟨_, rfl, _, rfl, vb, vl, rfl, (abS.mono Rc.kp).vk, (alS.mono Rc.kp).vk, (fun _ dd hdd => ?_), (fun e => by rw [abS.noint okb.1] at e; cases e), (fun e => by rw [abS.noint okb.1] at e; cases e)⟩
  have Rd := Rc.same (Same.new (o := .xd [(("given" : Str), vb)]) hdd)
  have hx1 : upd Hc dd (.xd [(("given" : Str), vb)]) dd = some (.xd [(("given" : Str), vb)]) := upd_same
  generalize upd Hc dd (.xd [(("given" : Str), vb)]) = Hd at *
  refine .inr (.inr ⟨rfl, dd, vb, db.shown, rfl, hx1, (abS.mono Rd.kp).shown (fine_show okb.2), fun p hp => ?_⟩)
  refine ⟨lt, ts1, .ref p, rfl, rfl, by rw [upd_ne (ne_of_none Rd.here hp)]; exact Rd.here, Rd.len (by decide), ?_⟩
  have Rg : Run [lt, d] Hs Pt lt qL (ts1 ++ [.ref p]) (List.replicate 10 dR ++ [dR] ++ [.tuple [.str "refused", .str db.shown]]) (upd (upd Hd p (two tR (.str db.shown))) lt (.lst (ts1 ++ [.ref p]))) := Rd.add (a := .str "refused") (b := .str db.shown) lS hp rfl rfl
  generalize upd (upd Hd p (two tR (.str db.shown))) lt (.lst (ts1 ++ [.ref p])) = Hg at *
  generalize ts1 ++ [.ref p] = ts2 at *
  -- lowest(5, low)
  refine ⟨_, rfl, .inl ⟨rfl, _, SqL.of Rg.here⟩, Rg.tabs, fun Hj ej tj => ?_⟩
  have Rj := Rg.ext ej tj
  refine ⟨_, rfl, .int 5, vl, rfl, .int 5, (alS.mono Rj.kp).vk, (fun e => by rw [show i60 (.int 5) = true from by decide] at e; cases e), (fun _ _ d2 hd2' => ?_), (fun _ e => by rw [alS.nolow okl.1] at e; cases e)⟩
  have Rk := Rj.same (Same.new (o := .xd [(("given" : Str), vl)]) hd2')
  have hx2 : upd Hj d2 (.xd [(("given" : Str), vl)]) d2 = some (.xd [(("given" : Str), vl)]) := upd_same
  generalize upd Hj d2 (.xd [(("given" : Str), vl)]) = Hk at *
  refine .inr (.inr ⟨rfl, d2, vl, dl.shown, rfl, hx2, (alS.mono Rk.kp).shown (fine_show okl.2), fun p hp => ?_⟩)
  refine ⟨lt, ts2, .ref p, rfl, rfl, by rw [upd_ne (ne_of_none Rk.here hp)]; exact Rk.here, Rk.len (by show 12 < 1000; decide), ?_⟩
  have Rl : Run [lt, d] Hs Pt lt qL (ts2 ++ [.ref p]) (List.replicate 10 dR ++ [dR] ++ [.tuple [.str "refused", .str db.shown]] ++ [.tuple [.str "refused", .str dl.shown]]) (upd (upd Hk p (two tR (.str dl.shown))) lt (.lst (ts2 ++ [.ref p]))) := Rk.add (a := .str "refused") (b := .str dl.shown) lS hp rfl rfl
  generalize upd (upd Hk p (two tR (.str dl.shown))) lt (.lst (ts2 ++ [.ref p])) = Hl at *
  generalize ts2 ++ [.ref p] = ts3 at *
  -- over
  refine ⟨_, rfl, .inl ⟨rfl, _, SqL.of Rl.here⟩, Rl.tabs, fun Hn en tn => ?_⟩
  have Rn := Rl.ext en tn
  refine ⟨_, rfl, (by show 2 ≤ sizeLine; decide), fun z0 hz0 => ?_⟩
  have Ro := Rn.same (Same.new (o := .tup [.int 0, .int 1]) hz0)
  have hz1 : IsR K (upd Hn z0 (.tup [.int 0, .int 1])) z0 (0, 1) := IsR.of (r := (0, 1)) upd_same
  generalize upd Hn z0 (.tup [.int 0, .int 1]) = Ho at *
  have ip1 : IsR K Ho p1 r1 := IsR.of (Ro.kp _ _ hp1s (.inr (tup_nl _)) (tup_nt _))
  have m01 : Md (0, 1) := ⟨rt_one 0, by decide, by decide⟩
  refine ⟨.ref p1, .ref z0, true, true, rfl, rat_md ip1 sm1.md, rat_md hz1 m01, (fun e => nomatch e), fun _ => ⟨p1, z0, r1, (0, 1), rfl, rfl, ip1, hz1, sm1.md, m01, (fun _ => .inr (.inl ⟨rfl, fun p hp => ?_⟩)), fun n => absurd rfl n⟩⟩
  refine ⟨lt, ts3, .ref p, rfl, rfl, by rw [upd_ne (ne_of_none Ro.here hp)]; exact Ro.here, Ro.len (by show 13 < 1000; decide), ?_⟩
  have Rp : Run [lt, d] Hs Pt lt qL (ts3 ++ [.ref p]) (List.replicate 10 dR ++ [dR] ++ [.tuple [.str "refused", .str db.shown]] ++ [.tuple [.str "refused", .str dl.shown]] ++ [.tuple [.str "refused", .str "operation"]]) (upd (upd Ho p (two tR (.str "operation"))) lt (.lst (ts3 ++ [.ref p]))) := Ro.add (a := .str "refused") (b := .str "operation") lS hp rfl rfl
  generalize upd (upd Ho p (two tR (.str "operation"))) lt (.lst (ts3 ++ [.ref p])) = HP at *
  generalize ts3 ++ [.ref p] = ts4 at *
  -- due
  refine ⟨by show 2 ≤ sizeLine; decide, fun u1 hu1 => ⟨by show 1 ≤ sizeLine; decide, fun u2 hu2 => ?_⟩⟩
  have s1 : Same HP (upd HP u1 (.tup [.str "refused", .str "ratio"])) := Same.new hu1
  have d1 : Dt [lt, d] (upd HP u1 (.tup [.str "refused", .str "ratio"])) (.ref u1) dR := .tup (ds := [.str "refused", .str "ratio"]) rfl upd_same
  generalize upd HP u1 (.tup [.str "refused", .str "ratio"]) = Hq at *
  have s2 : Same Hq (upd Hq u2 (.lst [.ref u1])) := Same.new hu2
  have h2 : upd Hq u2 (.lst [.ref u1]) u2 = some (.lst [.ref u1]) := upd_same
  generalize upd Hq u2 (.lst [.ref u1]) = Hr at *
  refine ⟨u2, 11, _, rfl, rfl, h2, by decide, by decide, by show 1 * 11 ≤ sizeLine; decide, fun u3 hu3 => ?_⟩
  have s3 : Same Hr (upd Hr u3 (.lst (List.replicate (11 : Int).toNat [V.ref u1]).flatten)) := Same.new hu3
  have h3 : upd Hr u3 (.lst (List.replicate (11 : Int).toNat [V.ref u1]).flatten) u3 = some (.lst (List.replicate (11 : Int).toNat [V.ref u1]).flatten) := upd_same
  generalize upd Hr u3 (.lst (List.replicate (11 : Int).toNat [V.ref u1]).flatten) = Hu at *
  have S3 := (s1.trans s2).trans s3
  have Ru := Rp.same S3
  refine ⟨_, rfl, vb, db.shown, rfl, (abS.mono Ru.kp).shown (fine_show okb.2), (by show 2 ≤ sizeLine; decide), fun w1 hw1 => ?_⟩
  have s4 : Same Hu (upd Hu w1 (.tup [.str "refused", .str db.shown])) := Same.new hw1
  have d4 : Dt [lt, d] (upd Hu w1 (.tup [.str "refused", .str db.shown])) (.ref w1) (.tuple [.str "refused", .str db.shown]) := .tup (ds := [.str "refused", .str db.shown]) rfl upd_same
  generalize upd Hu w1 (.tup [.str "refused", .str db.shown]) = Hv at *
  have Rv := Ru.same s4
  refine ⟨_, rfl, vl, dl.shown, rfl, (alS.mono Rv.kp).shown (fine_show okl.2), (by show 2 ≤ sizeLine; decide), fun w2 hw2 => ?_⟩
  have s5 : Same Hv (upd Hv w2 (.tup [.str "refused", .str dl.shown])) := Same.new hw2
  have d5 : Dt [lt, d] (upd Hv w2 (.tup [.str "refused", .str dl.shown])) (.ref w2) (.tuple [.str "refused", .str dl.shown]) := .tup (ds := [.str "refused", .str dl.shown]) rfl upd_same
  generalize upd Hv w2 (.tup [.str "refused", .str dl.shown]) = Hw at *
  refine ⟨(by show 2 ≤ sizeLine; decide), fun w3 hw3 => ⟨by show 3 ≤ sizeLine; decide, fun w4 hw4 => ?_⟩⟩
  have s6 : Same Hw (upd Hw w3 (.tup [.str "refused", .str "operation"])) := Same.new hw3
  have d6 : Dt [lt, d] (upd Hw w3 (.tup [.str "refused", .str "operation"])) (.ref w3) (.tuple [.str "refused", .str "operation"]) := .tup (ds := [.str "refused", .str "operation"]) rfl upd_same
  generalize upd Hw w3 (.tup [.str "refused", .str "operation"]) = Hx at *
  have s7 : Same Hx (upd Hx w4 (.lst [.ref w1, .ref w2, .ref w3])) := Same.new hw4
  have h7 : upd Hx w4 (.lst [.ref w1, .ref w2, .ref w3]) w4 = some (.lst [.ref w1, .ref w2, .ref w3]) := upd_same
  generalize upd Hx w4 (.lst [.ref w1, .ref w2, .ref w3]) = Hy at *
  refine ⟨u3, w4, _, _, rfl, rfl, s7 _ _ (s6 _ _ (s5 _ _ (s4 _ _ h3))), h7, by show 11 + 3 ≤ sizeLine; decide, fun u5 hu5 => ?_⟩
  have s8 : Same Hy (upd Hy u5 (.lst ((List.replicate (11 : Int).toNat [V.ref u1]).flatten ++ [.ref w1, .ref w2, .ref w3]))) := Same.new hu5
  have h8 : upd Hy u5 (.lst ((List.replicate (11 : Int).toNat [V.ref u1]).flatten ++ [.ref w1, .ref w2, .ref w3])) u5 = some (.lst ((List.replicate (11 : Int).toNat [V.ref u1]).flatten ++ [.ref w1, .ref w2, .ref w3])) := upd_same
  generalize upd Hy u5 (.lst ((List.replicate (11 : Int).toNat [V.ref u1]).flatten ++ [.ref w1, .ref w2, .ref w3])) = Hz at *
  have S8 : Same Hv Hz := ((s5.trans s6).trans s7).trans s8
  have Rz := Rv.same S8
  have kz : ∀ {Ha Hb : _root_.L2.Hp}, Same Ha Hb → Kp [lt, d] Ha Hb := fun e => (Kq.same e).kp
  have e1 : Dt [lt, d] Hz (.ref u1) dR := d1.mono (kz (((s2.trans s3).trans s4).trans S8))
  have e4 := d4.mono (kz S8)
  have e5 := d5.mono (kz ((s6.trans s7).trans s8))
  have e6 := d6.mono (kz (s7.trans s8))
  have dd8 : Dts [lt, d] Hz ((List.replicate (11 : Int).toNat [V.ref u1]).flatten ++ [.ref w1, .ref w2, .ref w3]) (List.replicate 10 dR ++ [dR] ++ [.tuple [.str "refused", .str db.shown]] ++ [.tuple [.str "refused", .str dl.shown]] ++ [.tuple [.str "refused", .str "operation"]]) :=
    .cons e1 (.cons e1 (.cons e1 (.cons e1 (.cons e1 (.cons e1 (.cons e1 (.cons e1 (.cons e1 (.cons e1 (.cons e1 (.cons e4 (.cons e5 (.cons e6 .nil)))))))))))))
  have sh := due_shaped (fine_lay okb.2) (fine_lay okl.2)
  refine ⟨_, rfl, _, rfl, _, _, .lst (SqL.of Rz.here) Rz.dts.dp, .lst (SqL.of h8) dd8.dp, sh, sh, _, rfl, ?_⟩
  refine iteT' (SeqAt.eqv_refl _ (SeqAt.canLay_of_shaped sh)) ?_
  have ip1 : IsR K Hz p1 r1 := IsR.of (Rz.kp _ _ hp1s (.inr (tup_nl _)) (tup_nt _))
  have ip2 : IsR K Hz p2 r2 := IsR.of (Rz.kp _ _ hp2s (.inr (tup_nl _)) (tup_nt _))
  refine ⟨_, rfl, _, rfl, p1, p2, r1, r2, rfl, ip1, ip2, sm1, sm2, fun Ha sa => ⟨_, rfl, iteT ?_⟩⟩
  refine ⟨_, rfl, _, rfl, p2, p2, r2, r2, rfl, ip2.same sa, ip2.same sa, sm2, sm2, fun Hb sb => ?_⟩
  have RR := (Rz.same sa).same sb
  exact k Hb (kp_drop KMs hl0 RR.kp) RR.tab
end
end K0
namespace K0
open PySem PySem.Spec PyProof.Rows L2 LamX
abbrev nLaw : List Str := ["script", "spot", "told", "value"]
theorem scLaw : FnScope nLaw ["script"] (defScope sLaw) := ⟨rfl, rfl, rfl, by decide +kernel, rfl, by decide +kernel, by decide +kernel⟩
theorem bootMin : bootBuiltins "min" = some (.builtin "min") := by decide +kernel
def spLaw (K : PySem.W.Frag) (Pt : Addr) : Sp := fun vs H Q _ => ∃ (a : Addr) (ns : List Int), vs = [.ref a] ∧ SqL K H a (ns.map V.int) ∧ TabS H Pt qL ∧ ∀ H', Q (.bl true) H'
theorem seq_new {K : PySem.W.Frag} {H : Hp} {a p : Addr} {xs : List V} {o : HO} (h : SqL K H a xs) (hp : H p = none) : SqL K (upd H p o) a xs := (Same.new hp).seq h
theorem seq_kp {K : PySem.W.Frag} {H H' : Hp} {a p : Addr} {xs : List V} (h : SqL K H a xs) (hp : H p = none) {o : HO} (k : Kp [p] (upd H p o) H') : SqL K H' a xs := by
  rcases h with (h | ⟨ob, h⟩) | h
  · have ne := ne_of_none h hp
    exact .inl (.inl (k _ _ (by rw [upd_ne ne]; exact h) (.inl fun z => ne (List.mem_singleton.mp z)) (lst_nt _)))
  · have ne := ne_of_none h hp
    exact .inl (.inr ⟨ob, k _ _ (by rw [upd_ne ne]; exact h) (.inl fun z => ne (List.mem_singleton.mp z)) fun _ z => nomatch z⟩)
  · exact .inr h
def inV1 : List V → List V := fun xs => xs.map fun x => V.bl (i60 x)
theorem l1 : low 10 (-4) = (-5, 2) := by decide +kernel
theorem l2 : low 0 7 = (0, 1) := by decide +kernel
theorem l3 : divQ (1, 2) (-1, 4) = (-2, 1) := by decide +kernel
theorem l4 : txt (4, 1) = Str.ofString "4" := by decide +kernel
section
variable {P : Program} {w : World} {K : PySem.W.Frag} {mg : Str → Option Value} {base : Heap} {CR CO CN i0 : Addr}
theorem ok_law {f fR fD Pt : Addr} {kV doc pm cdv ct oc : Value} {an od : Option Addr} {osl : Array (Option Value)} {dR' dD : FuncData} (lk : K.lookup f = some ⟨oc, od, .func (PySem.W.fnOf "law" "law" (defArgs sLaw) (defBody sLaw) (defScope sLaw) .none kV doc pm an cdv ct), osl⟩)
    (hcd : PySem.W.codeIn K cdv "law" = true) (D : Defs P w K mg base CR CO CN i0)
    (gR : mg "_law_right" = some (.ref fR)) (kR : PySem.W.keepIn K (.ref fR) = true) (bR : Binds K dR' ["dice"] []) (FR : FnG P w K mg base CX0 8 fR dR' ["dice"] (spRight Pt))
    (gD : mg "_law_dice" = some (.ref fD)) (kD : PySem.W.keepIn K (.ref fD) = true) (bD : Binds K dD ["script", "spot"] []) (FD : FnOk P w K mg base CX0 1 fD dD ["script", "spot"] (spDice K)) :
    FnG P w K mg base CX0 9 f (PySem.W.fnOf "law" "law" (defArgs sLaw) (defBody sLaw) (defScope sLaw) .none kV doc pm an cdv ct) ["script"] (spLaw K Pt) := by
  obtain ⟨fIs, dIs, gIs, kIs, bIs, FIs⟩ := D.isi
  obtain ⟨fLo, dLo, gLo, kLo, bLo, FLo⟩ := D.lowest
  obtain ⟨fOv, dOv, gOv, kOv, bOv, FOv⟩ := D.over
  obtain ⟨fRT, dRT, gRT, kRT, bRT, FRT⟩ := D.rtext
  have T := D.txt
  refine ⟨fun vs H Q E h => ?_, fun A outer s H args us vs Q E hgd hr e0 hb r h => ?_⟩
  · obtain ⟨d, L, rfl, _⟩ := h; rfl
  have hlen : vs.length = (["script"] : List Str).length := by obtain ⟨d, L, rfl, _⟩ := h; rfl
  refine run_ofS (N := nLaw) (k := 8) lk hcd scLaw hr e0 hb r hlen fun hr => ?_
  obtain ⟨a, ns, rfl, hS, hT, k⟩ := h
  have hr1 : Room 1 _ := hr.mono (by decide)
  have hr2 : Room 2 _ := hr.mono (by decide)
  have hr4 : Room 4 _ := hr.mono (by decide)
  have hr5 : Room 5 _ := hr.mono (by decide)
  suffices hx : ∃ t, PSs (cxOf CX0 P w K mg base nLaw "law" (defScope sLaw) f cdv A outer s H E).nox (defBody sLaw) t ∧ t { nx := fun _ H' => Q .non H', rt := Q } (L2.start nLaw [.ref a]) H by
    obtain ⟨t, ht, hq⟩ := hx
    exact ⟨t, ht.nox, hq⟩
  refine ⟨_, pss_cons (ps_for PassesOwn.never rfl (pi_range1 rfl T.range (pa_cons (pe_callB (call_max2 rfl) (by rfl) T.max bootMax (pa_cons pe_int (pa_cons (pe_callB (call_min2 rfl) (by rfl) T.min bootMin (pa_cons pe_int (pa_cons (pe_callB call_len_seq (by rfl) T.len PySem.boot_len (pa_cons (pv 0) pa_nil)) pa_nil))) pa_nil))) pa_nil))
      (pg_name (i := 1) scLaw.nd rfl (.inl rfl)) (pss_one (ps_if (pt_not (pt_val (pe_callG FR (by exact hgd) hr (by rfl) gR kR bR (pa_cons (pe_call FD hr1 (by rfl) gD kD bD .nil pass0 (pa_cons (pv 0) (pa_cons (pv 1) pa_nil))) pa_nil)))) (pss_one (ps_ret pe_bl)) pss_nil)))
    (pss_cons (ps_setLc (i := 2) (own := [("value", 3)]) (g := gName 3) (tt := tYes) rfl scLaw.nd rfl rfl (sw_true rfl rfl rfl (by decide +kernel))
      (pi_tup (pe_tup (pa_cons pe_int (pa_cons (pe_op op_add (pe_un un_neg (pe_op op_pow pe_int pe_int)) pe_int) (pa_cons (pe_op op_pow pe_int pe_int) (pa_cons pe_bl (pa_cons pe_non (pa_cons pe_str (pa_cons (pe_tup (pa_cons pe_int pa_nil)) pa_nil)))))))))
      (blkOk_by (N := nLaw) (sc := defScope sLaw) (by decide +kernel)) (fun _ _ _ _ _ => pg_name (i := 3) scLaw.nd rfl (Or.inl rfl)) (fun _ _ _ _ _ => pts_nil) (fun _ _ _ _ _ => pe_call FIs hr2 (by rfl) gIs kIs bIs .nil pass0 (by exact (pa_cons (pv 3) pa_nil))))
    (pss_cons (ps_if (pt_cmpR (op_neD hr.units) (pv 2) (pe_lst (pa_cons pe_bl (pa_cons pe_bl (pa_cons pe_bl (pa_cons pe_bl (pa_cons pe_bl (pa_cons pe_bl (pa_cons pe_bl pa_nil)))))))) (nomark _)) (pss_one (ps_ret pe_bl)) pss_nil)
    (pss_one (ps_ret (pe_cmpR (op_eqD hr.units)
      (pe_lst (pa_cons (pe_call FLo hr4 (by rfl) gLo kLo bLo .nil passL (pa_cons pe_int (pa_cons (pe_un un_neg pe_int) pa_nil))) (pa_cons (pe_call FLo hr4 (by rfl) gLo kLo bLo .nil passL (pa_cons pe_int (pa_cons pe_int pa_nil)))
        (pa_cons (pe_call FOv hr5 (by rfl) gOv kOv bOv .nil passL (pa_cons (pe_tup (pa_cons pe_int (pa_cons pe_int pa_nil))) (pa_cons (pe_tup (pa_cons (pe_un un_neg pe_int) (pa_cons pe_int pa_nil))) pa_nil)))
        (pa_cons (pe_call FRT hr4 (by rfl) gRT kRT bRT .nil passL (pa_cons (pe_tup (pa_cons pe_int (pa_cons pe_int pa_nil))) pa_nil)) pa_nil)))))
      (pe_lst (pa_cons (pe_tup (pa_cons (pe_un un_neg pe_int) (pa_cons pe_int pa_nil))) (pa_cons (pe_tup (pa_cons pe_int (pa_cons pe_int pa_nil))) (pa_cons (pe_tup (pa_cons (pe_un un_neg pe_int) (pa_cons pe_int pa_nil))) (pa_cons pe_str pa_nil))))) (nomark _)))))), ?_⟩
  refine ⟨_, rfl, a, _, rfl, .inl hS, _, _, rfl, _, _, rfl, _, rfl, ?_, ?_, ?_⟩
  · split <;> split <;> omega
  · split <;> split <;> omega
  refine for_range (lo := 0) (fun _ σ' H' => ∃ o : Option V, σ' = [some (.ref a), o, none, none] ∧ SqL K H' a (ns.map V.int) ∧ TabS H' Pt qL) ⟨none, rfl, hS, hT⟩ ?_ ?_
  · rintro i σ' H' _ ⟨o, rfl, hs, ht⟩
    refine ⟨_, rfl, _, rfl, a, _, ns, rfl, hs, by omega, fun L p hL hp => ?_⟩
    refine ⟨p, L, rfl, upd_same, hL, tab_kq (S := []) ht (Kq.new hp), fun H1 kp tb => ⟨_, rfl, ?_⟩⟩
    exact iteF ⟨_, rfl, seq_kp hs hp kp, tb⟩
  rintro σ' H1 ⟨o, rfl, hs, ht⟩
  -- is_integer
  refine ⟨_, _, rfl, rfl, pw10 (by decide) (by decide), _, rfl, _, _, rfl, rfl, _, _, rfl, rfl, pw10 (by decide) (by decide), (by show 1 ≤ sizeLine; decide), fun t1 ht1 => ⟨by show 7 ≤ sizeLine; decide, fun t7 ht7 => ?_⟩⟩
  have a1 : Dt [] (upd H1 t1 (.tup [.int 1])) (.ref t1) (.tuple [.int 1]) := .tup (ds := [.int 1]) rfl upd_same
  generalize upd H1 t1 (.tup [.int 1]) = H2 at *
  have xd : Dts [] H2 [.int 0, .int (-(10 ^ (60 : Int).toNat) + 1), .int (10 ^ (60 : Int).toNat), .bl true, .non, .str "1", .ref t1] [.int 0, .int (-(10 ^ (60 : Int).toNat) + 1), .int (10 ^ (60 : Int).toNat), .bool true, .none, .str "1", .tuple [.int 1]] :=
    .cons (.flat (d := .int 0) rfl) (.cons (.flat (d := .int (-(10 ^ (60 : Int).toNat) + 1)) rfl) (.cons (.flat (d := .int (10 ^ (60 : Int).toNat)) rfl) (.cons (.flat (d := .bool true) rfl) (.cons (.flat (d := .none) rfl) (.cons (.flat (d := .str "1") rfl) (.cons a1 .nil))))))
  have n1 : i60 (.int 0) = true := by decide
  have n2 : i60 (.int (-(10 ^ (60 : Int).toNat) + 1)) = true := by decide +kernel
  have n3 : i60 (.int (10 ^ (60 : Int).toNat)) = false := by decide +kernel
  have vals : inV1 [.int 0, .int (-(10 ^ (60 : Int).toNat) + 1), .int (10 ^ (60 : Int).toNat), .bl true, .non, .str "1", .ref t1] = [.bl true, .bl true, .bl false, .bl false, .bl false, .bl false, .bl false] := by
    show [V.bl (i60 (.int 0)), V.bl (i60 (.int (-(10 ^ (60 : Int).toNat) + 1))), V.bl (i60 (.int (10 ^ (60 : Int).toNat))), .bl false, .bl false, .bl false, .bl false] = _
    rw [n1, n2, n3]
  generalize hxs : ([.int 0, .int (-(10 ^ (60 : Int).toNat) + 1), .int (10 ^ (60 : Int).toNat), .bl true, .non, .str "1", .ref t1] : List V) = xs at *
  have xl : xs.length = 7 := by rw [← hxs]; rfl
  have x7 : SqT K (upd H2 t7 (.tup xs)) t7 xs := SqT.of upd_same
  replace xd := xd.mono (Kq.new (S := []) (o := .tup xs) ht7).kp
  generalize upd H2 t7 (.tup xs) = H3 at *
  refine ⟨t7, rfl, ⟨_, x7⟩, fun De hDe => lc_tup (K := K) (a := t7) (xs := xs) (fun i' H' => H' = upd H3 De (.lst (inV1 (xs.take i')))) rfl ?_ ?_ ?_⟩
  · rintro i' H' _ rfl
    rcases x7 with (h | ⟨ob, h⟩) | h
    · exact .inl (.inl (by rw [upd_ne (ne_of_none h hDe)]; exact h))
    · exact .inl (.inr ⟨ob, by rw [upd_ne (ne_of_none h hDe)]; exact h⟩)
    · exact .inr h
  · rintro i' x H' hx rfl
    obtain ⟨dx, m1, m2⟩ := xd.mem (List.mem_of_getElem? hx)
    have vk := (m2.mono (Kq.new (S := []) (o := .lst (inV1 (xs.take i'))) hDe).kp).vk (K := K)
    have il : i' < 7 := by
      have := (List.getElem?_eq_some_iff.mp hx).1
      omega
    refine ⟨rfl, iteT (B := True) ⟨_, rfl, x, rfl, vk, inV1 (xs.take i'), upd_same, small1000 (by unfold inV1; rw [List.length_map, List.length_take]; omega), ?_⟩⟩
    show upd _ De (.lst (inV1 (xs.take i') ++ [.bl (i60 x)])) = _
    rw [upd_upd]
    have e : xs.take (i' + 1) = xs.take i' ++ [x] := by
      rw [List.take_add_one, hx]
      rfl
    rw [e]
    unfold inV1
    rw [List.map_append]
    rfl
  rintro H' rfl
  have h4 : upd H3 De (.lst (inV1 (xs.take xs.length))) De = some (.lst [.bl true, .bl true, .bl false, .bl false, .bl false, .bl false, .bl false]) := by
    rw [upd_same, List.take_length, vals]
  generalize upd H3 De (.lst (inV1 (xs.take xs.length))) = H4 at *
  refine ⟨_, rfl, (by show 7 ≤ sizeLine; decide), fun e1 he1 => ?_⟩
  have s5 : Same H4 (upd H4 e1 (.lst [.bl true, .bl true, .bl false, .bl false, .bl false, .bl false, .bl false])) := Same.new he1
  have h5 : upd H4 e1 (.lst [.bl true, .bl true, .bl false, .bl false, .bl false, .bl false, .bl false]) e1 = some (.lst [.bl true, .bl true, .bl false, .bl false, .bl false, .bl false, .bl false]) := upd_same
  generalize upd H4 e1 (.lst [.bl true, .bl true, .bl false, .bl false, .bl false, .bl false, .bl false]) = H5 at *
  have bls : ∀ {Hx : _root_.L2.Hp}, DpAll K Hx [.bl true, .bl true, .bl false, .bl false, .bl false, .bl false, .bl false] [.bool true, .bool true, .bool false, .bool false, .bool false, .bool false, .bool false] :=
    .cons (.bl _) (.cons (.bl _) (.cons (.bl _) (.cons (.bl _) (.cons (.bl _) (.cons (.bl _) (.cons (.bl _) .nil))))))
  refine ⟨_, _, .lst (SqL.of (s5 _ _ h4)) bls, .lst (SqL.of h5) bls, rfl, rfl, _, rfl, iteF' (by decide) ?_⟩
  -- the last row
  have b60 : ∀ {z : Int}, z.natAbs < 10 ^ 60 → i60 (.int z) = true := fun {z} h => by
    show (decide (-(10 ^ 60) < z) && decide (z < 10 ^ 60)) = true
    rw [Bool.and_eq_true, decide_eq_true_eq, decide_eq_true_eq]
    omega
  have c60 : ∀ {z : Int}, z.natAbs < 10 ^ 60 → z ≠ 0 → low60 (.int z) = true := fun {z} h n => by
    show (i60 (.int z) && !decide (z = 0)) = true
    rw [b60 h, decide_eq_false n]
    rfl
  refine ⟨_, rfl, .int 10, .int (-4), rfl, .int _, .int _, (fun e => by rw [b60 (by decide)] at e; cases e), (fun _ e => by rw [c60 (by decide) (by decide)] at e; cases e), fun _ _ => ⟨_, _, rfl, rfl, fun q1 hq1 => ?_⟩⟩
  rw [l1]
  have v1 : IsR K (upd H5 q1 (qT (-5, 2))) q1 (-5, 2) := IsR.of upd_same
  generalize upd H5 q1 (qT (-5, 2)) = H6 at *
  refine ⟨.int 0, .int 7, rfl, .int _, .int _, (fun e => by rw [b60 (by decide)] at e; cases e), (fun _ e => by rw [c60 (by decide) (by decide)] at e; cases e), fun _ _ => ⟨_, _, rfl, rfl, fun q2 hq2 => ?_⟩⟩
  rw [l2]
  have v2 : IsR K (upd H6 q2 (qT (0, 1))) q2 (0, 1) := IsR.of upd_same
  replace v1 := v1.new (o := qT (0, 1)) hq2
  generalize upd H6 q2 (qT (0, 1)) = H7 at *
  refine ⟨(by show 2 ≤ sizeLine; decide), fun z1 hz1 => ⟨_, rfl, (by show 2 ≤ sizeLine; decide), fun z2 hz2 => ?_⟩⟩
  have w1 : IsR K (upd H7 z1 (.tup [.int 1, .int 2])) z1 (1, 2) := IsR.of (r := (1, 2)) upd_same
  replace v1 := v1.new (o := .tup [.int 1, .int 2]) hz1
  replace v2 := v2.new (o := .tup [.int 1, .int 2]) hz1
  generalize upd H7 z1 (.tup [.int 1, .int 2]) = H8 at *
  have w2 : IsR K (upd H8 z2 (.tup [.int (-1), .int 4])) z2 (-1, 4) := IsR.of (r := (-1, 4)) upd_same
  replace v1 := v1.new (o := .tup [.int (-1), .int 4]) hz2
  replace v2 := v2.new (o := .tup [.int (-1), .int 4]) hz2
  replace w1 := w1.new (o := .tup [.int (-1), .int 4]) hz2
  generalize upd H8 z2 (.tup [.int (-1), .int 4]) = H9 at *
  have m12 : Md (1, 2) := ⟨⟨by decide, by decide⟩, by decide, by decide⟩
  have m14 : Md (-1, 4) := ⟨⟨by decide, by decide⟩, by decide, by decide⟩
  have m41 : Md (4, 1) := ⟨⟨by decide, by decide⟩, by decide, by decide⟩
  refine ⟨.ref z1, .ref z2, true, true, rfl, rat_md w1 m12, rat_md w2 m14, (fun e => nomatch e), fun _ => ⟨z1, z2, (1, 2), (-1, 4), rfl, rfl, w1, w2, m12, m14, (fun z => absurd z (by decide)), fun _ q3 hq3 => ?_⟩⟩
  rw [l3]
  have v3 : IsR K (upd H9 q3 (qT (-2, 1))) q3 (-2, 1) := IsR.of upd_same
  replace v1 := v1.new (o := qT (-2, 1)) hq3
  replace v2 := v2.new (o := qT (-2, 1)) hq3
  generalize upd H9 q3 (qT (-2, 1)) = H10 at *
  refine ⟨(by show 2 ≤ sizeLine; decide), fun z3 hz3 => ?_⟩
  have w3 : IsR K (upd H10 z3 (.tup [.int 4, .int 1])) z3 (4, 1) := IsR.of (r := (4, 1)) upd_same
  replace v1 := v1.new (o := .tup [.int 4, .int 1]) hz3
  replace v2 := v2.new (o := .tup [.int 4, .int 1]) hz3
  replace v3 := v3.new (o := .tup [.int 4, .int 1]) hz3
  generalize upd H10 z3 (.tup [.int 4, .int 1]) = H11 at *
  refine ⟨.ref z3, true, rfl, rat_md w3 m41, (fun e => nomatch e), fun _ => ⟨z3, (4, 1), rfl, w3, m41, ?_⟩⟩
  rw [l4]
  refine ⟨(by show 4 ≤ sizeLine; decide), fun ll hll => ?_⟩
  have sA : Same H11 (upd H11 ll (.lst [.ref q1, .ref q2, .ref q3, .str (Str.ofString "4")])) := Same.new hll
  have hll2 : upd H11 ll (.lst [.ref q1, .ref q2, .ref q3, .str (Str.ofString "4")]) ll = some (.lst [.ref q1, .ref q2, .ref q3, .str (Str.ofString "4")]) := upd_same
  generalize upd H11 ll (.lst [.ref q1, .ref q2, .ref q3, .str (Str.ofString "4")]) = H12 at *
  refine ⟨_, rfl, (by show 2 ≤ sizeLine; decide), fun y1 hy1 => ?_⟩
  have sB : Same H12 (upd H12 y1 (.tup [.int (-5), .int 2])) := Same.new hy1
  have u1 : IsR K (upd H12 y1 (.tup [.int (-5), .int 2])) y1 (-5, 2) := IsR.of (r := (-5, 2)) upd_same
  generalize upd H12 y1 (.tup [.int (-5), .int 2]) = H13 at *
  refine ⟨(by show 2 ≤ sizeLine; decide), fun y2 hy2 => ?_⟩
  have sC : Same H13 (upd H13 y2 (.tup [.int 0, .int 1])) := Same.new hy2
  have u2 : IsR K (upd H13 y2 (.tup [.int 0, .int 1])) y2 (0, 1) := IsR.of (r := (0, 1)) upd_same
  generalize upd H13 y2 (.tup [.int 0, .int 1]) = H14 at *
  refine ⟨_, rfl, (by show 2 ≤ sizeLine; decide), fun y3 hy3 => ⟨(by show 4 ≤ sizeLine; decide), fun y4 hy4 => ?_⟩⟩
  have sD : Same H14 (upd H14 y3 (.tup [.int (-2), .int 1])) := Same.new hy3
  have u3 : IsR K (upd H14 y3 (.tup [.int (-2), .int 1])) y3 (-2, 1) := IsR.of (r := (-2, 1)) upd_same
  generalize upd H14 y3 (.tup [.int (-2), .int 1]) = H15 at *
  have sE : Same H15 (upd H15 y4 (.lst [.ref y1, .ref y2, .ref y3, .str (Str.ofString "4")])) := Same.new hy4
  have hy5 : upd H15 y4 (.lst [.ref y1, .ref y2, .ref y3, .str (Str.ofString "4")]) y4 = some (.lst [.ref y1, .ref y2, .ref y3, .str (Str.ofString "4")]) := upd_same
  generalize upd H15 y4 (.lst [.ref y1, .ref y2, .ref y3, .str (Str.ofString "4")]) = H16 at *
  have SB := ((sB.trans sC).trans sD).trans sE
  have SA := sA.trans SB
  have L1 : Dp K H16 (.ref ll) (.list [dQ (-5, 2), dQ (0, 1), dQ (-2, 1), .str (Str.ofString "4")]) := .lst (SqL.of (SB _ _ hll2)) (.cons (dpQ (v1.same SA)) (.cons (dpQ (v2.same SA)) (.cons (dpQ (v3.same SA)) (.cons (.str _) .nil))))
  have L2 : Dp K H16 (.ref y4) (.list [dQ (-5, 2), dQ (0, 1), dQ (-2, 1), .str (Str.ofString "4")]) := .lst (SqL.of hy5) (.cons (dpQ (u1.same ((sC.trans sD).trans sE))) (.cons (dpQ (u2.same (sD.trans sE))) (.cons (dpQ (u3.same sE)) (.cons (.str _) .nil))))
  have sh : SeqAt.shaped (.list [dQ (-5, 2), dQ (0, 1), dQ (-2, 1), .str (Str.ofString "4")]) = true := by decide +kernel
  refine ⟨_, _, L1, L2, sh, sh, ?_⟩
  rw [SeqAt.eqv_refl _ (SeqAt.canLay_of_shaped sh)]
  exact k _
end
end K0
namespace K0
open PySem PySem.Spec PyProof.Rows L2 LamX
/-! ### the end: the law called from outside, no repr under way, one table of a code object -/
/-- what is tracked at first: the table, and the script where nothing else tells of it -/
def hp0 (Pt a : Addr) (B : Option HO) : Hp := fun b => if b = Pt then some (.tbl #[]) else if b = a then B else none
theorem hp0_tab {Pt a : Addr} {B : Option HO} : hp0 Pt a B Pt = some (.tbl #[]) := if_pos rfl
theorem hp0_arg {Pt a : Addr} {B : Option HO} (n : a ≠ Pt) : hp0 Pt a B a = B := (if_neg n).trans (if_pos rfl)
theorem hp0_else {Pt a b : Addr} {B : Option HO} (n : b ≠ Pt) (m : b ≠ a) : hp0 Pt a B b = none := (if_neg n).trans (if_neg m)
theorem hp0_some {Pt a b : Addr} {B : Option HO} {o : HO} (h : hp0 Pt a B b = some o) : (b = Pt ∧ o = .tbl #[]) ∨ (b ≠ Pt ∧ b = a ∧ B = some o) := by
  by_cases e : b = Pt
  · subst e
    rw [hp0_tab] at h
    exact .inl ⟨rfl, (Option.some.inj h).symm⟩
  · by_cases f : b = a
    · subst f
      rw [hp0_arg e] at h
      exact .inr ⟨e, rfl, h⟩
    · rw [hp0_else e f] at h
      cases h
/-- an object that is no sequence and no empty record stays where it is -/
theorem hp0_free {h : Heap} {Pt a b : Addr} {B : Option HO} {o oa : Obj} (tP : h.get? Pt = some { cls := .none, data := .fields #[] }) (ga : h.get? a = some oa) (e : h.get? b = some o) (n1 : o.data ≠ .fields #[]) (n2 : o ≠ oa) : hp0 Pt a B b = none := by
  refine hp0_else (fun q => ?_) (fun q => ?_)
  · subst q
    rw [tP] at e
    exact n1 (by rw [← Option.some.inj e])
  · subst q
    rw [ga] at e
    exact n2 (Option.some.inj e).symm
theorem law_runs {P : Program} {w : World} {K : PySem.W.Frag} {mg mb : Str → Option Value} {k : Nat} {fa a c Pt : Addr} {fd : FuncData} {x : Str} {sp : Sp} {s : Shared} {vs : List Value} {ns : List Int}
    (KX : K.In s.heap) (gM : s.heap.Ns mainGlobals mg) (gB : s.heap.Ns builtinsNs mb) (gBB : ∀ y : Str, y ≠ "__name__" → mb y = bootBuiltins y) (gL : s.heap.NoLimit) (gG : s.gens = #[])
    (tP : s.heap.get? Pt = some { cls := .none, data := .fields #[] }) (nP : K.lookup Pt = none) (cP : PySem.W.CodeHd s.heap c Pt)
    (bM : ∃ (bm : Addr) (ob : Obj), mg "__builtins__" = some (.ref bm) ∧ bm ≠ builtinsNs ∧ s.heap.get? bm = some ob ∧ ob.cls = .type "module" ∧ ob.dict = some builtinsNs ∧ ob.data = .plain)
    (ga : s.heap.get? a = some { cls := .type "list", data := .seq vs.toArray }) (hi : IntsAre vs ns) (hl : ns.length ≤ sizeLine) (hr : Room k callerA)
    (F : ∀ base : Heap, K.In base → base.Ns mainGlobals mg → TabB base mg c Pt → FnG P w K mg base CX0 k fa fd [x] sp) (bF : ∀ (s : Shared) (u : Value), BindsTo s fd ⟨[u], []⟩ [(x, u)])
    (hS : ∀ H : Hp, H Pt = some (.tbl #[]) → SqL K H a (ns.map V.int) → sp [.ref a] H (fun v _ => v = .bl true) fun _ _ _ => False) :
    codeAny (model P w) callerA (.call (.ref fa) ⟨[.ref a], []⟩) (fun r t => r = .ok (.ret (.bool true)) ∧ OldK s.heap t.heap ∧ t.os = s.os ∧ AllBare t.gens) s := by
  have aP : a ≠ Pt := fun q => by
    rw [q, tP] at ga
    cases ga
  obtain ⟨B, hB, hA⟩ : ∃ B : Option HO, (B = none ∨ (K.lookup a = none ∧ B = some (.frz { cls := .type "list", data := .seq vs.toArray } (.lst (ns.map V.int))))) ∧ SqL K (hp0 Pt a B) a (ns.map V.int) := by
    cases hk : K.lookup a with
    | some o =>
      have e := KX a o hk
      rw [ga] at e
      cases e
      exact ⟨none, .inl rfl, .inr ⟨_, vs.toArray, _, hk, rfl, rfl, rfl, by rw [List.size_toArray, hi.length]; exact hl, by simpa using vals_ints hi⟩⟩
    | none => exact ⟨_, .inr ⟨rfl, rfl⟩, .inl (.inr ⟨{ cls := .type "list", data := .seq vs.toArray }, hp0_arg aP⟩)⟩
  let H : Hp := hp0 Pt a B
  have hH : H Pt = some (.tbl #[]) := hp0_tab
  have ok0 : HOk P w H s.heap := fun b u z => by
    rcases hp0_some z with ⟨rfl, rfl⟩ | ⟨n, rfl, e⟩
    · exact tP
    · rcases hB with q | ⟨_, q⟩
      · rw [q] at e
        cases e
      · rw [q] at e
        cases e
        exact ⟨ga, by rw [List.length_map]; exact hl, vs, _, vals_ints hi, ga⟩
  have stay : ∀ {b : Addr} {o : Obj}, s.heap.get? b = some o → H b = none → (hidT s.heap H).get? b = some o := fun e n => hidT_get e n
  have stayD : ∀ {b : Addr} {m : Str → Option Value}, s.heap.Ns b m → (hidT s.heap H).Ns b m := fun {b m} ⟨o, es, ep, e, d, r⟩ =>
    ⟨o, es, ep, stay e (hp0_free tP ga e (fun z => by rw [d] at z; cases z) (fun z => by rw [z] at d; cases d)), d, r⟩
  have KB : K.In (hidT s.heap H) := fun b o e => stay (KX b o e) (by
    cases q : H b with
    | none => rfl
    | some u =>
      rcases hp0_some q with ⟨rfl, _⟩ | ⟨_, rfl, e2⟩
      · rw [nP] at e
        cases e
      · rcases hB with z | ⟨z, _⟩
        · rw [z] at e2
          cases e2
        · rw [z] at e
          cases e)
  have MB : L2.Mod K mg (hidT s.heap H) := ⟨KB, stayD gM, ⟨mb, stayD gB, gBB⟩, let ⟨mc, h1, h2⟩ := gL; ⟨mc, stayD h1, h2⟩⟩
  have TB : TabB (hidT s.heap H) mg c Pt := by
    refine ⟨?_, ?_, fun z => ?_⟩
    · obtain ⟨o, us, file, tf, flags, tg, inF, text, tt, e1, r1, r2, rest⟩ := cP
      refine ⟨o, us, file, tf, flags, tg, inF, text, tt, stay e1 (hp0_free tP ga e1 (fun z => ?_) (fun z => ?_)), r1, r2, rest⟩
      · rw [r2] at z
        cases z
        simp at rest
      · rw [z] at r2
        cases r2
    · obtain ⟨bm, ob, b1, b2, b3, b4, b5, b6⟩ := bM
      refine ⟨bm, ob, b1, b2, fun q => ?_, fun q => ?_, stay b3 (hp0_free tP ga b3 (fun z => ?_) (fun z => ?_)), b4, b5, b6⟩
      · obtain ⟨o, es, ep, e, hd, _⟩ := gM
        rw [q, e] at b3
        cases b3
        rw [hd] at b6
        cases b6
      · rw [q, tP] at b3
        cases b3
        cases b6
      · rw [b6] at z
        cases z
      · rw [z] at b6
        cases b6
    · obtain ⟨o, es, ep, e, hd, _⟩ := gM
      rw [z, tP] at e
      cases e
      cases hd
  have E0 : Env0 P w K mg (hidT s.heap H) callerA [] s H := ⟨rfl, MB, fun b o e => of_hidT e, Nat.le_of_eq (hidT_size _ _), trivial, fun b hb => absurd (show b ∈ ([] : List Addr) from hb) (by simp), ok0, .of_eq gG⟩
  refine codeAny_mono ((F _ KB (stayD gM) TB).run callerA [] s H ⟨[.ref a], []⟩ [.ref a] [.ref a] _ _ rfl hr E0 (bF s (.ref a)) (.cons rfl .nil) (hS H hH hA)) fun r t h => ?_
  cases r with
  | error e => exact (show False from h).elim
  | ok fl =>
    cases fl with
    | next => exact (show False from h).elim
    | brk => exact (show False from h).elim
    | cont => exact (show False from h).elim
    | ret u =>
      obtain ⟨v, H', os, bare, un, ok1, rv, q⟩ := h
      obtain rfl : v = .bl true := q
      obtain rfl : u = Value.bool true := rv
      have grown : ∃ more : Array Value, t.heap.get? Pt = some { cls := .none, data := .fields more } := by
        obtain ⟨more, z⟩ := un.tbls Pt #[] hH
        exact ⟨_, ok1 Pt _ z⟩
      have same : ∀ b o, b ≠ Pt → s.heap.get? b = some o → t.heap.get? b = some o := fun b o nb e => by
        cases z : H b with
        | none => exact un.keep b o e z (fun y => absurd (show b ∈ ([] : List Addr) from y) (by simp)) (by simp)
        | some y =>
          rcases hp0_some z with ⟨e2, _⟩ | ⟨_, rfl, e2⟩
          · exact absurd e2 nb
          · rcases hB with e3 | ⟨_, e3⟩
            · rw [e3] at e2
              cases e2
            · rw [e3] at e2
              cases e2
              obtain ⟨g1, _⟩ := ok1 b _ (un.frzs b _ _ z)
              rw [ga] at e
              cases e
              exact g1
      obtain ⟨more, gT⟩ := grown
      refine ⟨rfl, ⟨fun b o e => ?_, fun b o e => ?_⟩, os, bare⟩
      · by_cases nb : b = Pt
        · subst nb
          rw [tP] at e
          cases e
          exact .inr (.inl ⟨(cP.tab tP).isCodeTable, rfl, #[], more, rfl, by rw [Array.empty_append]; exact gT⟩)
        · exact .inl (same b o nb e)
      · by_cases nb : b = Pt
        · subst nb
          exact ⟨_, gT⟩
        · exact ⟨o, same b o nb e⟩
/-- what is asked of the law at the head's heap -/
def LawIs (l : PySem.W.OpenLaw) (w : World) (K : PySem.W.Frag) (k n : Nat) (x : Str) (mg : Str → Option Value) (fa : Addr) (c Pt : Addr) : Prop :=
  ∃ (fd : FuncData) (sp : Sp), K.lookup Pt = none ∧ (∀ (s : Shared) (u : Value), BindsTo s fd ⟨[u], []⟩ [(x, u)]) ∧
    (∀ (H : Hp) (a : Addr) (ns : List Int), H Pt = some (.tbl #[]) → SqL K H a (ns.map V.int) → sp [.ref a] H (fun v _ => v = .bl true) fun _ _ _ => False) ∧
    ∀ base : Heap, K.In base → base.Ns mainGlobals mg → TabB base mg c Pt → FnG l.prog w K mg base CX0 k fa fd [x] sp
theorem walk_tab {l : PySem.W.OpenLaw} {n k : Nat} {q : Program} {loose : List Str} {XP : (Str → Option Value) → Heap → Prop} {YP : World → Heap → Prop} {d dt : DefRec} {K : Params → PySem.W.Frag} {x xt : Str}
    (hn : l.most = some n) (hn2 : n ≤ sizeLine) (hdf : d.params.defaults = []) (hr : Room k callerA) (hY : ∀ (w : World) (h : Heap), YP w h → (K w.params).In h) (hrec : (recsOf q).find? (fun e => e.name == xt) = some dt)
    (F : ∀ (w : World) (mg : Str → Option Value) (fa : Addr) (h : Heap), (K w.params).In h → h.Ns mainGlobals mg → mg d.name = some (.ref fa) → ∃ c Pt, PySem.W.tabIn (K w.params) xt = some (c, Pt) ∧ LawIs l w (K w.params) k n x mg fa c Pt) :
    PySem.W.WalkO q loose XP YP l.row.toRowW d [] (fun f vs => PySem.call f vs) := by
  refine Att.attach_callB hn hdf fun w s₀ s₁ mg mb fa o pm cd doc a vs ns G Y ho hd hcd hmg hobj hints hlen hbits hg => ?_
  have KX := hY w _ Y
  obtain ⟨c, Pt, ht, fd, sp, nP, bF, hS, hF⟩ := F w mg fa _ KX G.T.g hmg
  obtain ⟨cP, tP⟩ := PySem.W.tab_of G.T KX hrec ht
  exact law_runs KX G.T.g G.T.b G.T.builtins G.T.nolimit hg tP nP cP G.T.bmain hobj hints (Nat.le_trans hlen hn2) hr hF bF (fun H hH h => hS H a ns hH h)
end K0
namespace K0
open PySem PySem.Spec PyProof.Rows L2 LamX
/-! ### the facts of the written part -/
structure Has (K : PySem.W.Frag) (x : Str) (st : Stmt) (f : Addr) : Prop where
  at' : PySem.W.nsIn K mainGlobals x = some (some (.ref f))
  kp : PySem.W.keepIn K (.ref f) = true
  look : ∃ (oc : Value) (od : Option Addr) (kV doc pm : Value) (an : Option Addr) (cdv ct : Value) (osl : Array (Option Value)),
    K.lookup f = some ⟨oc, od, .func (PySem.W.fnOf x x (defArgs st) (defBody st) (defScope st) .none kV doc pm an cdv ct), osl⟩ ∧ PySem.W.codeIn K cdv x = true
theorem has_of {K : PySem.W.Frag} {x : Str} {st : Stmt} {f : Addr} {oc kV doc pm cdv ct : Value} {od an : Option Addr} {osl : Array (Option Value)} (a : PySem.W.nsIn K mainGlobals x = some (some (.ref f)))
    (l : K.lookup f = some ⟨oc, od, .func (PySem.W.fnOf x x (defArgs st) (defBody st) (defScope st) .none kV doc pm an cdv ct), osl⟩) (c : PySem.W.codeIn K cdv x = true) (k : PySem.W.keepIn K (.ref f) = true) : Has K x st f :=
  ⟨a, k, oc, od, kV, doc, pm, an, cdv, ct, osl, l, c⟩
theorem Has.fn {K : PySem.W.Frag} {x : Str} {st : Stmt} {f : Addr} (F : Has K x st f) : ∃ fd, Fun K x x st f fd := by
  obtain ⟨oc, od, kV, doc, pm, an, cdv, ct, osl, l, c⟩ := F.look
  exact ⟨_, fun_mk (st := st) l c F.kp⟩
/-- what an except clause over the class at S says of the class at C -/
theorem exm_by {K : PySem.W.Frag} {C S : Addr} {b : Bool} (h1 : PySem.W.subIn K (.ref S) (.type "BaseException") = some true) (h2 : PySem.W.isClsIn K S = true) (h3 : PySem.W.typeIn K (.ref S) = some (.type "type")) (h4 : PySem.W.subIn K (.ref C) (.ref S) = some b) :
    PySem.W.exmOne K (.ref C) (.ref S) = some b := by
  have e1 : (PySem.W.subIn K (.ref S) (.type "BaseException") == some true) = true := by rw [h1] <;> rfl
  have e2 : ((PySem.W.clsIn K S).isSome && PySem.W.typeIn K (.ref S) == some (.type "type")) = true := by
    have h5 : (PySem.W.clsIn K S).isSome = true := h2
    rw [h5, h3] <;> rfl
  unfold PySem.W.exmOne
  rw [if_pos e1]
  exact (if_pos e2).trans h4
/-- a class of errors: of its own, over BaseException -/
structure Cl (K : PySem.W.Frag) (x : Str) (C : Addr) : Prop where
  at' : PySem.W.nsIn K mainGlobals x = some (some (.ref C))
  kp : PySem.W.keepIn K (.ref C) = true
  ex : PySem.W.subIn K (.ref C) (.type "BaseException") = some true
  ty : PySem.W.typeIn K (.ref C) = some (.type "type")
  is : PySem.W.isClsIn K C = true
theorem cl_of {K : PySem.W.Frag} {x : Str} {C : Addr} (a : PySem.W.nsIn K mainGlobals x = some (some (.ref C))) (k : PySem.W.keepIn K (.ref C) = true) (e : PySem.W.subIn K (.ref C) (.type "BaseException") = some true)
    (t : PySem.W.typeIn K (.ref C) = some (.type "type")) (i : PySem.W.isClsIn K C = true) : Cl K x C := ⟨a, k, e, t, i⟩
structure NumFacts (K : PySem.W.Frag) (C i0 : Addr) : Prop where
  made : PySem.W.excInitIn K C K0X.ieB "IndexError.__new__" = true
  over : PySem.W.excOver K C K0X.ieB = true
  dict : PySem.W.hasDictIn K C = true
  stores : PySem.W.findIn K (.ref C) "__setattr__" = some (some (.builtin "object.__setattr__"))
  reads : PySem.W.findIn K (.ref C) "__getattribute__" = some (some (.builtin "BaseException.__getattribute__"))
  reads2 : PySem.W.findIn K (.ref C) "__getattr__" = some none
  noGiven : PySem.W.findIn K (.ref C) "given" = some none
  inits : PySem.W.findIn K (.ref C) "__init__" = some (some (.ref i0))
  isdef : PySem.W.typeIn K (.ref i0) = some (.type "function")
  text : ∃ (oc : Value) (od : Option Addr) (doc pm : Value) (an : Option Addr) (cdv ct : Value) (osl : Array (Option Value)) (r1 r2 r3 r4 r5 r6 : Pos),
    K.lookup i0 = some ⟨oc, od, .func (PySem.W.fnOf "__init__" "InvalidNumber.__init__" (K0X.nuA r1 r2) (K0X.nuB r3 r4 r5 r6) K0X.nuS .none .none doc pm an cdv ct), osl⟩ ∧ PySem.W.codeIn K cdv "InvalidNumber.__init__" = true
theorem num_of {K : PySem.W.Frag} {C i0 : Addr} {oc doc pm cdv ct : Value} {od an : Option Addr} {osl : Array (Option Value)} (j : PySem.W.findIn K (.ref C) "__init__" = some (some (.ref i0)))
    (l : K.lookup i0 = some ⟨oc, od, .func (PySem.W.fnOf "__init__" "InvalidNumber.__init__" (K0X.nuA ⟨51, 17, 51, 21⟩ ⟨51, 23, 51, 28⟩) (K0X.nuB ⟨52, 8, 52, 12⟩ ⟨52, 8, 52, 18⟩ ⟨52, 21, 52, 26⟩ ⟨52, 8, 52, 26⟩) K0X.nuS .none .none doc pm an cdv ct), osl⟩)
    (u : PySem.W.codeIn K cdv "InvalidNumber.__init__" = true) (m : PySem.W.excInitIn K C K0X.ieB "IndexError.__new__" = true) (v : PySem.W.excOver K C K0X.ieB = true) (d : PySem.W.hasDictIn K C = true)
    (s : PySem.W.findIn K (.ref C) "__setattr__" = some (some (.builtin "object.__setattr__"))) (g : PySem.W.findIn K (.ref C) "__getattribute__" = some (some (.builtin "BaseException.__getattribute__")))
    (n : PySem.W.findIn K (.ref C) "__getattr__" = some none) (e : PySem.W.findIn K (.ref C) "given" = some none) (t : PySem.W.typeIn K (.ref i0) = some (.type "function")) : NumFacts K C i0 :=
  ⟨m, v, d, s, g, n, e, j, t, oc, od, doc, pm, an, cdv, ct, osl, _, _, _, _, _, _, l, u⟩
theorem all_mk {l : PySem.W.OpenLaw} {w : World} {K : PySem.W.Frag} {h : Heap} {mg : Str → Option Value} {fa CR CO CN i0 : Addr} (X : K.In h) (G : h.Ns mainGlobals mg) (hfa : mg "law" = some (.ref fa))
    {fWh fQu fRe fAd fMu fWT fQT fII fIR fLo fPl fMi fTi fOv fCo fRT fCh fDi fRo fPi fNe fGc fLL fLP fLT fDr fTT fTw fFa fRi fLw c Pt : Addr} {ocR kVR docR pmR ctR ocL kVL docL pmL cdL ctL ocF kVF docF pmF cdF ctF : Value} {anR odR anL odL anF odF : Option Addr} {slR slL slF : Array (Option Value)}
    (aR : Cl K "InvalidRatio" CR) (mR : PySem.W.excIn K CR PySem.HandSPX.veTail "ValueError.__new__" = true) (aO : Cl K "InvalidOperation" CO) (mO : PySem.W.excIn K CO PySem.HandSPX.veTail "ValueError.__new__" = true)
    (aN : Cl K "InvalidNumber" CN) (nF : NumFacts K CN i0)
    (rr : PySem.W.subIn K (.ref CR) (.ref CR) = some true) (or : PySem.W.subIn K (.ref CO) (.ref CR) = some false) (oo : PySem.W.subIn K (.ref CO) (.ref CO) = some true)
    (nr : PySem.W.subIn K (.ref CN) (.ref CR) = some false) (no : PySem.W.subIn K (.ref CN) (.ref CO) = some false) (nn : PySem.W.subIn K (.ref CN) (.ref CN) = some true)
    (z_int : PySem.W.nsIn K mainGlobals "int" = some none)
    (z_bool : PySem.W.nsIn K mainGlobals "bool" = some none)
    (z_tuple : PySem.W.nsIn K mainGlobals "tuple" = some none)
    (z_str : PySem.W.nsIn K mainGlobals "str" = some none)
    (z_isinstance : PySem.W.nsIn K mainGlobals "isinstance" = some none)
    (z_len : PySem.W.nsIn K mainGlobals "len" = some none)
    (z_abs : PySem.W.nsIn K mainGlobals "abs" = some none)
    (z_max : PySem.W.nsIn K mainGlobals "max" = some none)
    (z_min : PySem.W.nsIn K mainGlobals "min" = some none)
    (z_range : PySem.W.nsIn K mainGlobals "range" = some none)
    (z_repr : PySem.W.nsIn K mainGlobals "repr" = some none)
    (z_gcd : PySem.W.nsIn K mainGlobals "gcd" = some (some (.builtin "math.gcd"))) (z_block : ∃ t, mg "_BLOCK" = some (.int (10 ^ 64) t)) (z_limit : ∃ t, mg "_LIMIT" = some (.int (10 ^ 60) t))
    (hWh : Has K "is_whole" sIsWhole fWh)
    (hQu : Has K "is_quotient" sQuot fQu)
    (hRe : Has K "reduced" sReduced fRe)
    (hAd : Has K "added" sAdded fAd)
    (hMu : Has K "multiplied" sMult fMu)
    (hWT : Has K "whole_text" sWText fWT)
    (hQT : Has K "quotient_text" sQText fQT)
    (hII : Has K "is_integer" sIsInt fII)
    (hIR : Has K "is_ratio" sIsRatio fIR)
    (hLo : Has K "lowest" sLowest fLo)
    (hPl : Has K "plus" sPlus fPl)
    (hMi : Has K "minus" sMinus fMi)
    (hTi : Has K "times" sTimes fTi)
    (hOv : Has K "over" sOver fOv)
    (hCo : Has K "compare" sCompare fCo)
    (hRT : Has K "ratio_text" sRText fRT)
    (hCh : Has K "_check_ratios" sCheck fCh)
    (hDi : Has K "_law_dice" sDice fDi)
    (hRo : Has K "_law_roll" sRoll fRo)
    (hPi : Has K "_law_pick" sPick fPi)
    (hNe : Has K "_law_near" sNear fNe)
    (hGc : Has K "_law_gcd" sGcd fGc)
    (hLL : Has K "_law_lowest" sLLow fLL)
    (hLP : Has K "_law_plus" sLPlus fLP)
    (hLT : Has K "_law_times" sLTimes fLT)
    (hDr : Has K "_law_ratio_drawn" sDrawn fDr)
    (hTT : Has K "_law_text_told" sTTold fTT)
    (hTw : Has K "_law_two_right" sTwo fTw)
    (aF : PySem.W.nsIn K mainGlobals "_law_fault" = some (some (.ref fFa))) (lF : K.lookup fFa = some ⟨ocF, odF, .func (PySem.W.fnOf "_law_fault" "_law_fault" (defArgs sFault) (defBody sFault) (defScope sFault) .none kVF docF pmF anF cdF ctF), slF⟩) (cF : PySem.W.codeIn K cdF "_law_fault" = true) (kF : PySem.W.keepIn K (.ref fFa) = true)
    (aI : PySem.W.nsIn K mainGlobals "_law_right" = some (some (.ref fRi))) (lI : K.lookup fRi = some ⟨ocR, odR, .func (PySem.W.fnOf "_law_right" "_law_right" (defArgs sRight) (defBody sRight) (defScope sRight) .none kVR docR pmR anR (.ref c) ctR), slR⟩) (cI : PySem.W.codeIn K (.ref c) "_law_right" = true) (kI : PySem.W.keepIn K (.ref fRi) = true)
    (tI : PySem.W.tabIn K "_law_right" = some (c, Pt)) (oI : K.lookup Pt = none)
    (aL : PySem.W.nsIn K mainGlobals "law" = some (some (.ref fLw))) (lL : K.lookup fLw = some ⟨ocL, odL, .func (PySem.W.fnOf "law" "law" (defArgs sLaw) (defBody sLaw) (defScope sLaw) .none kVL docL pmL anL cdL ctL), slL⟩) (cL : PySem.W.codeIn K cdL "law" = true) :
    ∃ c Pt, PySem.W.tabIn K "_law_right" = some (c, Pt) ∧ LawIs l w K 9 63 "script" mg fa c Pt := by
  have e := hfa.symm.trans (PySem.W.mg_of X G aL)
  cases e
  have NT : K0X.NumTxt K mg CN i0 := ⟨PySem.W.mg_of X G aN.at', nF.made, nF.over, nF.dict, nF.stores, nF.reads, nF.reads2, nF.noGiven, nF.inits, nF.isdef, aN.kp, aN.ex, aN.ty, exm_by aN.ex aN.is aN.ty nn, nF.text⟩
  have ER : ErrTxt K mg "InvalidRatio" CR := ⟨PySem.W.mg_of X G aR.at', mR, aR.kp, aR.ex, aR.ty⟩
  have EO : ErrTxt K mg "InvalidOperation" CO := ⟨PySem.W.mg_of X G aO.at', mO, aO.kp, aO.ex, aO.ty⟩
  have CS : Clss K mg CR CO CN := ⟨PySem.W.mg_of X G aR.at', PySem.W.mg_of X G aO.at', PySem.W.mg_of X G aN.at', exm_by aR.ex aR.is aR.ty rr, exm_by aR.ex aR.is aR.ty or, exm_by aO.ex aO.is aO.ty oo, exm_by aR.ex aR.is aR.ty nr, exm_by aO.ex aO.is aO.ty no, exm_by aN.ex aN.is aN.ty nn⟩
  have T : Txt K mg := ⟨PySem.W.mg_none_of X G z_int, PySem.W.mg_none_of X G z_bool, PySem.W.mg_none_of X G z_tuple, PySem.W.mg_none_of X G z_str, PySem.W.mg_none_of X G z_isinstance, PySem.W.mg_none_of X G z_len, PySem.W.mg_none_of X G z_abs, PySem.W.mg_none_of X G z_max, PySem.W.mg_none_of X G z_min, PySem.W.mg_none_of X G z_range, PySem.W.mg_none_of X G z_repr, PySem.W.mg_of X G z_gcd, z_block, z_limit⟩
  obtain ⟨dWh, FWh⟩ := hWh.fn
  have gWh := PySem.W.mg_of X G hWh.at'
  have kWh := hWh.kp
  have bWh := FWh.binds (ps := ["value"]) fun _ _ _ _ _ _ us hl => match us, hl with | [_], _ => rfl
  obtain ⟨dQu, FQu⟩ := hQu.fn
  have gQu := PySem.W.mg_of X G hQu.at'
  have kQu := hQu.kp
  have bQu := FQu.binds (ps := ["value"]) fun _ _ _ _ _ _ us hl => match us, hl with | [_], _ => rfl
  obtain ⟨dRe, FRe⟩ := hRe.fn
  have gRe := PySem.W.mg_of X G hRe.at'
  have kRe := hRe.kp
  have bRe := FRe.binds (ps := ["top", "bottom"]) fun _ _ _ _ _ _ us hl => match us, hl with | [_, _], _ => rfl
  obtain ⟨dAd, FAd⟩ := hAd.fn
  have gAd := PySem.W.mg_of X G hAd.at'
  have kAd := hAd.kp
  have bAd := FAd.binds (ps := ["one", "other"]) fun _ _ _ _ _ _ us hl => match us, hl with | [_, _], _ => rfl
  obtain ⟨dMu, FMu⟩ := hMu.fn
  have gMu := PySem.W.mg_of X G hMu.at'
  have kMu := hMu.kp
  have bMu := FMu.binds (ps := ["one", "other"]) fun _ _ _ _ _ _ us hl => match us, hl with | [_, _], _ => rfl
  obtain ⟨dWT, FWT⟩ := hWT.fn
  have gWT := PySem.W.mg_of X G hWT.at'
  have kWT := hWT.kp
  have bWT := FWT.binds (ps := ["number"]) fun _ _ _ _ _ _ us hl => match us, hl with | [_], _ => rfl
  obtain ⟨dQT, FQT⟩ := hQT.fn
  have gQT := PySem.W.mg_of X G hQT.at'
  have kQT := hQT.kp
  have bQT := FQT.binds (ps := ["ratio"]) fun _ _ _ _ _ _ us hl => match us, hl with | [_], _ => rfl
  obtain ⟨dII, FII⟩ := hII.fn
  have gII := PySem.W.mg_of X G hII.at'
  have kII := hII.kp
  have bII := FII.binds (ps := ["value"]) fun _ _ _ _ _ _ us hl => match us, hl with | [_], _ => rfl
  obtain ⟨dIR, FIR⟩ := hIR.fn
  have gIR := PySem.W.mg_of X G hIR.at'
  have kIR := hIR.kp
  have bIR := FIR.binds (ps := ["value"]) fun _ _ _ _ _ _ us hl => match us, hl with | [_], _ => rfl
  obtain ⟨dLo, FLo⟩ := hLo.fn
  have gLo := PySem.W.mg_of X G hLo.at'
  have kLo := hLo.kp
  have bLo := FLo.binds (ps := ["top", "bottom"]) fun _ _ _ _ _ _ us hl => match us, hl with | [_, _], _ => rfl
  obtain ⟨dPl, FPl⟩ := hPl.fn
  have gPl := PySem.W.mg_of X G hPl.at'
  have kPl := hPl.kp
  have bPl := FPl.binds (ps := ["one", "other"]) fun _ _ _ _ _ _ us hl => match us, hl with | [_, _], _ => rfl
  obtain ⟨dMi, FMi⟩ := hMi.fn
  have gMi := PySem.W.mg_of X G hMi.at'
  have kMi := hMi.kp
  have bMi := FMi.binds (ps := ["one", "other"]) fun _ _ _ _ _ _ us hl => match us, hl with | [_, _], _ => rfl
  obtain ⟨dTi, FTi⟩ := hTi.fn
  have gTi := PySem.W.mg_of X G hTi.at'
  have kTi := hTi.kp
  have bTi := FTi.binds (ps := ["one", "other"]) fun _ _ _ _ _ _ us hl => match us, hl with | [_, _], _ => rfl
  obtain ⟨dOv, FOv⟩ := hOv.fn
  have gOv := PySem.W.mg_of X G hOv.at'
  have kOv := hOv.kp
  have bOv := FOv.binds (ps := ["one", "other"]) fun _ _ _ _ _ _ us hl => match us, hl with | [_, _], _ => rfl
  obtain ⟨dCo, FCo⟩ := hCo.fn
  have gCo := PySem.W.mg_of X G hCo.at'
  have kCo := hCo.kp
  have bCo := FCo.binds (ps := ["one", "other"]) fun _ _ _ _ _ _ us hl => match us, hl with | [_, _], _ => rfl
  obtain ⟨dRT, FRT⟩ := hRT.fn
  have gRT := PySem.W.mg_of X G hRT.at'
  have kRT := hRT.kp
  have bRT := FRT.binds (ps := ["ratio"]) fun _ _ _ _ _ _ us hl => match us, hl with | [_], _ => rfl
  obtain ⟨dCh, FCh⟩ := hCh.fn
  have gCh := PySem.W.mg_of X G hCh.at'
  have kCh := hCh.kp
  have bCh := FCh.binds (ps := ["one", "other"]) fun _ _ _ _ _ _ us hl => match us, hl with | [_, _], _ => rfl
  obtain ⟨dDi, FDi⟩ := hDi.fn
  have gDi := PySem.W.mg_of X G hDi.at'
  have kDi := hDi.kp
  have bDi := FDi.binds (ps := ["script", "spot"]) fun _ _ _ _ _ _ us hl => match us, hl with | [_, _], _ => rfl
  obtain ⟨dRo, FRo⟩ := hRo.fn
  have gRo := PySem.W.mg_of X G hRo.at'
  have kRo := hRo.kp
  have bRo := FRo.binds (ps := ["dice", "total"]) fun _ _ _ _ _ _ us hl => match us, hl with | [_, _], _ => rfl
  obtain ⟨dPi, FPi⟩ := hPi.fn
  have gPi := PySem.W.mg_of X G hPi.at'
  have kPi := hPi.kp
  have bPi := FPi.binds (ps := ["dice", "items"]) fun _ _ _ _ _ _ us hl => match us, hl with | [_, _], _ => rfl
  obtain ⟨dNe, FNe⟩ := hNe.fn
  have gNe := PySem.W.mg_of X G hNe.at'
  have kNe := hNe.kp
  have bNe := FNe.binds (ps := ["dice", "most"]) fun _ _ _ _ _ _ us hl => match us, hl with | [_, _], _ => rfl
  obtain ⟨dGc, FGc⟩ := hGc.fn
  have gGc := PySem.W.mg_of X G hGc.at'
  have kGc := hGc.kp
  have bGc := FGc.binds (ps := ["one", "other"]) fun _ _ _ _ _ _ us hl => match us, hl with | [_, _], _ => rfl
  obtain ⟨dLL, FLL⟩ := hLL.fn
  have gLL := PySem.W.mg_of X G hLL.at'
  have kLL := hLL.kp
  have bLL := FLL.binds (ps := ["top", "bottom"]) fun _ _ _ _ _ _ us hl => match us, hl with | [_, _], _ => rfl
  obtain ⟨dLP, FLP⟩ := hLP.fn
  have gLP := PySem.W.mg_of X G hLP.at'
  have kLP := hLP.kp
  have bLP := FLP.binds (ps := ["one", "other"]) fun _ _ _ _ _ _ us hl => match us, hl with | [_, _], _ => rfl
  obtain ⟨dLT, FLT⟩ := hLT.fn
  have gLT := PySem.W.mg_of X G hLT.at'
  have kLT := hLT.kp
  have bLT := FLT.binds (ps := ["one", "other"]) fun _ _ _ _ _ _ us hl => match us, hl with | [_, _], _ => rfl
  obtain ⟨dDr, FDr⟩ := hDr.fn
  have gDr := PySem.W.mg_of X G hDr.at'
  have kDr := hDr.kp
  have bDr := FDr.binds (ps := ["dice"]) fun _ _ _ _ _ _ us hl => match us, hl with | [_], _ => rfl
  obtain ⟨dTT, FTT⟩ := hTT.fn
  have gTT := PySem.W.mg_of X G hTT.at'
  have kTT := hTT.kp
  have bTT := FTT.binds (ps := ["ratio"]) fun _ _ _ _ _ _ us hl => match us, hl with | [_], _ => rfl
  obtain ⟨dTw, FTw⟩ := hTw.fn
  have gTw := PySem.W.mg_of X G hTw.at'
  have kTw := hTw.kp
  have bTw := FTw.binds (ps := ["one", "other"]) fun _ _ _ _ _ _ us hl => match us, hl with | [_, _], _ => rfl
  refine ⟨c, Pt, tI, PySem.W.fnOf "law" "law" (defArgs sLaw) (defBody sLaw) (defScope sLaw) .none kVL docL pmL anL cdL ctL, spLaw K Pt, oI, fun s u => .of_eq rfl, fun H a ns hH hS => ⟨a, ns, rfl, hS, TabS.nil hH, fun _ => rfl⟩, fun base _ _ TB => ?_⟩
  let R1 : Program := l.prog
  have kRo' := ok_roll (P := l.prog) (w := w) (base := base) FRo T
  have kDi' := ok_dice (P := l.prog) (w := w) (base := base) FDi T
  have kPi' := ok_pick FPi T gRo kRo bRo kRo'
  have kNe' := ok_near FNe T gRo kRo bRo kRo'
  have kGc' := ok_gcd (P := l.prog) (w := w) (base := base) FGc T
  have kLL' := ok_llow FLL gGc kGc bGc kGc'
  have kLP' := ok_lplus FLP gLL kLL bLL kLL'
  have kLT' := ok_ltimes FLT gLL kLL bLL kLL'
  have kDr' := ok_drawn FDr gPi kPi bPi kPi' gLL kLL bLL kLL' gNe kNe bNe kNe' gRo kRo bRo kRo'
  have kTT' := ok_ttold (P := l.prog) (w := w) (base := base) FTT T
  have kWT' := ok_wtext (P := l.prog) (w := w) (base := base) FWT T
  have kQT' := ok_qtext FQT T gWT kWT bWT kWT'
  have kWh' := ok_iswhole (P := l.prog) (w := w) (base := base) FWh T
  have kII' := ok_isint FII T gWh kWh bWh kWh'
  have kQu' := ok_quot FQu T gWh kWh bWh kWh'
  have kIR' := ok_isratio FIR gQu kQu bQu kQu' gII kII bII kII'
  have kRe' := ok_reduced (P := l.prog) (w := w) (base := base) FRe T
  have kAd' := ok_added FAd gRe kRe bRe kRe'
  have kMu' := ok_mult FMu gRe kRe bRe kRe'
  have kCh' := ok_check FCh ER gIR kIR bIR kIR'
  have kPl' := ok_plus FPl gCh kCh bCh kCh' gAd kAd bAd kAd'
  have kMi' := ok_minus FMi gCh kCh bCh kCh' gAd kAd bAd kAd'
  have kTi' := ok_times FTi gCh kCh bCh kCh' gMu kMu bMu kMu'
  have kOv' := ok_over FOv EO gCh kCh bCh kCh' gRe kRe bRe kRe'
  have kCo' := ok_compare FCo gCh kCh bCh kCh'
  have kRT' := ok_rtext FRT ER gIR kIR bIR kIR' gQT kQT bQT kQT'
  have kLo' := ok_lowest FLo NT gII kII bII kII' gRe kRe bRe kRe'
  have kTw' := ok_two FTw T gLP kLP bLP kLP' gLT kLT bLT kLT' gLL kLL bLL kLL' gTT kTT bTT kTT' gPl kPl bPl kPl' gMi kMi bMi kMi' gTi kTi bTi kTi' gOv kOv bOv kOv' gCo kCo bCo kCo' gRT kRT bRT kRT' gIR kIR bIR kIR'
  have D : Defs l.prog w K mg base CR CO CN i0 :=
    { txt := T, num := NT, cls := CS, drawn := ⟨_, _, gDr, kDr, bDr, kDr'⟩, near := ⟨_, _, gNe, kNe, bNe, kNe'⟩, roll := ⟨_, _, gRo, kRo, bRo, kRo'⟩, pick := ⟨_, _, gPi, kPi, bPi, kPi'⟩, llow := ⟨_, _, gLL, kLL, bLL, kLL'⟩,
      two := ⟨_, _, gTw, kTw, bTw, kTw'⟩, isr := ⟨_, _, gIR, kIR, bIR, kIR'⟩, isi := ⟨_, _, gII, kII, bII, kII'⟩, lowest := ⟨_, _, gLo, kLo, bLo, kLo'⟩, rtext := ⟨_, _, gRT, kRT, bRT, kRT'⟩, plus := ⟨_, _, gPl, kPl, bPl, kPl'⟩,
      minus := ⟨_, _, gMi, kMi, bMi, kMi'⟩, times := ⟨_, _, gTi, kTi, bTi, kTi'⟩, over := ⟨_, _, gOv, kOv, bOv, kOv'⟩, compare := ⟨_, _, gCo, kCo, bCo, kCo'⟩,
      fault := ⟨_, _, _, _, _, _, _, _, _, _, PySem.W.mg_of X G aF, kF, lF, cF⟩ }
  have bI : L2.Binds K (PySem.W.fnOf "_law_right" "_law_right" (defArgs sRight) (defBody sRight) (defScope sRight) .none kVR docR pmR anR (.ref c) ctR) ["dice"] [] := .all fun us hl => match us, hl with | [_], _ => rfl
  exact ok_law lL cL D (PySem.W.mg_of X G aI) kI bI (ok_right lI cI TB D) gDi kDi bDi kDi'
end K0
open PySem PySem.W PyProof.Rows
set_option maxRecDepth 100000 in
set_option maxHeartbeats 0 in
theorem PySem.Challenge.cw_stepletters_k00_whole_ratios_holds : PySem.Challenge.rw_stepletters_k00_whole_ratios.Holds := by
  w_on; o_law; k_head; (case hw => w_witness2)
  k_fill
  refine K0.walk_tab (l := PySem.Challenge.rw_stepletters_k00_whole_ratios) (n := 63) (k := 9) (x := "script") (xt := "_law_right") rfl (by decide) rfl ⟨rfl, by decide, by decide⟩ (fun w h Y => PySem.W.km_in_of Y) (by rfl) ?F
  case F =>
    intro w mg fa h KX G hmg
    refine' K0.all_mk (Pt := 304) KX G hmg ?aR ?mR ?aO ?mO ?aN ?nF ?rr ?or ?oo ?nr ?no ?nn ?z_int ?z_bool ?z_tuple ?z_str ?z_isinstance ?z_len ?z_abs ?z_max ?z_min ?z_range ?z_repr ?z_gcd ?z_block ?z_limit ?hWh ?hQu ?hRe ?hAd ?hMu ?hWT ?hQT ?hII ?hIR ?hLo ?hPl ?hMi ?hTi ?hOv ?hCo ?hRT ?hCh ?hDi ?hRo ?hPi ?hNe ?hGc ?hLL ?hLP ?hLT ?hDr ?hTT ?hTw ?aF ?lF ?cF ?kF ?aI ?lI ?cI ?kI ?tI ?oI ?aL ?lL ?cL
    (case aR => refine' K0.cl_of ?a ?k ?e ?t ?i; (case a => k_is); (case k => k_is); (case e => k_is); (case t => k_is); (case i => k_is))
    (case aO => refine' K0.cl_of ?a ?k ?e ?t ?i; (case a => k_is); (case k => k_is); (case e => k_is); (case t => k_is); (case i => k_is))
    (case aN => refine' K0.cl_of ?a ?k ?e ?t ?i; (case a => k_is); (case k => k_is); (case e => k_is); (case t => k_is); (case i => k_is))
    (case nF => refine' K0.num_of ?j ?l ?u ?m ?v ?d ?s ?g ?n ?e ?t; (case j => k_is); (case l => k_is); (case u => k_is); (case m => kernel_rfl); (case v => kernel_rfl); (case d => k_is); (case s => k_is); (case g => k_is); (case n => k_is); (case e => k_is); (case t => k_is))
    (case mR => kernel_rfl)
    (case mO => kernel_rfl)
    (case rr => first | rfl | k_is)
    (case or => first | rfl | k_is)
    (case oo => first | rfl | k_is)
    (case nr => first | rfl | k_is)
    (case no => first | rfl | k_is)
    (case nn => first | rfl | k_is)
    (case z_int => k_is)
    (case z_bool => k_is)
    (case z_tuple => k_is)
    (case z_str => k_is)
    (case z_isinstance => k_is)
    (case z_len => k_is)
    (case z_abs => k_is)
    (case z_max => k_is)
    (case z_min => k_is)
    (case z_range => k_is)
    (case z_repr => k_is)
    (case z_gcd => k_is)
    (case z_block => exact ⟨_, PySem.W.mg_of KX G (by k_is)⟩)
    (case z_limit => exact ⟨_, PySem.W.mg_of KX G (by k_is)⟩)
    (case hWh => refine' K0.has_of ?a ?l ?c ?k; (case a => k_is); (case l => k_is); (case c => k_is); (case k => k_is))
    (case hQu => refine' K0.has_of ?a ?l ?c ?k; (case a => k_is); (case l => k_is); (case c => k_is); (case k => k_is))
    (case hRe => refine' K0.has_of ?a ?l ?c ?k; (case a => k_is); (case l => k_is); (case c => k_is); (case k => k_is))
    (case hAd => refine' K0.has_of ?a ?l ?c ?k; (case a => k_is); (case l => k_is); (case c => k_is); (case k => k_is))
    (case hMu => refine' K0.has_of ?a ?l ?c ?k; (case a => k_is); (case l => k_is); (case c => k_is); (case k => k_is))
    (case hWT => refine' K0.has_of ?a ?l ?c ?k; (case a => k_is); (case l => k_is); (case c => k_is); (case k => k_is))
    (case hQT => refine' K0.has_of ?a ?l ?c ?k; (case a => k_is); (case l => k_is); (case c => k_is); (case k => k_is))
    (case hII => refine' K0.has_of ?a ?l ?c ?k; (case a => k_is); (case l => k_is); (case c => k_is); (case k => k_is))
    (case hIR => refine' K0.has_of ?a ?l ?c ?k; (case a => k_is); (case l => k_is); (case c => k_is); (case k => k_is))
    (case hLo => refine' K0.has_of ?a ?l ?c ?k; (case a => k_is); (case l => k_is); (case c => k_is); (case k => k_is))
    (case hPl => refine' K0.has_of ?a ?l ?c ?k; (case a => k_is); (case l => k_is); (case c => k_is); (case k => k_is))
    (case hMi => refine' K0.has_of ?a ?l ?c ?k; (case a => k_is); (case l => k_is); (case c => k_is); (case k => k_is))
    (case hTi => refine' K0.has_of ?a ?l ?c ?k; (case a => k_is); (case l => k_is); (case c => k_is); (case k => k_is))
    (case hOv => refine' K0.has_of ?a ?l ?c ?k; (case a => k_is); (case l => k_is); (case c => k_is); (case k => k_is))
    (case hCo => refine' K0.has_of ?a ?l ?c ?k; (case a => k_is); (case l => k_is); (case c => k_is); (case k => k_is))
    (case hRT => refine' K0.has_of ?a ?l ?c ?k; (case a => k_is); (case l => k_is); (case c => k_is); (case k => k_is))
    (case hCh => refine' K0.has_of ?a ?l ?c ?k; (case a => k_is); (case l => k_is); (case c => k_is); (case k => k_is))
    (case hDi => refine' K0.has_of ?a ?l ?c ?k; (case a => k_is); (case l => k_is); (case c => k_is); (case k => k_is))
    (case hRo => refine' K0.has_of ?a ?l ?c ?k; (case a => k_is); (case l => k_is); (case c => k_is); (case k => k_is))
    (case hPi => refine' K0.has_of ?a ?l ?c ?k; (case a => k_is); (case l => k_is); (case c => k_is); (case k => k_is))
    (case hNe => refine' K0.has_of ?a ?l ?c ?k; (case a => k_is); (case l => k_is); (case c => k_is); (case k => k_is))
    (case hGc => refine' K0.has_of ?a ?l ?c ?k; (case a => k_is); (case l => k_is); (case c => k_is); (case k => k_is))
    (case hLL => refine' K0.has_of ?a ?l ?c ?k; (case a => k_is); (case l => k_is); (case c => k_is); (case k => k_is))
    (case hLP => refine' K0.has_of ?a ?l ?c ?k; (case a => k_is); (case l => k_is); (case c => k_is); (case k => k_is))
    (case hLT => refine' K0.has_of ?a ?l ?c ?k; (case a => k_is); (case l => k_is); (case c => k_is); (case k => k_is))
    (case hDr => refine' K0.has_of ?a ?l ?c ?k; (case a => k_is); (case l => k_is); (case c => k_is); (case k => k_is))
    (case hTT => refine' K0.has_of ?a ?l ?c ?k; (case a => k_is); (case l => k_is); (case c => k_is); (case k => k_is))
    (case hTw => refine' K0.has_of ?a ?l ?c ?k; (case a => k_is); (case l => k_is); (case c => k_is); (case k => k_is))
    (case aF => k_is)
    (case lF => k_is)
    (case cF => k_is)
    (case kF => k_is)
    (case aI => k_is)
    (case lI => k_is)
    (case cI => k_is)
    (case kI => k_is)
    (case tI => kernel_rfl)
    (case oI => kernel_rfl)
    (case aL => k_is)
    (case lL => k_is)
    (case cL => k_is)
