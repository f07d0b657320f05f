import PyProof.Rows.All
import Wide.All
import OpenK.AllK
import Wide.FinOn
import PyProof.EqAt
import PyProof.EqKinds
import PyProof.TupleCall
import HandS.ForMost
import HandS.ForExc
import HandS.Wide
import HandS.Gcd
import HandS.FStr
import HandS.IsInst
import HandS.Lambda
import HandS.EndTab
import HandS.CallLocal
import HandS.CallSlots
import HandS.RaiseMore
import PySem.Challenge.RW_stepletters_k57_errors_of_loops
import HandS.Zip
import HandS.NoneIn
import HandS.TupAny
import HandS.TupMul
import HandS.Walk
import HandS.Rev
import HandS.Style
import HandS.Steps
import HandS.SetFor
import HandS.TupLe
import KE.GoesMore
import KE.KTupSum
import HandS.Deep
import HandS.Conv
import HandS.RevRange
import HandS.GenBody
import HandS.GenYield
import HandS.GenCall
import HandS.GenList
import KE.KExcInit
import HandS.WordsExc
set_option Elab.async false
set_option linter.all false
set_option maxRecDepth 100000
set_option maxHeartbeats 4000000
set_option exponentiation.threshold 5000
namespace K7
/-! ### series: mathematics -/
def sg (size : Nat) : Int := if size % 2 = 1 then 1 else -1
def ex (size : Nat) (c : Int) : Int := if size % 2 = 1 then c else -c
/-- the numbers of the powers of a factor -/
def bn (s e : Int) : Nat → Int
  | 0 => 1
  | m + 1 => s * bn s e m * (e - ((m + 1 : Nat) : Int) + 1) / ((m + 1 : Nat) : Int)
/-- c times the series, pushed by off, added to found: up to the place n -/
def addUp (found series : List Int) (off : Nat) (c : Int) (n : Nat) : List Int :=
  (List.range found.length).map fun i => if off ≤ i ∧ i < n then found.getD i 0 + c * series.getD (i - off) 0 else found.getD i 0
theorem addUp_len (f s : List Int) (off : Nat) (c : Int) (n : Nat) : (addUp f s off c n).length = f.length := by
  unfold addUp
  rw [List.length_map, List.length_range]
theorem addUp_get (f s : List Int) (off : Nat) (c : Int) (n i : Nat) (h : i < f.length) : (addUp f s off c n)[i]? = some (if off ≤ i ∧ i < n then f.getD i 0 + c * s.getD (i - off) 0 else f.getD i 0) := by
  unfold addUp
  rw [List.getElem?_map, List.getElem?_range h]
  rfl
theorem addUp_start (f s : List Int) (off : Nat) (c : Int) (n : Nat) (h : n ≤ off) : addUp f s off c n = f := by
  refine List.ext_getElem? fun i => ?_
  by_cases hi : i < f.length
  · rw [addUp_get _ _ _ _ _ _ hi, if_neg (by omega), List.getElem?_eq_getElem hi, List.getD_eq_getElem?_getD, List.getElem?_eq_getElem hi]
    rfl
  · rw [List.getElem?_eq_none (by rw [addUp_len]; omega), List.getElem?_eq_none (by omega)]
theorem addUp_step (f s : List Int) (off : Nat) (c : Int) (n : Nat) (h : off ≤ n) (hn : n < f.length) : (addUp f s off c n).set n (f.getD n 0 + c * s.getD (n - off) 0) = addUp f s off c (n + 1) := by
  refine List.ext_getElem? fun i => ?_
  by_cases hi : i < f.length
  · rw [addUp_get _ _ _ _ _ _ hi, List.getElem?_set]
    by_cases e : n = i
    · subst e
      rw [if_pos rfl, if_pos (by rw [addUp_len]; exact hn), if_pos (by omega)]
    · rw [if_neg e, addUp_get _ _ _ _ _ _ hi]
      by_cases q : off ≤ i ∧ i < n
      · rw [if_pos q, if_pos (by omega)]
      · rw [if_neg q, if_neg (by omega)]
  · rw [List.getElem?_eq_none (by rw [List.length_set, addUp_len]; omega), List.getElem?_eq_none (by rw [addUp_len]; omega)]
/-- before the step at n, the place n holds what found had -/
theorem addUp_at (f s : List Int) (off : Nat) (c : Int) (n : Nat) (hn : n < f.length) : (addUp f s off c n)[n]? = some (f.getD n 0) := by
  rw [addUp_get _ _ _ _ _ _ hn, if_neg (by omega)]
def wfAt (series : List Int) (size : Nat) (s e : Int) : Nat → List Int
  | 0 => series
  | m + 1 => addUp (wfAt series size s e m) series ((m + 1) * size) (bn s e (m + 1)) series.length
theorem wfAt_len (series : List Int) (size : Nat) (s e : Int) : ∀ m, (wfAt series size s e m).length = series.length
  | 0 => rfl
  | m + 1 => by rw [wfAt, addUp_len, wfAt_len series size s e m]
def wf (series : List Int) (size : Nat) (c : Int) : List Int := wfAt series size (sg size) (ex size c) ((series.length - 1) / size)
theorem wf_len (series : List Int) (size : Nat) (c : Int) : (wf series size c).length = series.length := wfAt_len ..
def mulOk (i j : Int) : Bool := decide (i.natAbs.log2 + j.natAbs.log2 < 1000000)
/-- all products on the way stay small enough -/
def wfOk (series : List Int) (size : Nat) (c : Int) : Bool :=
  (List.range ((series.length - 1) / size)).all fun m => mulOk (sg size * bn (sg size) (ex size c) m) (ex size c - ((m + 1 : Nat) : Int) + 1) && series.all fun x => mulOk (bn (sg size) (ex size c) (m + 1)) x
theorem wfOk_num {series : List Int} {size : Nat} {c : Int} (h : wfOk series size c = true) {m : Nat} (hm : m < (series.length - 1) / size) : (sg size * bn (sg size) (ex size c) m).natAbs.log2 + (ex size c - ((m + 1 : Nat) : Int) + 1).natAbs.log2 < 1000000 := by
  have q := List.all_eq_true.mp h m (List.mem_range.mpr hm)
  rw [Bool.and_eq_true] at q
  exact of_decide_eq_true q.1
theorem wfOk_at {series : List Int} {size : Nat} {c : Int} (h : wfOk series size c = true) {m : Nat} (hm : m < (series.length - 1) / size) {x : Int} (hx : x ∈ series) : (bn (sg size) (ex size c) (m + 1)).natAbs.log2 + x.natAbs.log2 < 1000000 := by
  have q := List.all_eq_true.mp h m (List.mem_range.mpr hm)
  rw [Bool.and_eq_true] at q
  exact of_decide_eq_true (List.all_eq_true.mp q.2 x hx)
/-- the counts of a series: what is left, behind k steps -/
def coRest (series : List Int) : Nat → List Int
  | 0 => series
  | k + 1 => wf (coRest series k) (k + 1) (-((coRest series k).getD (k + 1) 0))
theorem coRest_len (series : List Int) : ∀ k, (coRest series k).length = series.length
  | 0 => rfl
  | k + 1 => by rw [coRest, wf_len, coRest_len series k]
def coAt (series : List Int) (k : Nat) : Int := (coRest series k).getD (k + 1) 0
def countsOf (series : List Int) : List Int := (List.range (series.length - 1)).map (coAt series)
def coOk : Nat → Nat → List Int → Bool
  | 0, _, _ => true
  | f + 1, k, r => wfOk r (k + 1) (-(r.getD (k + 1) 0)) && coOk f (k + 1) (wf r (k + 1) (-(r.getD (k + 1) 0)))
theorem coOk_at (series : List Int) : ∀ (f k : Nat), coOk f k (coRest series k) = true → ∀ j, k ≤ j → j < k + f → wfOk (coRest series j) (j + 1) (-(coAt series j)) = true
  | 0, _, _, _, h1, h2 => by omega
  | f + 1, k, h, j, h1, h2 => by
    rw [coOk, Bool.and_eq_true] at h
    by_cases e : k = j
    · subst e
      exact h.1
    · exact coOk_at series f (k + 1) h.2 j (by omega) (by omega)
def countsOk (series : List Int) : Bool := coOk (series.length - 1) 0 series
theorem countsOk_at {series : List Int} (h : countsOk series = true) {j : Nat} (hj : j < series.length - 1) : wfOk (coRest series j) (j + 1) (-(coAt series j)) = true := coOk_at series _ 0 h j (Nat.zero_le _) (by omega)
def one (most : Nat) : List Int := 1 :: List.replicate most 0
def serAt (counts : List Int) (most : Nat) : Nat → List Int
  | 0 => one most
  | k + 1 => wf (serAt counts most k) (k + 1) (counts.getD k 0)
theorem one_len (most : Nat) : (one most).length = most + 1 := by simp [one]
theorem serAt_len (counts : List Int) (most : Nat) : ∀ k, (serAt counts most k).length = most + 1
  | 0 => one_len most
  | k + 1 => by rw [serAt, wf_len, serAt_len counts most k]
def seriesOf (counts : List Int) (most : Nat) : List Int := serAt counts most counts.length
def seOk : List Int → Nat → List Int → Bool
  | [], _, _ => true
  | c :: cs, k, r => wfOk r (k + 1) c && seOk cs (k + 1) (wf r (k + 1) c)
theorem seOk_at (counts : List Int) (most : Nat) : ∀ (cs : List Int) (k : Nat), counts.drop k = cs → seOk cs k (serAt counts most k) = true → ∀ j, k ≤ j → j < counts.length → wfOk (serAt counts most j) (j + 1) (counts.getD j 0) = true
  | [], k, e, _, j, h1, h2 => by
    have q : counts.length ≤ k := List.drop_eq_nil_iff.mp e
    omega
  | c :: cs, k, e, h, j, h1, h2 => by
    have q : counts[k]? = some c := by
      have z : (counts.drop k)[0]? = some c := by rw [e]; rfl
      rw [List.getElem?_drop] at z
      exact z
    have g : counts.getD k 0 = c := by rw [List.getD_eq_getElem?_getD, q]; rfl
    rw [seOk, Bool.and_eq_true] at h
    by_cases ej : k = j
    · subst ej
      rw [g]
      exact h.1
    · refine seOk_at counts most cs (k + 1) ?_ ?_ j (by omega) h2
      · rw [← List.drop_drop, e]
        rfl
      · rw [serAt, g]
        exact h.2
def seriesOk (counts : List Int) (most : Nat) : Bool := seOk counts 0 (one most)
theorem seriesOk_at {counts : List Int} {most : Nat} (h : seriesOk counts most = true) {j : Nat} (hj : j < counts.length) : wfOk (serAt counts most j) (j + 1) (counts.getD j 0) = true := seOk_at counts most counts 0 rfl h j (Nat.zero_le _) hj
/-- the series 1 / (1 - s) -/
def ctRow (parts : List (Int × Int)) (series : List Int) (n : Nat) : List Int :=
  (parts.filter fun p => decide (p.1 ≤ (n : Int))).map fun p => p.2 * series.getD ((n : Int) - p.1).toNat 0
def ctAt (parts : List (Int × Int)) (most : Nat) : Nat → List Int
  | 0 => one most
  | k + 1 => (ctAt parts most k).set (k + 1) (ctRow parts (ctAt parts most k) (k + 1)).sum
theorem ctAt_len (parts : List (Int × Int)) (most : Nat) : ∀ k, (ctAt parts most k).length = most + 1
  | 0 => one_len most
  | k + 1 => by rw [ctAt, List.length_set, ctAt_len parts most k]
def ctsTo (parts : List (Int × Int)) (most : Nat) : List Int := countsOf (ctAt parts (most - 1) (most - 1))
end K7
namespace K7
open PySem PySem.Spec PyProof.Rows L2
/-! ### the text -/
def topS (i : Nat) : Stmt := PySem.Challenge.pw_stepletters_k57_errors_of_loops.main.body.getD i (.Pass ⟨0, 0, 0, 0⟩)
abbrev sIsWhole : Stmt := topS 1
abbrev sIsInt : Stmt := topS 9
abbrev sBetween : Stmt := topS 10
abbrev sChkB : Stmt := topS 11
abbrev sOne : Stmt := topS 13
abbrev sIsLetters : Stmt := topS 17
abbrev sLoop : Stmt := topS 23
abbrev sCoS : Stmt := topS 24
abbrev sSoC : Stmt := topS 25
abbrev sFree : Stmt := topS 26
abbrev sPaired : Stmt := topS 27
abbrev sCtsTo : Stmt := topS 28
abbrev sCtsOf : Stmt := topS 29
abbrev sSerOf : Stmt := topS 30
abbrev sWF : Stmt := topS 31
abbrev sDice : Stmt := topS 33
abbrev sRoll : Stmt := topS 34
abbrev sPick : Stmt := topS 35
abbrev sMet : Stmt := topS 36
abbrev sRight : Stmt := topS 37
abbrev sLaw : Stmt := topS 38
/-- what the top has written -/
structure Txt (K : PySem.W.Frag) (mg : Str → Option Value) : Prop where
  int : mg "int" = none
  bool : mg "bool" = none
  tuple : mg "tuple" = none
  list : mg "list" = none
  isi : mg "isinstance" = none
  len : mg "len" = none
  abs : mg "abs" = none
  max : mg "max" = none
  min : mg "min" = none
  range : mg "range" = none
  sum : mg "sum" = none
  all : mg "all" = none
  enumerate : mg "enumerate" = none
  repr : mg "repr" = none
  cLIMIT : ∃ t, mg "_LIMIT" = some (.int (10 ^ 60) t)
  cMAXLETTERS : ∃ t, mg "MAX_LETTERS" = some (.int (24) t)
  cMAXLETTER : ∃ t, mg "MAX_LETTER" = some (.int (40) t)
  cLOOP : ∃ t, mg "MOST_LOOP" = some (.int (60) t)
  cUNITS : ∃ t, mg "MOST_UNITS" = some (.int (12) t)
  cLEAST : ∃ t, mg "_LEAST_DEGREE" = some (.int (2) t)
  cCOUNT : ∃ t, mg "_MOST_COUNT" = some (.int (1000) t)
/-! ### the dice -/
/-- a list of three ints, the first one at least 0 -/
def DiceL (L : List V) : Prop := ∃ a b c : Int, L = [.int a, .int b, .int c] ∧ 0 ≤ a
def spRoll : Sp := fun vs H Q _ => ∃ (d : Addr) (n : Int) (L : List V), vs = [.ref d, .int n] ∧ 0 < n ∧ n.natAbs < 2 ^ 500 ∧ H d = some (.lst L) ∧ DiceL L ∧
  ∀ (i : Int) (L' : List V), 0 ≤ i → i < n → DiceL L' → Q (.int i) (upd H d (.lst L'))
theorem scRoll : FnScope ["dice", "total", "found", "one", "two"] ["dice", "total"] (defScope sRoll) := ⟨rfl, rfl, rfl, by decide +kernel, rfl, by decide +kernel, by decide +kernel⟩
theorem bootInt : bootBuiltins "int" = some (.type "int") := by decide +kernel
section
variable {P : Program} {w : World} {K : PySem.W.Frag} {mg : Str → Option Value} {base : Heap}
theorem ok_roll {f : Addr} {fd : FuncData} (F : Fun K "_law_roll" "_law_roll" sRoll f fd) (T : Txt K mg) : FnOk P w K mg base CX0 1 f fd ["dice", "total"] spRoll := by
  refine F.ok scRoll (fun vs H Q E h => ?_) (fun cdv A outer s H vs Q E hr h => ?_)
  · obtain ⟨d, n, L, rfl, _⟩ := h; rfl
  obtain ⟨d, n, L, rfl, hn, hb, hd, ⟨a, b, c, rfl, ha⟩, k⟩ := h
  refine ⟨_, pss_cons (ps_if (pt_cmpR op_gt (pe_ix ix_list (pv 0) pe_int (fun _ _ => rfl)) pe_int (nomark _))
      (pss_cons (ps_set (i := 2) scRoll.nd rfl (.inl rfl) (pe_op op_mod (pe_callTy call_int1 (by rfl) T.int bootInt (pa_cons (pe_ix ix_list (pv 0) pe_int (fun _ _ => rfl)) pa_nil)) (pv 1)))
      (pss_cons (ps_asg (pe_op op_fdivW (pe_ix ix_list (pv 0) pe_int (fun _ _ => rfl)) (pv 1)) (pg_sub (pv 0) pe_int set_list))
      (pss_one (ps_ret (pv 2))))) pss_nil)
    (pss_cons (ps_asg (pe_op op_add (pe_ix ix_list (pv 0) pe_int (fun _ _ => rfl)) pe_int) (pg_sub (pv 0) pe_int set_list))
    (pss_cons (ps_set (i := 3) scRoll.nd rfl (.inl rfl) (pe_op op_mod (pe_callTy call_int1 (by rfl) T.int bootInt (pa_cons (pe_op op_add (pe_ix ix_list (pv 0) pe_int (fun _ _ => rfl)) (pe_op op_mul pe_int (pe_ix ix_list (pv 0) pe_int (fun _ _ => rfl)))) pa_nil)) pe_int))
    (pss_cons (ps_set (i := 4) scRoll.nd rfl (.inl rfl) (pe_op op_add (pe_op op_mul (pe_op op_mod (pe_callTy call_int1 (by rfl) T.int bootInt (pa_cons (pe_op op_add (pe_op op_mul (pv 3) (pv 3)) (pe_op op_mul pe_int (pe_ix ix_list (pv 0) pe_int (fun _ _ => rfl)))) pa_nil)) pe_int) pe_int) (pv 3)))
    (pss_one (ps_ret (pe_op op_mod (pe_callTy call_int1 (by rfl) T.int bootInt (pa_cons (pe_op op_fdiv (pv 4) pe_int) pa_nil)) (pv 1))))))), ?_⟩
  have S := SqL.of (K := K) hd
  refine ⟨_, rfl, d, _, _, _, rfl, rfl, S, rfl, _, _, rfl, rfl, _, rfl, ?_⟩
  refine ite2 (fun c0 => ?_) (fun c0 => ?_)
  · refine ⟨_, rfl, d, _, _, _, rfl, rfl, S, rfl, .inl ⟨_, rfl, _, rfl, _, _, rfl, rfl, hn, ?_⟩⟩
    refine ⟨_, rfl, d, _, _, _, rfl, rfl, S, rfl, _, rfl, _, _, rfl, rfl, wide_div hn hb (by decide) (by decide), _, rfl, d, _, _, 0, rfl, rfl, hd, rfl, _, rfl, ?_⟩
    refine k _ _ (Int.emod_nonneg _ (by omega)) (Int.emod_lt_of_pos _ hn) ⟨_, _, _, rfl, ?_⟩
    exact Int.ediv_nonneg ha (by omega)
  · refine ⟨_, rfl, d, _, _, _, rfl, rfl, S, rfl, _, _, rfl, rfl, _, rfl, d, _, _, 2, rfl, rfl, hd, rfl, ?_⟩
    have S2 := SqL.of (K := K) (upd_same (H := H) (a := d) (o := .lst [.int a, .int b, .int (c + 1)]))
    refine ⟨_, rfl, d, _, _, _, rfl, rfl, S2, rfl, _, rfl, d, _, _, _, rfl, rfl, S2, rfl, _, _, rfl, rfl, .inl ⟨by decide, by decide⟩, _, _, rfl, rfl, .inl ⟨_, rfl, _, _, rfl, rfl, (by show (0 : Int) < 2305843009213693723; decide), ?_⟩⟩
    have m1 := Int.emod_lt_of_pos (b + 67867979 * (c + 1)) (show (0 : Int) < 2305843009213693723 by decide)
    have m0 := Int.emod_nonneg (b + 67867979 * (c + 1)) (show (2305843009213693723 : Int) ≠ 0 by decide)
    generalize ez : (b + 67867979 * (c + 1)) % 2305843009213693723 = z at *
    refine ⟨_, rfl, _, rfl, _, _, rfl, rfl, .inl ⟨by omega, by omega⟩, _, rfl, d, _, _, _, rfl, rfl, S2, rfl, _, _, rfl, rfl, .inl ⟨by decide, by decide⟩, _, _, rfl, rfl, .inl ⟨_, rfl, _, _, rfl, rfl, (by show (0 : Int) < 2305843009213693549; decide), ?_⟩⟩
    have y1 := Int.emod_lt_of_pos (z * z + 103 * (c + 1)) (show (0 : Int) < 2305843009213693549 by decide)
    have y0 := Int.emod_nonneg (z * z + 103 * (c + 1)) (show (2305843009213693549 : Int) ≠ 0 by decide)
    generalize ey : (z * z + 103 * (c + 1)) % 2305843009213693549 = y at *
    refine ⟨_, _, rfl, rfl, .inl ⟨by omega, by omega⟩, _, rfl, _, _, rfl, rfl, ?_⟩
    refine ⟨_, rfl, _, _, rfl, rfl, ⟨by decide, by decide⟩, .inl ⟨_, rfl, _, rfl, _, _, rfl, rfl, hn, ?_⟩⟩
    exact k _ _ (Int.emod_nonneg _ (by omega)) (Int.emod_lt_of_pos _ hn) ⟨_, _, _, rfl, ha⟩
end

theorem bootMax : bootBuiltins "max" = some (.builtin "max") := by decide +kernel
theorem bootAbs : bootBuiltins "abs" = some (.builtin "abs") := by decide +kernel
theorem bootStr : bootBuiltins "str" = some (.type "str") := by decide +kernel
/-! ### making, picking, near -/
def spDice (K : PySem.W.Frag) : Sp := fun vs H Q _ => ∃ (a : Addr) (i : Int) (ns : List Int), vs = [.ref a, .int i] ∧ SqL K H a (ns.map V.int) ∧ 0 ≤ i ∧
  ∀ (L : List V) (p : Addr), DiceL L → H p = none → Q (.ref p) (upd H p (.lst L))
def spPick : Sp := fun vs H Q _ => ∃ (d l : Addr) (xs L : List V), vs = [.ref d, .ref l] ∧ H d = some (.lst L) ∧ DiceL L ∧ H l = some (.lst xs) ∧ l ≠ d ∧ xs ≠ [] ∧ xs.length < 1000 ∧
  ∀ (x : V) (L' : List V), x ∈ xs → DiceL L' → Q x (upd H d (.lst L'))
theorem scDice : FnScope ["script", "spot", "cell", "left"] ["script", "spot"] (defScope sDice) := ⟨rfl, rfl, rfl, by decide +kernel, rfl, by decide +kernel, by decide +kernel⟩
theorem scPick : FnScope ["dice", "items"] ["dice", "items"] (defScope sPick) := ⟨rfl, rfl, rfl, by decide +kernel, rfl, by decide +kernel, by decide +kernel⟩
section
variable {P : Program} {w : World} {K : PySem.W.Frag} {mg : Str → Option Value} {base : Heap}
theorem ok_dice {f : Addr} {fd : FuncData} (F : Fun K "_law_dice" "_law_dice" sDice f fd) (T : Txt K mg) : FnOk P w K mg base CX0 1 f fd ["script", "spot"] (spDice K) := by
  refine F.ok scDice (fun vs H Q E h => ?_) (fun cdv A outer s H vs Q E hr h => ?_)
  · obtain ⟨d, n, L, rfl, _⟩ := h; rfl
  obtain ⟨a, i, ns, rfl, hS, hi, k⟩ := h
  refine ⟨_, pss_cons (ps_set (i := 2) scDice.nd rfl (.inl rfl) (pe_ifExp (pt_cmpR op_lt (pv 1) (pe_callB call_len_seq (by rfl) T.len PySem.boot_len (pa_cons (pv 0) pa_nil)) (nomark _))
      (pe_callTy call_int1 (by rfl) T.int bootInt (pa_cons (pe_ix ix_list (pv 0) (pv 1) (fun _ _ => rfl)) pa_nil)) (pe_op op_add (pe_op op_mul pe_int (pv 1)) pe_int)))
    (pss_cons (ps_set (i := 3) scDice.nd rfl (.inl rfl) (pe_op op_mod (pe_callB (call_max2 rfl) (by rfl) T.max bootMax (pa_cons pe_int (pa_cons (pe_op op_sub (pe_callB call_abs (by rfl) T.abs bootAbs (pa_cons (pv 2) pa_nil)) (pe_op op_pow pe_int pe_int)) pa_nil)))
        (pe_op op_mulW (pe_op op_pow pe_int pe_int) (pe_op op_pow pe_int pe_int))))
    (pss_one (ps_ret (pe_lst (pa_cons (pv 3) (pa_cons (pe_op op_add (pe_op op_add (pe_op op_add (pe_op op_mul (pe_op op_mod (pe_callB call_abs (by rfl) T.abs bootAbs (pa_cons (pv 2) pa_nil)) pe_int) pe_int) (pe_op op_mul pe_int (pv 1)))
        (pe_op op_mul pe_int (pe_callTy call_int1 (by rfl) T.int bootInt (pa_cons (pe_cmpR op_lt (pv 2) pe_int (nomark _)) pa_nil)))) pe_int) (pa_cons pe_int pa_nil))))))), ?_⟩
  have rest : ∀ (c : Int), tSeq (tAsg (tOp (rI (fun _ j => 0 < j) fun i j => .int (i % j)) (tCB (fun xs H Q => ∃ i j, xs = [.int i, .int j] ∧ Q (.int (if j > i then j else i)) H) (tCons (tC (.int 0)) (tCons (tOp (rI0 fun i j => .int (i - j)) (tCB (fun xs H Q => ∃ i, xs = [.int i] ∧ Q (.int (if i < 0 then -i else i)) H) (tCons (tVar 2) tNil)) (tOp (rI CPow fun i j => .int (i ^ j.toNat)) (tC (.int 10)) (tC (.int 17)))) tNil)))
        (tOp (rI CMulW fun i j => .int (i * j)) (tOp (rI CPow fun i j => .int (i ^ j.toNat)) (tC (.int 10)) (tC (.int 58))) (tOp (rI CPow fun i j => .int (i ^ j.toNat)) (tC (.int 10)) (tC (.int 60))))) (gName 3))
      (tRet (tLst (tCons (tVar 3) (tCons (tOp (rI0 fun i j => .int (i + j)) (tOp (rI0 fun i j => .int (i + j)) (tOp (rI0 fun i j => .int (i + j)) (tOp (rI CMul fun i j => .int (i * j)) (tOp (rI (fun _ j => 0 < j) fun i j => .int (i % j)) (tCB (fun xs H Q => ∃ i, xs = [.int i] ∧ Q (.int (if i < 0 then -i else i)) H) (tCons (tVar 2) tNil)) (tC (.int 1152921504606846883))) (tC (.int 67))) (tOp (rI CMul fun i j => .int (i * j)) (tC (.int 937)) (tVar 1)))
        (tOp (rI CMul fun i j => .int (i * j)) (tC (.int 37)) (tCB (fun xs H Q => (∃ i, xs = [.int i] ∧ Q (.int i) H) ∨ ∃ k, xs = [.bl k] ∧ Q (.int (if k then 1 else 0)) H) (tCons (tOp (rI0 fun i j => .bl (decide (i < j))) (tVar 2) (tC (.int 0))) tNil)))) (tC (.int 29))) (tCons (tC (.int 0)) tNil)))))
      { nx := fun _ H' => Q .non H', rt := Q } [some (.ref a), some (.int i), some (.int c), none] H := fun c => by
    have pw : ∀ k : Int, 0 ≤ k → k ≤ 1000000 → CPow 10 k := fun k h1 h2 => ⟨h1, h2, by decide⟩
    refine ⟨_, rfl, _, rfl, _, _, rfl, rfl, pw _ (by decide) (by decide), _, _, rfl, rfl, _, _, rfl, _, _, rfl, rfl, pw _ (by decide) (by decide), _, _, rfl, rfl, pw _ (by decide) (by decide), _, _, rfl, rfl,
      wide_mul (i := 10 ^ (58 : Int).toNat) (j := 10 ^ (60 : Int).toNat) (a := 300) (b := 300) (by decide +kernel) (by decide +kernel) (by decide) (by decide) (by decide), _, _, rfl, rfl, (by show (0 : Int) < 10 ^ (58 : Int).toNat * 10 ^ (60 : Int).toNat; decide +kernel), ?_⟩
    have nn := Int.emod_nonneg (if (if c < 0 then -c else c) - 10 ^ (17 : Int).toNat > 0 then (if c < 0 then -c else c) - 10 ^ (17 : Int).toNat else 0) (show (10 : Int) ^ (58 : Int).toNat * 10 ^ (60 : Int).toNat ≠ 0 by decide +kernel)
    have m1 := Int.emod_lt_of_pos (if c < 0 then -c else c) (show (0 : Int) < 1152921504606846883 by decide)
    have m0 := Int.emod_nonneg (if c < 0 then -c else c) (show (1152921504606846883 : Int) ≠ 0 by decide)
    refine ⟨_, rfl, _, rfl, _, rfl, _, _, rfl, rfl, (by show (0 : Int) < 1152921504606846883; decide), _, _, rfl, rfl, .inr ⟨by decide, by decide⟩, _, rfl, _, _, rfl, rfl, .inl ⟨by decide, by decide⟩, _, _, rfl, rfl, _, rfl, _, _, rfl, rfl, .inr ⟨_, rfl, _, _, rfl, rfl, .inl ⟨by decide, by decide⟩, _, _, rfl, rfl, _, _, rfl, rfl, ?_⟩⟩
    exact ⟨by show 3 ≤ sizeLine; decide, fun p hp => k _ p ⟨_, _, _, rfl, nn⟩ hp⟩
  refine ⟨_, rfl, _, rfl, a, _, rfl, .inl hS, _, _, rfl, rfl, _, rfl, ?_⟩
  refine ite2 (fun c0 => ?_) (fun c0 => ?_)
  · have c1 : i < ((ns.map V.int).length : Int) := of_decide_eq_true c0
    rw [List.length_map] at c1
    have c2 : i.toNat < ns.length := by omega
    have e : (ns.map V.int)[i.toNat]? = some (.int ns[i.toNat]) := by rw [List.getElem?_map, List.getElem?_eq_getElem c2]; rfl
    exact ⟨_, rfl, _, rfl, a, _, _, _, rfl, rfl, hS, at_of (by omega) e, .inl ⟨_, rfl, rest _⟩⟩
  · exact ⟨_, rfl, _, _, rfl, rfl, .inl ⟨by decide, by decide⟩, _, _, rfl, rfl, rest _⟩
theorem ok_pick {f fR : Addr} {fd fdR : FuncData} (F : Fun K "_law_pick" "_law_pick" sPick f fd) (T : Txt K mg) (gR : mg "_law_roll" = some (.ref fR)) (kR : PySem.W.keepIn K (.ref fR) = true) (bR : Binds K fdR ["dice", "total"] [])
    (R : FnOk P w K mg base CX0 1 fR fdR ["dice", "total"] spRoll) : FnOk P w K mg base CX0 2 f fd ["dice", "items"] spPick := by
  refine F.ok scPick (fun vs H Q E h => ?_) (fun cdv A outer s H vs Q E hr h => ?_)
  · obtain ⟨d, n, L, M, rfl, _⟩ := h; rfl
  obtain ⟨d, l, xs, L, rfl, hd, hL, hl, ne, h0, hz, k⟩ := h
  refine ⟨_, pss_one (ps_ret (pe_ix ix_list (pv 1) (pe_call R hr (by rfl) gR kR bR .nil pass0 (pa_cons (pv 0) (pa_cons (pe_callB call_len_seq (by rfl) T.len PySem.boot_len (pa_cons (pv 1) pa_nil)) pa_nil))) (fun _ _ => rfl))), ?_⟩
  have hp : 0 < xs.length := List.length_pos_iff.mpr h0
  refine ⟨_, rfl, _, rfl, _, rfl, l, _, rfl, .inl (SqL.of hl), d, (xs.length : Int), L, rfl, by omega, Nat.lt_trans (by omega : (xs.length : Int).natAbs < 1000) (by decide), hd, hL, fun i L' i0 i1 hL' => ?_⟩
  have hx : xs[i.toNat]? = some xs[i.toNat] := List.getElem?_eq_getElem (by omega)
  exact ⟨l, _, _, _, rfl, rfl, SqL.of (by rw [upd_ne ne]; exact hl), at_of (by omega) hx, k _ L' (List.getElem_mem _) hL'⟩

end
end K7
namespace K7
open PySem PySem.Spec PyProof.Rows L2
/-! ### values of any kind -/
inductive Vk (K : PySem.W.Frag) (H : Hp) : V → Prop
  | non : Vk K H .non
  | bl (b : Bool) : Vk K H (.bl b)
  | int (i : Int) : Vk K H (.int i)
  | str (z : Str) : Vk K H (.str z)
  | tup {a : Addr} {xs : List V} (h : SqT K H a xs) : Vk K H (.ref a)
  | lst {a : Addr} {xs : List V} (h : H a = some (.lst xs)) : Vk K H (.ref a)
  | dic {a : Addr} {kvs : List (Key × V)} (h : H a = some (.dK kvs)) : Vk K H (.ref a)
def isI : V → Bool
  | .int _ => true
  | _ => false
theorem tyT {K : PySem.W.Frag} {H : Hp} {a : Addr} {xs : List V} (h : SqT K H a xs) : TyX K H (.ref a) (.type "tuple") := by
  rcases h with (h | ⟨o, h⟩) | ⟨o, its, n, h1, h2, _⟩
  · exact .base (.tup h)
  · exact .fTuple h
  · exact .kTuple h1 h2
/-- the name of the type, and what isinstance says of int, bool and tuple -/
def isT : V → Bool
  | .ref _ => true
  | _ => false
theorem vk_ty {K : PySem.W.Frag} {H : Hp} {x : V} (h : Vk K H x) : ∃ T : String, TyX K H x (.type T) ∧ ∃ bi bb : Bool, kitB T "int" = some bi ∧ kitB T "bool" = some bb ∧ (bi && !bb) = isI x := by
  cases h with
  | non => exact ⟨"NoneType", .base .non, false, false, by decide +kernel, by decide +kernel, rfl⟩
  | bl b => exact ⟨"bool", .base (.bl _), true, true, by decide +kernel, by decide +kernel, rfl⟩
  | int i => exact ⟨"int", .base (.int _), true, false, by decide +kernel, by decide +kernel, rfl⟩
  | str z => exact ⟨"str", .base (.str _), false, false, by decide +kernel, by decide +kernel, rfl⟩
  | tup h => exact ⟨"tuple", tyT h, false, false, by decide +kernel, by decide +kernel, rfl⟩
  | lst h => exact ⟨"list", .base (.lst h), false, false, by decide +kernel, by decide +kernel, rfl⟩
  | dic h => exact ⟨"dict", .base (.dK h), false, false, by decide +kernel, by decide +kernel, rfl⟩
/-- integers of at most sixty digits -/
def i60 : V → Bool
  | .int i => decide (-(10 ^ 60) < i) && decide (i < 10 ^ 60)
  | _ => false
def spIsWhole (K : PySem.W.Frag) : Sp := fun vs H Q _ => ∃ x : V, vs = [x] ∧ Vk K H x ∧ Q (.bl (isI x)) H
def spIsInt (K : PySem.W.Frag) : Sp := fun vs H Q _ => ∃ x : V, vs = [x] ∧ Vk K H x ∧ Q (.bl (i60 x)) H
theorem scIsWhole : FnScope ["value"] ["value"] (defScope sIsWhole) := ⟨rfl, rfl, rfl, by decide +kernel, rfl, by decide +kernel, by decide +kernel⟩
theorem scIsInt : FnScope ["value"] ["value"] (defScope sIsInt) := ⟨rfl, rfl, rfl, by decide +kernel, rfl, by decide +kernel, by decide +kernel⟩
theorem bootIsi : bootBuiltins "isinstance" = some (.builtin "isinstance") := by decide +kernel
theorem bootBool : bootBuiltins "bool" = some (.type "bool") := by decide +kernel
theorem bootTuple : bootBuiltins "tuple" = some (.type "tuple") := by decide +kernel
def betw (x : V) (a b : Int) : Bool := match x with
  | .int i => i60 (.int i) && (decide (a ≤ i) && decide (i ≤ b))
  | _ => false
def spBetw (K : PySem.W.Frag) : Sp := fun vs H Q _ => ∃ (x : V) (a b : Int), vs = [x, .int a, .int b] ∧ Vk K H x ∧ Q (.bl (betw x a b)) H
theorem scBetw : FnScope ["value", "least", "most"] ["value", "least", "most"] (defScope sBetween) := ⟨rfl, rfl, rfl, by decide +kernel, rfl, by decide +kernel, by decide +kernel⟩
section
variable {P : Program} {w : World} {K : PySem.W.Frag} {mg : Str → Option Value} {base : Heap}
theorem ok_iswhole {f : Addr} {fd : FuncData} (F : Fun K "is_whole" "is_whole" sIsWhole f fd) (T : Txt K mg) : FnOk P w K mg base CX0 1 f fd ["value"] (spIsWhole K) := by
  refine F.ok scIsWhole (fun vs H Q E h => ?_) (fun cdv A outer s H vs Q E hr h => ?_)
  · obtain ⟨a, rfl, _⟩ := h; rfl
  obtain ⟨x, rfl, hx, k⟩ := h
  refine ⟨_, pss_one (ps_ret (pe_and (pe_callB call_isi (by rfl) T.isi bootIsi (pa_cons (pv 0) (pa_cons (pe_bltn (v := .ty "int") (by rfl) T.int bootInt rfl) pa_nil)))
    (pe_one (pe_not (pe_callB call_isi (by rfl) T.isi bootIsi (pa_cons (pv 0) (pa_cons (pe_bltn (v := .ty "bool") (by rfl) T.bool bootBool rfl) pa_nil))))))), ?_⟩
  obtain ⟨Ty, ty, bi, bb, e1, e2, e3⟩ := vk_ty hx
  refine ⟨_, rfl, x, _, _, _, bi, rfl, .ty "int", ty, kit_ty e1, _, rfl, ?_⟩
  cases bi with
  | false =>
    refine iteF ?_
    have e4 : isI x = false := by rw [← e3]; rfl
    rw [← e4]
    exact k
  | true =>
    refine iteT ⟨_, rfl, x, _, _, _, bb, rfl, .ty "bool", ty, kit_ty e2, _, rfl, ?_⟩
    have e4 : isI x = !bb := by rw [← e3]; rfl
    rw [← e4]
    exact k
theorem ok_isint {f fW : Addr} {fd fdW : FuncData} (F : Fun K "is_integer" "is_integer" sIsInt f fd) (T : Txt K mg) (gW : mg "is_whole" = some (.ref fW)) (kW : PySem.W.keepIn K (.ref fW) = true) (bW : Binds K fdW ["value"] [])
    (W : FnOk P w K mg base CX0 1 fW fdW ["value"] (spIsWhole K)) : FnOk P w K mg base CX0 2 f fd ["value"] (spIsInt K) := by
  refine F.ok scIsInt (fun vs H Q E h => ?_) (fun cdv A outer s H vs Q E hr h => ?_)
  · obtain ⟨a, rfl, _⟩ := h; rfl
  obtain ⟨x, rfl, hx, k⟩ := h
  obtain ⟨t, hB⟩ := T.cLIMIT
  refine ⟨_, pss_one (ps_ret (pe_and (pe_call W hr (by rfl) gW kW bW .nil pass0 (pa_cons (pv 0) pa_nil))
    (pe_one (pe_chain op_lt op_lt (pe_un un_neg (pe_glob (v := .int (10 ^ 60)) (by rfl) hB ⟨_, rfl⟩)) (pv 0) (pe_glob (v := .int (10 ^ 60)) (by rfl) hB ⟨_, rfl⟩))))), ?_⟩
  refine ⟨_, rfl, x, rfl, hx, _, rfl, ?_⟩
  cases x with
  | int i =>
    refine iteT ⟨_, rfl, _, rfl, _, _, rfl, rfl, _, rfl, ?_⟩
    have q : Q (.bl (decide (-(10 ^ 60) < i) && decide (i < 10 ^ 60))) H := k
    by_cases c : -(10 ^ 60 : Int) < i
    · rw [decide_eq_true c] at q ⊢
      exact iteT ⟨_, _, rfl, rfl, q⟩
    · rw [decide_eq_false c] at q ⊢
      exact iteF q
  | non => exact iteF k
  | bl b => exact iteF k
  | str z => exact iteF k
  | byt z => exact iteF k
  | flt z => exact iteF k
  | ref a => exact iteF k
  | ty n => exact iteF k
theorem ok_betw {f fW : Addr} {fd fdW : FuncData} (F : Fun K "is_between" "is_between" sBetween f fd) (gW : mg "is_integer" = some (.ref fW)) (kW : PySem.W.keepIn K (.ref fW) = true) (bW : Binds K fdW ["value"] [])
    (W : FnOk P w K mg base CX0 2 fW fdW ["value"] (spIsInt K)) : FnOk P w K mg base CX0 3 f fd ["value", "least", "most"] (spBetw K) := by
  refine F.ok scBetw (fun vs H Q E h => ?_) (fun cdv A outer s H vs Q E hr h => ?_)
  · obtain ⟨a, b, c, rfl, _⟩ := h; rfl
  obtain ⟨x, a, b, rfl, hx, k⟩ := h
  refine ⟨_, pss_one (ps_ret (pe_and (pe_call W hr (by rfl) gW kW bW .nil pass0 (pa_cons (pv 0) pa_nil)) (pe_one (pe_chain op_le op_le (pv 1) (pv 0) (pv 2))))), ?_⟩
  refine ⟨_, rfl, x, rfl, hx, _, rfl, ?_⟩
  cases x with
  | int i =>
    have q : Q (.bl (i60 (.int i) && (decide (a ≤ i) && decide (i ≤ b)))) H := k
    cases c0 : i60 (.int i) with
    | false =>
      rw [c0] at q
      exact iteF q
    | true =>
      rw [c0] at q
      refine iteT ⟨_, rfl, _, rfl, _, _, rfl, rfl, _, rfl, ?_⟩
      by_cases c : a ≤ i
      · rw [decide_eq_true c] at q ⊢
        exact iteT ⟨_, rfl, _, _, rfl, rfl, q⟩
      · rw [decide_eq_false c] at q ⊢
        exact iteF q
  | non => exact iteF k
  | bl b => exact iteF k
  | str z => exact iteF k
  | byt z => exact iteF k
  | flt z => exact iteF k
  | ref a => exact iteF k
  | ty n => exact iteF k
end
end K7
namespace K7
open PySem PySem.Spec PyProof.Rows L2
theorem _root_.L2.Same.new {H : Hp} {p : Addr} {o : HO} (h : H p = none) : Same H (upd H p o) := fun b u e => by
  rw [upd_ne (ne_of_none e h)]
  exact e
theorem Vk.mono {K : PySem.W.Frag} {H H' : Hp} {x : V} (h : Vk K H x) (s : Same H H') : Vk K H' x := by
  cases h with
  | non => exact .non
  | bl b => exact .bl b
  | int i => exact .int i
  | str z => exact .str z
  | tup h =>
    rcases h with (h | ⟨o, h⟩) | h
    · exact .tup (.inl (.inl (s _ _ h)))
    · exact .tup (.inl (.inr ⟨o, s _ _ h⟩))
    · exact .tup (.inr h)
  | lst h => exact .lst (s _ _ h)
  | dic h => exact .dic (s _ _ h)
theorem tupSame {K : PySem.W.Frag} {H H' : Hp} {a : Addr} {xs : List V} (s : Same H H') (h : SqT K H a xs) : SqT K H' a xs := by
  rcases h with (h | ⟨o, h⟩) | h
  · exact .inl (.inl (s _ _ h))
  · exact .inl (.inr ⟨o, s _ _ h⟩)
  · exact .inr h
theorem bootAll : bootBuiltins "all" = some (.builtin "all") := by decide +kernel
theorem bootSum : bootBuiltins "sum" = some (.builtin "sum") := by decide +kernel
theorem bootList : bootBuiltins "list" = some (.type "list") := by decide +kernel
theorem bootMin : bootBuiltins "min" = some (.builtin "min") := by decide +kernel
/-- what is_letters says -/
inductive LetIs (K : PySem.W.Frag) (H : Hp) : V → Bool → Prop
  | non : LetIs K H .non false
  | bl (b : Bool) : LetIs K H (.bl b) false
  | int (i : Int) : LetIs K H (.int i) false
  | str (z : Str) : LetIs K H (.str z) false
  | lst {a : Addr} {xs : List V} (h : H a = some (.lst xs)) : LetIs K H (.ref a) false
  | dic {a : Addr} {kvs : List (Key × V)} (h : H a = some (.dK kvs)) : LetIs K H (.ref a) false
  | long {a : Addr} {xs : List V} (h : SqT K H a xs) (n : 24 < xs.length) : LetIs K H (.ref a) false
  | tup {a : Addr} {xs : List V} (h : SqT K H a xs) (n : xs.length ≤ 24) (v : ∀ x ∈ xs, Vk K H x) : LetIs K H (.ref a) (xs.all fun x => betw x 1 40)
def spIsLet (K : PySem.W.Frag) : Sp := fun vs H Q _ => ∃ (x : V) (b : Bool), vs = [x] ∧ LetIs K H x b ∧ ∀ H', Same H H' → Q (.bl b) H'
theorem scIsLet : FnScope ["value", "degree"] ["value"] (defScope sIsLetters) := ⟨rfl, rfl, rfl, by decide +kernel, rfl, by decide +kernel, by decide +kernel⟩
/-- the list that a comprehension of booleans makes, behind i turns -/
def blT (f : V → Bool) (xs : List V) : HO := .lst (xs.map fun x => V.bl (f x))
theorem take_snoc {α : Type} {xs : List α} {i : Nat} {x : α} (h : xs[i]? = some x) : xs.take (i + 1) = xs.take i ++ [x] := by
  rw [List.take_add_one, h]
  rfl
section
variable {P : Program} {w : World} {K : PySem.W.Frag} {mg : Str → Option Value} {base : Heap}
theorem ok_isletters {f fB : Addr} {fd fdB : FuncData} (F : Fun K "is_letters" "is_letters" sIsLetters f fd) (T : Txt K mg) (gB : mg "is_between" = some (.ref fB)) (kB : PySem.W.keepIn K (.ref fB) = true) (bB : Binds K fdB ["value", "least", "most"] [])
    (B : FnOk P w K mg base CX0 3 fB fdB ["value", "least", "most"] (spBetw K)) : FnOk P w K mg base CX0 4 f fd ["value"] (spIsLet K) := by
  refine F.ok scIsLet (fun vs H Q E h => ?_) (fun cdv A outer s H vs Q E hr h => ?_)
  · obtain ⟨a, b, rfl, _⟩ := h; rfl
  obtain ⟨x, b, rfl, hx, k⟩ := h
  obtain ⟨t1, m1⟩ := T.cMAXLETTERS
  obtain ⟨t2, m2⟩ := T.cMAXLETTER
  refine ⟨_, pss_cons (ps_if (PW.pt (pw_or (pt_not (pt_val (pe_callB call_isi (by rfl) T.isi bootIsi (pa_cons (pv 0) (pa_cons (pe_bltn (v := .ty "tuple") (by rfl) T.tuple bootTuple rfl) pa_nil)))))
        (pw_or1 (pt_cmpR op_gt (pe_callB call_len_seq (by rfl) T.len PySem.boot_len (pa_cons (pv 0) pa_nil)) (pe_glob (v := .int 24) (by rfl) m1 ⟨_, rfl⟩) (nomark _))))) (pss_one (ps_ret pe_bl)) pss_nil)
    (pss_one (ps_ret (pe_callB (cr_all rfl) (by rfl) T.all bootAll (pa_cons (pe_lc (own := [("degree", 1)]) (g := gName 1) rfl scIsLet.nd (pi_tup (pv 0)) (blkOk_by (N := ["value", "degree"]) (sc := defScope sIsLetters) (by decide +kernel)) (fun _ _ _ _ _ => pg_name (i := 1) scIsLet.nd rfl (Or.inl rfl)) (fun _ _ _ _ _ => pts_nil)
      (fun _ _ _ _ _ => pe_call B hr (by rfl) gB kB bB .nil pass0 (by exact (pa_cons (pv 1) (pa_cons pe_int (pa_cons (pe_glob (v := .int 40) (by rfl) m2 ⟨_, rfl⟩) pa_nil)))))) pa_nil)))), ?_⟩
  have no := k H (Same.refl H)
  cases hx with
  | non => exact ⟨_, rfl, _, _, _, _, false, rfl, .ty "tuple", .base .non, kit_ty (by decide +kernel), _, rfl, iteT (iteT no)⟩
  | bl b => exact ⟨_, rfl, _, _, _, _, false, rfl, .ty "tuple", .base (.bl _), kit_ty (by decide +kernel), _, rfl, iteT (iteT no)⟩
  | int i => exact ⟨_, rfl, _, _, _, _, false, rfl, .ty "tuple", .base (.int _), kit_ty (by decide +kernel), _, rfl, iteT (iteT no)⟩
  | str z => exact ⟨_, rfl, _, _, _, _, false, rfl, .ty "tuple", .base (.str _), kit_ty (by decide +kernel), _, rfl, iteT (iteT no)⟩
  | lst h => exact ⟨_, rfl, _, _, _, _, false, rfl, .ty "tuple", .base (.lst h), kit_ty (by decide +kernel), _, rfl, iteT (iteT no)⟩
  | dic h => exact ⟨_, rfl, _, _, _, _, false, rfl, .ty "tuple", .base (.dK h), kit_ty (by decide +kernel), _, rfl, iteT (iteT no)⟩
  | long h n =>
    refine ⟨_, rfl, _, _, _, _, true, rfl, .ty "tuple", tyT h, kit_ty (by decide +kernel), _, rfl, iteF ⟨_, rfl, _, _, rfl, .inr h, _, _, rfl, rfl, _, rfl, ?_⟩⟩
    rw [decide_eq_true (by omega)]
    exact iteT no
  | @tup a xs h n v =>
    refine ⟨_, rfl, _, _, _, _, true, rfl, .ty "tuple", tyT h, kit_ty (by decide +kernel), _, rfl, iteF ⟨_, rfl, _, _, rfl, .inr h, _, _, rfl, rfl, _, rfl, ?_⟩⟩
    rw [decide_eq_false (by omega)]
    refine iteF ⟨_, rfl, a, rfl, ⟨_, h⟩, fun D hD => lc_tup (K := K) (a := a) (xs := xs) (fun i H' => H' = upd H D (blT (fun x => betw x 1 40) (xs.take i))) rfl ?_ ?_ ?_⟩
    · rintro i H' _ rfl
      exact tupSame (Same.new hD) h
    · rintro i x H' hx rfl
      have vx := (v x (List.mem_of_getElem? hx)).mono (Same.new (o := blT (fun x => betw x 1 40) (xs.take i)) hD)
      have il := (List.getElem?_eq_some_iff.mp hx).1
      refine ⟨rfl, iteT (B := True) ⟨_, rfl, x, 1, 40, rfl, vx, xs.take i |>.map fun x => V.bl (betw x 1 40), upd_same, small1000 (by rw [List.length_map, List.length_take]; omega), ?_⟩⟩
      show upd _ D (.lst ((xs.take i |>.map fun x => V.bl (betw x 1 40)) ++ [.bl (betw x 1 40)])) = _
      rw [upd_upd, take_snoc hx]
      unfold blT
      rw [List.map_append]
      rfl
    rintro H' rfl
    refine ⟨D, xs.map fun x => betw x 1 40, rfl, SqL.of ?_, ?_⟩
    · rw [upd_same, List.take_length]
      unfold blT
      rw [List.map_map]
      rfl
    · have q := k _ (Same.new (o := blT (fun x => betw x 1 40) (xs.take xs.length)) hD)
      rw [List.all_map]
      exact q
end
end K7
namespace K7
open PySem PySem.Spec PyProof.Rows L2 RZ
/-! ### enumerate(tuple) -/
set_option maxHeartbeats 4000000 in
theorem meets_enumT (l : Addr) (items : Array Value) :
    Meets (Builtin.«enumerate.__new__» ⟨[.type "enumerate", .ref l], []⟩) (fun _ R s => s.heap.IsTuple l items ∧
      R (.ok (.ret (.ref (s.heap.push { cls := .type "tuple_iterator", data := .fields #[.ref l, .int 0 0] }).objs.size)))
        { s with heap := (s.heap.push { cls := .type "tuple_iterator", data := .fields #[.ref l, .int 0 0] }).push { cls := .type "enumerate", data := .fields #[.none, .bool false, .ref s.heap.objs.size, rawInt 0, .none, .none] } }) :=
  .of_wp fun prog w A R s h => by
    obtain ⟨hp, g, d, tk, os⟩ := s
    obtain ⟨hl, h⟩ := h
    have sub := sub_enumerate
    have it : ∀ {A' : Around} {E : Value → Shared → Prop} {Q : Value → Shared → Prop}, Q (.ref hp.objs.size) ⟨hp.push { cls := .type "tuple_iterator", data := .fields #[.ref l, .int 0 0] }, g, d, tk, os⟩ → wpAny (model prog w) A' (pyIter (.ref l)) Q E ⟨hp, g, d, tk, os⟩ :=
      fun q => wpAny_pyIter_tuple (s := ⟨hp, g, d, tk, os⟩) hl q
    wp_walk using it
    refine wpAny_stack_any fun _ => wpAny_pure ?_
    split
    · rename_i c _ _ _ _ _
      cases (c == Value.type "enumerate") <;> (wp_walk using it; exact ⟨_, rfl, h⟩)
    · wp_walk using it
      exact ⟨_, rfl, h⟩
section
variable {prog : Program} {w : World} {A : Around} {E : Value → Shared → Prop} {s : Shared}
theorem call_enumT {l : Addr} {items : Array Value} {Q : Value → Shared → Prop} (hL : s.heap.IsTuple l items)
    (h : ∀ h', IsEnum h' (s.heap.objs.size + 1) s.heap.objs.size 0 .none → h'.IsTupleIter s.heap.objs.size l 0 → h'.objs.size = s.heap.objs.size + 2 → (∀ b o, s.heap.get? b = some o → h'.get? b = some o) → Q (.ref (s.heap.objs.size + 1)) { s with heap := h' }) :
    wpAny (model prog w) A (call (.type "enumerate") [.ref l]) Q E s := by
  refine callType_new F.called_enumerate (by decide) (F.typeCall_enumerate_1 _) (F.newCall_enumerate_1 _) (fun obj => F.args_object_init_2 obj _) F.entry_enumerate_new (meets_enumT l items) ⟨hL, ?_⟩
  show _ ∧ _
  have z1 : (s.heap.push { cls := .type "tuple_iterator", data := .fields #[.ref l, .int 0 0] }).objs.size = s.heap.objs.size + 1 := Heap.size_push ..
  have he := Heap.get?_push_size (s.heap.push { cls := .type "tuple_iterator", data := .fields #[.ref l, .int 0 0] }) (o := { cls := .type "enumerate", data := .fields #[.none, .bool false, .ref s.heap.objs.size, rawInt 0, .none, .none] }) rfl
  rw [z1] at he ⊢
  refine ⟨⟨_, he, rfl⟩, h _ he ⟨_, Heap.get?_push_of_some _ (Heap.get?_push_size _ rfl), rfl, rfl⟩ ?_ fun b o x => Heap.get?_push_of_some _ (Heap.get?_push_of_some _ x)⟩
  rw [Heap.size_push, z1]
end
section
variable {prog : Program} {w : World} {A : Around} {E : Value → Shared → Prop} {s : Shared}
theorem enum_endT {e it l : Addr} {i : Nat} {k : Int} {items : Array Value} {old : Value} {Q : Option Value → Shared → Prop} (hh : A.handled = none) (he : IsEnum s.heap e it k old) (hit : s.heap.IsTupleIter it l i) (hl : s.heap.IsTuple l items) (hx : items[i]? = none)
    (q : ∀ h', Heap.ExtBut it s.heap h' → Q none { s with heap := h' }) : wpAny (model prog w) A (pyNext (.ref e)) Q E s := by
  have ty : s.TypeIs (.ref e) "enumerate" := ⟨_, he, rfl⟩
  unfold pyNext
  refine wpAny_bind (wpAny_attempt (wpAny_callSpecial?_slot (name := Str.ofString "__next__") ty F.slot_enumerate_next (wpAny_call_entry F.slot_enumerate_next ty F.entry_enumerate_next ?_ (F.args_enumerate_next_1 _))))
  show wpAny _ _ (field (.ref e) 2 >>= _) _ _ s
  refine wpAny_bind (wpAny_field he rfl (x := .ref it) rfl (wpAny_bind (nextOf_tuple_end hh hit hl hx fun h' x eb sx => ?_)))
  obtain ⟨o, go, co⟩ := sx
  exact wpAny_bind (wpAny_isInstance (T := "StopIteration") (b := true) ⟨o, go, co⟩ isSubtype_stop (wpAny_pure (q _ eb)))
end
/-- the tuple at a, each item in a new pair behind its index -/
def IteT (K : PySem.W.Frag) (a : Addr) : It :=
  ⟨fun i H => ∃ (xs : List V) (x : V), SqT K H a xs ∧ xs[i]? = some x, fun i H v H' => ∃ T x, v = .ref T ∧ H T = none ∧ H' = upd H T (.tup [.int (i : Nat), x]) ∧ ∀ xs, SqT K H a xs → xs[i]? = some x, fun i H => ∃ xs : List V, SqT K H a xs ∧ xs.length ≤ i⟩
theorem turn_enumT {P : Program} {w : World} {K : PySem.W.Frag} {elts : List Expr} {kk : Nat} {tpos : Pos} (a e it : Addr) :
    Turn P w K (.Tuple elts kk tpos) (IteT K a) [e, it] e (fun i h => (∃ old, IsEnum h e it ((i : Nat) : Int) old) ∧ h.IsTupleIter it a i ∧ e ≠ it ∧ a ≠ it ∧ a ≠ e) where
  mem := by simp
  obj := fun i h st b hb => by
    obtain ⟨⟨old, he⟩, ⟨o, ho, hc, hd⟩, _⟩ := st
    rcases List.mem_cons.mp hb with z | z
    · rw [z]
      exact ⟨_, he, fun v q => nomatch q⟩
    · rw [List.mem_singleton.mp z]
      exact ⟨o, ho, fun v q => by rw [hd] at q; cases q⟩
  keep := fun i h h' st k => by
    obtain ⟨⟨old, he⟩, hi, r⟩ := st
    exact ⟨⟨old, k e (by simp) _ he⟩, hi.at fun o q => k it (by simp) o q, r⟩
  item := by
    intro X hP hw hK hc i pins s σ H E I hf st hg
    subst hP hw hK
    obtain ⟨⟨old, he⟩, hit, hne, nai, nae⟩ := st
    obtain ⟨xs, x, hq, hx⟩ := hg
    obtain ⟨its, rv, p, hz⟩ := I.tuple hq
    have ht : s.heap.IsTuple a its.toArray := p
    obtain ⟨u, hu, ru⟩ := rv.get hx
    have hel : e < s.heap.objs.size := Heap.lt_size he
    have hil : it < s.heap.objs.size := by
      obtain ⟨_, q, _⟩ := hit
      exact Heap.lt_size q
    have hu2 : its.toArray[i]? = some u := by simpa using hu
    have hlt : i < its.toArray.size := (Array.getElem?_eq_some_iff.mp hu2).1
    refine wpAny_pyNext_enum_itemD (Draws.tuple (A := X.A.in1) (I.ok.hd hc) it a nai its.toArray) he ⟨hit, ht⟩ hlt hne (by simp only [List.mem_cons, List.not_mem_nil, or_false, not_or]; exact ⟨hne, fun z => nae z.symm⟩) fun y h' tk hP ho st' hT hsz hk => ?_
    have ey : y = u := by
      have hP' : its.toArray[i]? = some y := hP
      rw [hu2] at hP'
      exact (Option.some.inj hP').symm
    subst ey
    refine ⟨_, rfl, wpAny_letOwnedTupleGo_enum (s := { s with heap := h', toks := tk + 1 }) ho fun h'' he' sb => ?_⟩
    have hT2 : h''.get? s.heap.objs.size = some { cls := .type "tuple", data := .seq #[.int i tk, y] } := (sb.2 _ (Nat.ne_of_gt hel)).trans hT
    have new : ObjOk X.prog X.w (upd H s.heap.objs.size (.tup [.int (i : Nat), x])) h'' s.heap.objs.size (.tup [.int (i : Nat), x]) := ⟨by show 2 ≤ sizeLine; decide, [.int i tk, y], .cons ⟨_, rfl⟩ (.cons ru .nil), ⟨_, hT2, rfl, _, rfl⟩⟩
    have I1 : Inv X pins σ (upd H s.heap.objs.size (.tup [.int (i : Nat), x])) { s with heap := h'', toks := tk + 1 } :=
      I.turnedNew (t' := tk + 1) (ch := [e, it]) (fun b ob hb q => (sb.2 b (fun z => hb (by simp [z]))).trans (hk b ob (fun z => hb (by simp [z])) (fun z => hb (by simp [z])) q)) hf (Nat.le_refl _) new
    refine ⟨.ref s.heap.objs.size, _, I1, rfl, ⟨_, x, rfl, I.hok.fresh (Nat.le_refl _), rfl, fun ys hy => by rw [I.tuple_inj hy hq]; exact hx⟩, ⟨⟨y, ?_⟩, st'.1.at fun o q => (sb.2 it (Ne.symm hne)).trans q, hne, nai, nae⟩, fun b hb => ?_⟩
    · have e1 : ((i + 1 : Nat) : Int) = (i : Int) + 1 := by omega
      rw [e1]
      exact he'
    · have hb' : b < s.heap.objs.size := by
        rcases List.mem_cons.mp hb with z | z
        · rw [z]
          exact hel
        · rw [List.mem_singleton.mp z]
          exact hil
      rw [upd_ne (Nat.ne_of_lt hb')]
      exact (hf b hb).1
  done := by
    intro X hP hw hK hc i pins s σ H E I hf st hg
    subst hP hw hK
    obtain ⟨⟨old, he⟩, hit, hne, nai, nae⟩ := st
    obtain ⟨xs, hq, hx⟩ := hg
    obtain ⟨its, rv, p, hz⟩ := I.tuple hq
    have ht : s.heap.IsTuple a its.toArray := p
    have hl := rv.length
    have none' : its.toArray[i]? = none := by
      rw [Array.getElem?_eq_none_iff, List.size_toArray]
      omega
    refine enum_endT (I.ok.hd hc) he hit ht none' fun h' eb => ⟨rfl, I.turnedL (t' := s.toks) (ch := [e, it]) (fun b o hb q => eb b o (fun z => hb (by simp [z])) q) hf⟩
  self := fun A i s Q E st h => by
    obtain ⟨⟨_, he⟩, _⟩ := st
    exact wpAny_pyIter_enum he h
def iEnumT (K : PySem.W.Frag) (ta : TA) : TI := fun σ H R => ta σ H fun vs H1 => ∃ a xs, vs = [.ref a] ∧ SqT K H1 a xs ∧ R (IteT K a) H1
theorem pi_enumT {X : Cx} {e : Expr} {ta : TA} {p pos tpos : Pos} {elts : List Expr} {kk : Nat} (hg : Gl X "enumerate") (hm : X.mg "enumerate" = none) (ha : PA X [e] ta) (hs : starEach [e] X.env = [(false, eval e X.env)] := by rfl) :
    PI X (.Tuple elts kk tpos) (.Call (.Name "enumerate" p) [e] [] pos) (iEnumT X.K ta) := by
  refine ⟨fun pins s σ H R I h => Call_ (ld_blt I hg hm boot_enumerate (PyProof.Rows.callWith_type1 (thn (ha.run pos pins s σ H _ I h) fun us s1 ⟨vs, H1, I1, r1, q1⟩ => ?_) hs rfl))⟩
  obtain ⟨a, xs, rfl, hq, q⟩ := q1
  rw [Vals.ref1 r1]
  obtain ⟨its, rv, p', hz⟩ := I1.tuple hq
  have ht : s1.heap.IsTuple a its.toArray := p'
  have al : a < s1.heap.objs.size := by
    obtain ⟨o, ho, _⟩ := ht
    exact Heap.lt_size ho
  refine call_enumT ht fun h' he hit hsz hk => wpAny_pyIter_enum he ?_
  refine ⟨s1.heap.objs.size + 1, [s1.heap.objs.size + 1, s1.heap.objs.size], _, _, H1, rfl, I1.kept (t' := s1.toks) hk, turn_enumT a (s1.heap.objs.size + 1) s1.heap.objs.size, ⟨⟨.none, he⟩, hit, Nat.succ_ne_self _, Nat.ne_of_lt al, Nat.ne_of_lt (Nat.lt_succ_of_lt al)⟩, fun b hb => ?_, q⟩
  have hle : s1.heap.objs.size ≤ b := by
    rcases List.mem_cons.mp hb with z | z
    · rw [z]
      exact Nat.le_add_right _ _
    · rw [List.mem_singleton.mp z]
      exact Nat.le_refl _
  exact I1.fpOk hle (I1.hok.fresh hle)
theorem walk_enumT {K : PySem.W.Frag} {a : Addr} {xs : List V} : Walk (IteT K a) xs.length (fun H => SqT K H a xs) (YPair (fun i => some (.int (i : Nat))) (fun i => xs[i]?)) := by
  refine ⟨fun i _ hi q => ⟨xs, xs[i], q, by simp [hi]⟩, fun _ q => ⟨xs, q, Nat.le_refl _⟩, fun i H v H' _ q y => ?_⟩
  obtain ⟨T, x, h1, h2, h3, h4⟩ := y
  exact ⟨T, _, x, h1, h2, h3, rfl, h4 xs q⟩
theorem walk_zipT {K : PySem.W.Frag} {a b : Addr} {xs ys : List V} {n : Nat} (hn : n = min xs.length ys.length) : Walk (ItzT K a b) n (fun H => SqT K H a xs ∧ SqT K H b ys) (YPair (fun i => xs[i]?) (fun i => ys[i]?)) := by
  subst hn
  refine ⟨fun i _ hi q => ?_, fun _ q => ⟨xs, ys, q.1, q.2, by omega⟩, fun i H v H' _ q y => ?_⟩
  · have h1 : i < xs.length := by omega
    have h2 : i < ys.length := by omega
    exact ⟨xs, ys, xs[i], ys[i], q.1, q.2, by simp [h1], by simp [h2]⟩
  · obtain ⟨T, x, z, h1, h2, h3, h4, h5⟩ := y
    exact ⟨T, x, z, h1, h2, h3, h4 xs q.1, h5 ys q.2⟩
/-! ### sum(tuple) -/
def rSumT (K : PySem.W.Frag) : List V → Hp → VK → Prop := fun vs H Q => ∃ (a : Addr) (ns : List Int), vs = [V.ref a] ∧ SqT K H a (ns.map V.int) ∧ Q (.int ns.sum) H
theorem cr_sumT {X : Cx} (hc : X.calm = true) : CallR X (.builtin "sum") (rSumT X.K) := by
  intro pins s σ H vs us Q I r h
  obtain ⟨a, ns, rfl, hs, q⟩ := h
  obtain ⟨its, rv, p, _⟩ := I.tuple hs
  rw [Vals.ref1 r]
  have hl : s.heap.IsTuple a its.toArray := p
  obtain ⟨xs, hx⟩ := rv.ints.allInts.items
  have hn : numsOf its.toArray.toList = ns := by rw [show its.toArray.toList = its from rfl, rv.ints.numsOf]
  rw [hx] at hl hn
  rw [nums_intItems] at hn
  refine PySem.W.ktm_sumG (I.ok.hd hc) hl fun h' tk t' hk => ?_
  rw [preSum_eq, List.take_of_length_le (by simp), hn]
  exact ⟨.int _, H, I.kept hk, ⟨_, rfl⟩, q⟩
end K7
namespace K7
open PySem PySem.Spec PyProof.Rows L2
/-! ### tuple * int, also 0 and 1 times -/
theorem tup_times1 (l : Addr) (items : Array Value) (n : Nat) (dd : Option Addr) (sl : Array (Option Value)) (u : Tok) :
    Meets (Builtin.«tuple.__mul__» ⟨[.ref l, .int 1 u], []⟩) (fun _ R s => s.heap.get? l = some { cls := .type "tuple", dict := dd, data := .seq items n, slots := sl } ∧ R (.ok (.ret (Value.ref l))) s) :=
  .of_wp fun prog w A R s h => by
    obtain ⟨hp, g, d, tk, os⟩ := s
    obtain ⟨hl, h⟩ := h
    have f1 := AutoSeq1.idx_int
    have c1 : (items.isEmpty || (1 : Int) == 1) = true := by simp
    wp_walk using wpAny_loadPart' hl
    repeat (first
      | (refine wpAny_ite_true (decide_eq_true (by rw [c1])) ?_; wp_walk using wpAny_loadPart' hl)
      | (refine wpAny_ite_false (decide_eq_false (by decide)) ?_; wp_walk using wpAny_loadPart' hl))
    all_goals exact ⟨_, rfl, h⟩
theorem tup_times0 (l : Addr) (items : Array Value) (n : Nat) (dd : Option Addr) (sl : Array (Option Value)) (u : Tok) (c1 : (items.isEmpty || (0 : Int) == 1) = false) :
    Meets (Builtin.«tuple.__mul__» ⟨[.ref l, .int 0 u], []⟩) (fun _ R s => s.heap.get? l = some { cls := .type "tuple", dict := dd, data := .seq items n, slots := sl } ∧
      R (.ok (.ret (Value.ref s.heap.objs.size))) { s with heap := s.heap.push { cls := Value.type "tuple", data := Data.seq #[] }, toks := s.toks }) :=
  .of_wp fun prog w A R s h => by
    obtain ⟨hp, g, d, tk, os⟩ := s
    obtain ⟨hl, h⟩ := h
    have f1 := AutoSeq1.idx_int
    wp_walk using wpAny_loadPart' hl
    repeat (first
      | (refine wpAny_ite_false (decide_eq_false (by rw [c1]; exact Bool.false_ne_true)) ?_; wp_walk using wpAny_loadPart' hl)
      | (refine wpAny_ite_true (decide_eq_true (by rfl)) ?_; wp_walk using wpAny_loadPart' hl)
      | (refine wpAny_ite_false (decide_eq_false (by decide)) ?_; wp_walk using wpAny_loadPart' hl))
    all_goals exact ⟨_, rfl, h⟩
def rMulT (K : PySem.W.Frag) : R2 := fun x y H Q => ∃ l k xs, x = .ref l ∧ y = .int k ∧ SqT K H l xs ∧ xs ≠ [] ∧ 0 ≤ k ∧ k ≤ 1000 ∧ xs.length ≤ 1000 ∧ (k = 1 → Q (.ref l) H) ∧ (k ≠ 1 → ∀ p, H p = none → Q (.ref p) (upd H p (.tup (List.replicate k.toNat xs).flatten)))
theorem op_mulT {X : Cx} : OpR X (binaryOp .Mult) (rMulT X.K) := by
  intro pins s σ H x y v u Q I rx ry h
  obtain ⟨l, k, xs, rfl, rfl, hT, hne, h0, h2, hz, q1, q2⟩ := h
  by_cases k2 : 2 ≤ k
  · exact op_repT pins s σ H _ _ v u Q I rx ry ⟨l, k, xs, rfl, rfl, hT, hne, k2, h2, hz, q2 (by omega)⟩
  cases rx
  obtain ⟨t, rfl⟩ := ry
  obtain ⟨its, r, ⟨⟨cls, dd, data, sl⟩, ho, hc, n, hd⟩, hs⟩ := I.tuple hT
  simp only at hc hd
  subst hc hd
  by_cases k1 : k = 1
  · subst k1
    exact wpAny_binaryOp_repeat_ref (T := "tuple") (U := "int") (by decide) ⟨_, ho, rfl⟩ (fun s' => typeIs_int s' 1 t) noFill_tuple_mul F.fills_int_mul F.slot_int_rmul repeat_tuple F.slot_int_index.lookup
      (call_meets F.slot_int_rmul (typeIs_int s 1 t) F.entry_int_rmul (F.args_int_rmul_2 _ _) (int_rmul_tuple 1 t l its.toArray n dd sl)
        ⟨ho, rfl, ⟨_, ho, rfl⟩, call_meets F.slot_tuple_mul ⟨_, ho, rfl⟩ F.entry_tuple_mul (F.args_tuple_mul_2 _ _) (tup_times1 l its.toArray n dd sl t) ⟨ho, ⟨.ref l, H, I, rfl, q1 rfl⟩⟩⟩)
  · have k0 : k = 0 := by omega
    subst k0
    have hle : its.length = xs.length := r.length.symm
    have hi : (its.toArray.isEmpty || (0 : Int) == 1) = false := by
      cases its with
      | nil =>
        rw [List.length_nil] at hle
        exact absurd (List.eq_nil_of_length_eq_zero hle.symm) hne
      | cons a b => rfl
    exact wpAny_binaryOp_repeat_ref (T := "tuple") (U := "int") (by decide) ⟨_, ho, rfl⟩ (fun s' => typeIs_int s' 0 t) noFill_tuple_mul F.fills_int_mul F.slot_int_rmul repeat_tuple F.slot_int_index.lookup
      (call_meets F.slot_int_rmul (typeIs_int s 0 t) F.entry_int_rmul (F.args_int_rmul_2 _ _) (int_rmul_tuple 0 t l its.toArray n dd sl)
        ⟨ho, rfl, ⟨_, ho, rfl⟩, call_meets F.slot_tuple_mul ⟨_, ho, rfl⟩ F.entry_tuple_mul (F.args_tuple_mul_2 _ _) (tup_times0 l its.toArray n dd sl t hi)
          ⟨ho, ⟨.ref s.heap.objs.size, _, I.laid (t' := s.toks) (o := .tup []) (fun b ob q => Heap.get?_push_of_some _ q) (Nat.le_refl _) ⟨by show 0 ≤ sizeLine; decide, [], .nil, IsTup.new _ _⟩, rfl, q2 (by decide) _ (I.hok.fresh (Nat.le_refl _))⟩⟩⟩)
end K7
namespace K7
open PySem PySem.Spec PyProof.Rows L2 RZ
abbrev iV (L : List Int) : List V := L.map V.int
/-- what a comprehension's walk asks -/
abbrev LcW (J : It) (g : TG) (tt : TT) (te : TE) (vs : List Nat) (σ : L2.St) (H : Hp) (D : Addr) (Qd : Hp → Prop) : Prop :=
  ∃ W : Nat → Nat → Hp → Prop, (∃ m, W 0 m (upd H D (.lst []))) ∧ ∀ i m H1, W i m H1 → (J.stop i H1 ∧ Qd H1) ∨ (J.go i H1 ∧ ∃ Nx : Hp → Prop, (∀ H', Nx H' → ∃ m', m' < m ∧ W (i + 1) m' H') ∧
    ∀ x H', J.yld i H1 x H' → g x (wipe σ vs) H' fun σ2 H2 => wipe σ2 vs = wipe σ vs ∧ tt σ2 H2 fun b H3 => if b = true then te σ2 H3 fun y H4 => ∃ acc, H4 D = some (.lst acc) ∧ acc.length < sizeLine ∧ Nx (upd H4 D (.lst (acc ++ [y]))) else Nx H3)
theorem take_more {α : Type} {xs : List α} {i : Nat} {x : α} (h : xs[i]? = some x) : xs.take (i + 1) = xs.take i ++ [x] := by
  rw [List.take_add_one, h]
  rfl
theorem Same.back {H H1 : Hp} {D : Addr} {o : HO} (s : Same H H1) (hD : H D = none) : Same H (upd H1 D o) := fun b u e => by
  rw [upd_ne (ne_of_none e hD)]
  exact s b u e
/-- over zip of two tuples of ints -/
theorem lc_zip2 {K : PySem.W.Frag} {a b : Addr} {L W : List Int} {i j : Nat} {te : TE} {vs : List Nat} {σ : L2.St} {H : Hp} {D : Addr} {Qd : Hp → Prop} (f : Int → Int → V) (hD : H D = none) (ha : SqT K H a (iV L)) (hb : SqT K H b (iV W)) (ln : L.length ≤ 1000)
    (hw : ∀ x y : V, wipe (((wipe σ vs).set i (some x)).set j (some y)) vs = wipe σ vs)
    (he : ∀ (n : Nat) (d e : Int) (H1 : Hp) (Q : VK), L[n]? = some d → W[n]? = some e → Same H H1 → (∀ H2, Same H1 H2 → Q (f d e) H2) → te (((wipe σ vs).set i (some (.int d))).set j (some (.int e))) H1 Q)
    (hd : ∀ H', Same H H' → H' D = some (.lst (List.zipWith f L W)) → Qd H') : LcW (ItzT K a b) (gTup K 2 (gCons (gName i) (gCons (gName j) gNil))) tYes te vs σ H D Qd := by
  have zl : (List.zipWith f L W).length = min L.length W.length := List.length_zipWith
  refine lc_it (walk_zipT (xs := iV L) (ys := iV W) rfl) (fun n H' => Same H H' ∧ H' D = some (.lst ((List.zipWith f L W).take n))) ⟨Same.new hD, upd_same⟩ (fun _ H' _ p => ⟨tupSame p.1 ha, tupSame p.1 hb⟩) (fun n x H1 H2 hn p y => ?_) fun H' p => ?_
  · obtain ⟨T, u, v, rfl, hT, rfl, hu, hv⟩ := y
    have hu : (iV L)[n]? = some u := hu
    have hv : (iV W)[n]? = some v := hv
    rw [List.getElem?_map] at hu hv
    obtain ⟨d, hd1, rfl⟩ := Option.map_eq_some_iff.mp hu
    obtain ⟨e, he1, rfl⟩ := Option.map_eq_some_iff.mp hv
    have s1 : Same H1 (upd H1 T (.tup [.int d, .int e])) := Same.new hT
    refine ⟨T, [.int d, .int e], rfl, SqT.of upd_same, rfl, .int d, [.int e], rfl, .int e, [], rfl, rfl, hw _ _, iteT (B := True) (he n d e _ _ hd1 he1 (p.1.trans s1) fun H2 s2 => ?_)⟩
    have zg : (List.zipWith f L W)[n]? = some (f d e) := by
      rw [List.getElem?_zipWith, hd1, he1]
    refine ⟨(List.zipWith f L W).take n, (s1.trans s2) _ _ p.2, small1000 (by rw [List.length_take]; omega), Same.back (p.1.trans (s1.trans s2)) hD, ?_⟩
    rw [upd_same, take_more zg]
  · refine hd H' p.1 ?_
    rw [p.2, List.take_of_length_le (by rw [zl, List.length_map, List.length_map]; omega)]
/-- over a tuple -/
theorem lc_tup1 {K : PySem.W.Frag} {a : Addr} {xs : List V} {i : Nat} {te : TE} {vs : List Nat} {σ : L2.St} {H : Hp} {D : Addr} {Qd : Hp → Prop} (f : V → V) (hD : H D = none) (ha : SqT K H a xs) (ln : xs.length ≤ 1000)
    (hw : ∀ x : V, wipe ((wipe σ vs).set i (some x)) vs = wipe σ vs)
    (he : ∀ (n : Nat) (x : V) (H1 : Hp) (Q : VK), xs[n]? = some x → Same H H1 → (∀ H2, Same H1 H2 → Q (f x) H2) → te ((wipe σ vs).set i (some x)) H1 Q)
    (hd : ∀ H', Same H H' → H' D = some (.lst (xs.map f)) → Qd H') : LcW (Itt K a) (gName i) tYes te vs σ H D Qd := by
  refine lc_it (walk_tup (xs := xs)) (fun n H' => Same H H' ∧ H' D = some (.lst ((xs.take n).map f))) ⟨Same.new hD, upd_same⟩ (fun _ H' _ p => tupSame p.1 ha) (fun n x H1 H2 hn p y => ?_) fun H' p => ?_
  · obtain ⟨rfl, hx⟩ := y
    refine ⟨hw _, iteT (B := True) (he n x _ _ hx p.1 fun H2 s2 => ?_)⟩
    refine ⟨(xs.take n).map f, s2 _ _ p.2, small1000 (by rw [List.length_map, List.length_take]; omega), Same.back (p.1.trans s2) hD, ?_⟩
    rw [upd_same, take_more hx, List.map_append]
    rfl
  · refine hd H' p.1 ?_
    rw [p.2, List.take_length]
/-- over range(n) -/
theorem lc_range1 {lo : Int} {N i : Nat} {te : TE} {vs : List Nat} {σ : L2.St} {H : Hp} {D : Addr} {Qd : Hp → Prop} (f : Int → V) (hD : H D = none) (ln : N ≤ 1000)
    (hw : ∀ x : V, wipe ((wipe σ vs).set i (some x)) vs = wipe σ vs)
    (he : ∀ (n : Nat) (H1 : Hp) (Q : VK), n < N → Same H H1 → (∀ H2, Same H1 H2 → Q (f (lo + n)) H2) → te ((wipe σ vs).set i (some (.int (lo + n)))) H1 Q)
    (hd : ∀ H', Same H H' → H' D = some (.lst ((List.range N).map fun n : Nat => f (lo + n))) → Qd H') : LcW (Itr lo N) (gName i) tYes te vs σ H D Qd := by
  refine lc_it (walk_range (lo := lo) (n := N)) (fun n H' => Same H H' ∧ H' D = some (.lst ((List.range n).map fun n : Nat => f (lo + n)))) ⟨Same.new hD, upd_same⟩ (fun _ H' _ p => trivial) (fun n x H1 H2 hn p y => ?_) fun H' p => ?_
  · obtain ⟨rfl, rfl⟩ := y
    refine ⟨hw _, iteT (B := True) (he n _ _ hn p.1 fun H2 s2 => ?_)⟩
    refine ⟨(List.range n).map fun n : Nat => f (lo + n), s2 _ _ p.2, small1000 (by rw [List.length_map, List.length_range]; omega), Same.back (p.1.trans s2) hD, ?_⟩
    rw [upd_same, List.range_succ, List.map_append]
    rfl
  · exact hd H' p.1 p.2
/-- the indices of the odd ones, from k on -/
def od (k : Int) : List Int → List Int
  | [] => []
  | d :: L => if d % 2 = 1 then k :: od (k + 1) L else od (k + 1) L
theorem od_append : ∀ (L M : List Int) (k : Int), od k (L ++ M) = od k L ++ od (k + L.length) M
  | [], M, k => by
    show od k M = [] ++ od (k + 0) M
    rw [Int.add_zero, List.nil_append]
  | d :: L, M, k => by
    have ih := od_append L M (k + 1)
    have e : k + 1 + (L.length : Int) = k + ((d :: L).length : Int) := by
      rw [List.length_cons]
      omega
    rw [e] at ih
    show (if d % 2 = 1 then k :: od (k + 1) (L ++ M) else od (k + 1) (L ++ M)) = (if d % 2 = 1 then k :: od (k + 1) L else od (k + 1) L) ++ _
    split
    · rw [ih]
      rfl
    · rw [ih]
theorem od_len : ∀ (L : List Int) (k : Int), (od k L).length ≤ L.length
  | [], _ => Nat.le_refl _
  | d :: L, k => by
    have := od_len L (k + 1)
    show (if d % 2 = 1 then k :: od (k + 1) L else od (k + 1) L).length ≤ _
    split
    · rw [List.length_cons, List.length_cons]
      omega
    · rw [List.length_cons]
      omega
/-- the indices of odd letters, over enumerate -/
theorem lc_odds {K : PySem.W.Frag} {a : Addr} {L : List Int} {i j : Nat} {tt : TT} {te : TE} {vs : List Nat} {σ : L2.St} {H : Hp} {D : Addr} {Qd : Hp → Prop} (hD : H D = none) (ha : SqT K H a (iV L)) (ln : L.length ≤ 1000)
    (hw : ∀ x y : V, wipe (((wipe σ vs).set i (some x)).set j (some y)) vs = wipe σ vs)
    (ht : ∀ (n : Nat) (d : Int) (H1 : Hp) (Q : Bool → Hp → Prop), Q (decide (d % 2 = 1)) H1 → tt (((wipe σ vs).set i (some (.int n))).set j (some (.int d))) H1 Q)
    (he : ∀ (n : Nat) (d : Int) (H1 : Hp) (Q : VK), Q (.int n) H1 → te (((wipe σ vs).set i (some (.int n))).set j (some (.int d))) H1 Q)
    (hd : ∀ H', Same H H' → H' D = some (.lst (iV (od 0 L))) → Qd H') : LcW (IteT K a) (gTup K 2 (gCons (gName i) (gCons (gName j) gNil))) tt te vs σ H D Qd := by
  refine lc_it (walk_enumT (xs := iV L)) (fun n H' => Same H H' ∧ H' D = some (.lst (iV (od 0 (L.take n))))) ⟨Same.new hD, upd_same⟩ (fun _ H' _ p => tupSame p.1 ha) (fun n x H1 H2 hn p y => ?_) fun H' p => ?_
  · obtain ⟨T, u, v, rfl, hT, rfl, hu, hv⟩ := y
    have hu : some (V.int (n : Nat)) = some u := hu
    have hv : (iV L)[n]? = some v := hv
    cases hu
    rw [List.getElem?_map] at hv
    obtain ⟨d, hd1, rfl⟩ := Option.map_eq_some_iff.mp hv
    have s1 : Same H1 (upd H1 T (.tup [.int (n : Nat), .int d])) := Same.new hT
    have nl := (List.getElem?_eq_some_iff.mp hd1).1
    have e1 : od 0 (L.take (n + 1)) = od 0 (L.take n) ++ (if d % 2 = 1 then [(n : Int)] else []) := by
      rw [take_more hd1, od_append, List.length_take, Nat.min_eq_left (Nat.le_of_lt nl), Int.zero_add]
      rfl
    refine ⟨T, [.int (n : Nat), .int d], rfl, SqT.of upd_same, rfl, .int (n : Nat), [.int d], rfl, .int d, [], rfl, rfl, hw _ _, ht n d _ _ ?_⟩
    by_cases c : d % 2 = 1
    · rw [decide_eq_true c]
      refine iteT (he n d _ _ ?_)
      have ol := od_len (L.take n) 0
      rw [List.length_take] at ol
      refine ⟨iV (od 0 (L.take n)), s1 _ _ p.2, small1000 (by rw [List.length_map]; omega), Same.back (p.1.trans s1) hD, ?_⟩
      rw [upd_same, e1, if_pos c]
      show _ = some (HO.lst (List.map V.int _))
      rw [List.map_append]
      rfl
    · rw [decide_eq_false c]
      refine iteF ⟨p.1.trans s1, ?_⟩
      rw [e1, if_neg c, List.append_nil]
      exact s1 _ _ p.2
  · refine hd H' p.1 ?_
    rw [p.2, List.length_map, List.take_length]
end K7
namespace K7X
open PySem PySem.W PySem.Calls PyProof.Rows PySem.HandSPX PySem.Builtin PySem.Builtin.ObjectAttr
/-! ### InvalidNumber(given), a class over IndexError with an __init__ of its own -/
abbrev ieB : List Value := [.type "IndexError", .type "LookupError", .type "Exception", .type "BaseException", .type "object"]
def nuA (r1 r2 : Pos) : Arguments :=
  { posonlyargs := [], args := [{ arg := "self", annotation := none, pos := r1 }, { arg := "given", annotation := none, pos := r2 }], vararg := none, kwonlyargs := [], kw_defaults := [], kwarg := none, defaults := [] }
def nuB (r1 r2 r3 r4 : Pos) : List Stmt := [.Assign [.Attribute (.Name "self" r1) "given" r2] (.Name "given" r3) r4]
def nuS : Scope :=
  { kind := .function, names := [(PySem.Str.ofString "self", .local), (PySem.Str.ofString "given", .local)], isGenerator := false, isCoroutine := false, more := [] }
/-- what the written part says of the class at C and of its __init__ at i0 -/
structure NumTxt (K : Frag) (mg : Str → Option Value) (C i0 : Addr) : Prop where
  named : mg "InvalidNumber" = some (.ref C)
  made : excInitIn K C ieB "IndexError.__new__" = true
  over : excOver K C ieB = true
  dict : hasDictIn K C = true
  stores : findIn K (.ref C) "__setattr__" = some (some (.builtin "object.__setattr__"))
  reads : findIn K (.ref C) "__getattribute__" = some (some (.builtin "BaseException.__getattribute__"))
  reads2 : findIn K (.ref C) "__getattr__" = some none
  noGiven : findIn K (.ref C) "given" = some none
  inits : findIn K (.ref C) "__init__" = some (some (.ref i0))
  isdef : typeIn K (.ref i0) = some (.type "function")
  keepC : keepIn K (.ref C) = true
  isExc : subIn K (.ref C) (.type "BaseException") = some true
  isCls : typeIn K (.ref C) = some (.type "type")
  self1 : exmOne K (.ref C) (.ref C) = some true
  text : ∃ (oc : Value) (od : Option Addr) (doc pm : Value) (an : Option Addr) (cdv ct : Value) (osl : Array (Option Value)) (r1 r2 r3 r4 r5 r6 : Pos),
    K.lookup i0 = some ⟨oc, od, .func (fnOf "__init__" "InvalidNumber.__init__" (nuA r1 r2) (nuB r3 r4 r5 r6) nuS .none .none doc pm an cdv ct), osl⟩ ∧ codeIn K cdv "InvalidNumber.__init__" = true
/-- the object of an exception that holds its arguments alone -/
abbrev bareX (C t : Addr) : Obj := { cls := .ref C, data := .fields #[.ref t, .none, .none, .none, .bool false, .none] }
abbrev withX (C t dx : Addr) : Obj := { cls := .ref C, dict := some dx, data := .fields #[.ref t, .none, .none, .none, .bool false, .none] }
theorem one_fits (v : Value) : [v].length ≤ sizeLine := by
  rw [sizeLine_eq]
  show 1 ≤ 16777216
  decide
section
variable {prog : Program} {w : World} {A : Around} {E : Value → Shared → Prop} {R : Result → Shared → Prop} {K : Frag} {mg : Str → Option Value} {C i0 : Addr}
/-- object.__setattr__ on such an object that has no dict yet -/
theorem num_store {hp : Heap} {g : Array GenState} {d : Drawn} {t : Nat} {os : OsState} {name : Str} {tk : Tok} {v : Value} {x t0 : Addr} (X : K.In hp) (gx : hp.get? x = some (bareX C t0)) (ov : excOver K C ieB = true) (hh : hasDictIn K C = true)
    (nn : findIn K (.ref C) name = some none)
    (go : ∀ h' tk' dx, (∀ b o, b ≠ x → hp.get? b = some o → h'.get? b = some o) → hp.objs.size ≤ dx → dx ≠ x → h'.get? x = some (withX C t0 dx) → h'.Ns1 dx (fun y => if y = name then some v else none) → R (.ok (.ret .none)) ⟨h', g, d, tk', os⟩) :
    codeAny (model prog w) A (.call (.builtin "object.__setattr__") ⟨[.ref x, .str name tk, v], []⟩) R ⟨hp, g, d, t, os⟩ := by
  refine osa_openX (s := ⟨hp, g, d, t, os⟩) (ox := bareX C t0) (od := none) PySem.F.store_IndexError X ⟨gx, rfl, rfl, trivial⟩ ov (L2.NoAttr.taker nn) fun b => ?_
  obtain ⟨cd, hc, hd'⟩ := any_some hh
  have nx : x ≠ hp.objs.size := Nat.ne_of_lt (Heap.lt_size gx)
  refine wpAny_bind (wpAny_pure (wpAny_bind (instanceDict_exc (s := ⟨hp, g, d, t, os⟩) (c2 := .none) (t := t0) gx (looks_clsIn X hc) hd' ?_)))
  show wpAny _ _ (storeInDict hp.objs.size (.str name tk) name v) _ _ _
  refine store_in_new (hp := (hp.push (dictOf [] 0)).update x fun o => { o with dict := some hp.objs.size }) ?_ fun h' tk' hn' hs => ?_
  · exact ⟨_, #[], _, (Heap.get?_update_ne _ _ _ _ nx.symm).trans (Heap.get?_push_at rfl rfl), rfl, fun e he => absurd he (by simp), fun _ => rfl⟩
  · have gx1 : (hp.push (dictOf [] 0)).get? x = some (bareX C t0) := Heap.get?_push_of_some _ gx
    refine go h' tk' hp.objs.size (fun b o hb ho => ?_) (Nat.le_refl _) nx.symm ?_ hn'
    · exact (hs.2 b (Nat.ne_of_lt (Heap.lt_size ho))).trans ((Heap.get?_update_ne _ _ _ _ hb).trans (Heap.get?_push_of_some _ ho))
    · exact (hs.2 x nx).trans (Heap.get?_update_self _ gx1 rfl)
theorem localC {M : Model} {s : Shared} {name : Str} {scope : Scope} {L a : Addr} {cd : Value} {m : Str → Option Value} {x : Str} {pos : Pos} {v : Value} {Q : Value → Shared → Prop} (ns : s.heap.Ns L m) (e : m x = some v) (q : Q v s)
    (k1 : scope.kind = .function := by rfl) (k2 : (envOfC name scope L a cd).kindOf x = some .local := by rfl) (k3 : (x == ("__debug__" : Str)) = false := by decide) :
    wpAny M A (eval (.Name x pos) (envOfC name scope L a cd)) Q E s :=
  wpAny_Name (wpAny_loadName_local k1 k2 ns e q) k3
/-- __init__ on a fresh object at x -/
theorem num_init {s : Shared} (T : NumTxt K mg C i0) {x t0 : Addr} {v : Value} (X : K.In s.heap) (lim : s.heap.NoLimit) (gx : s.heap.get? x = some (bareX C t0)) (room : A.depth < recursionLimit)
    (go : ∀ h' tk dx, (∀ b o, b ≠ x → s.heap.get? b = some o → h'.get? b = some o) → h'.get? x = some (withX C t0 dx) → s.heap.objs.size ≤ dx → dx ≠ x → h'.Ns1 dx (fun y => if y = "given" then some v else none) →
      R (.ok (.ret .none)) { s with heap := h', toks := tk }) :
    codeAny (model prog w) A (.call (.ref i0) ⟨[.ref x, v], []⟩) R s := by
  obtain ⟨oc, od, doc, pm, an, cdv, ct, osl, r1, r2, r3, r4, r5, r6, lk, cdk⟩ := T.text
  refine Att.call_fn (binds := [("self", .ref x), ("given", v)]) X lim lk cdk room (BindsTo.of_eq (by first | rfl | with_unfolding_all rfl)) (by first | rfl | decide | with_unfolding_all rfl) (fun s1 IC => ?_) rfl rfl rfl
  obtain ⟨h1, tk1, rfl⟩ := IC.toInCall.same
  have kp : ∀ b o, s.heap.get? b = some o → h1.get? b = some o := IC.toInCall.keep
  have ns := IC.toInCall.ns
  have X1 : K.In h1 := X.keeps kp
  have gx1 := kp _ _ gx
  show wpAny _ _ (execs _ _) _ _ _
  refine wpAny_execs_cons (plainObj_wpAny_Assign_Attribute ?_)
  refine localC (v := v) ns (by first | rfl | with_unfolding_all rfl | kernel_rfl) (localC (v := .ref x) ns (by first | rfl | with_unfolding_all rfl | kernel_rfl) ?_)
  refine set_plain X1 (ox := bareX C t0) (od := none) ⟨gx1, rfl, rfl, trivial⟩ T.stores ?_
  refine num_store X1 gx1 T.over T.dict T.noGiven (fun h3 tk3 dx k3 dn dne gx3 ns3 => ?_)
  show wpAny _ _ (execs _ _) _ _ _
  have z : s.heap.objs.size < h1.objs.size := ns.lt
  exact wpAny_execs_nil (go h3 tk3 dx (fun b o hb e => k3 b o hb (kp b o e)) gx3 (Nat.le_of_lt (Nat.lt_of_lt_of_le z dn)) dne ns3)
/-- InvalidNumber(v) -/
theorem num_call {s : Shared} (T : NumTxt K mg C i0) {v : Value} (X : K.In s.heap) (lim : s.heap.NoLimit) (room : A.depth + 1 < recursionLimit)
    (go : ∀ h' tk e d oe, (∀ b o, s.heap.get? b = some o → h'.get? b = some o) → s.heap.objs.size ≤ e → h'.get? e = some oe → (∃ t0, oe = withX C t0 d) → s.heap.objs.size ≤ d → d ≠ e →
      h'.Ns1 d (fun y => if y = "given" then some v else none) → R (.ok (.ret (.ref e))) { s with heap := h', toks := tk }) :
    codeAny (model prog w) A (.call (.ref C) ⟨[v], []⟩) R s := by
  obtain ⟨nm, N', qn, bs, bm, hdct, sn, sub, ab, col, dd, k0, k1, k2, k3, k5, hC, hT⟩ := excInit_of X T.made
  obtain ⟨hp, g, dr, tk, os⟩ := s
  have kp : ∀ b o, hp.get? b = some o → ((hp.push (kdv_tup [v])).push (excO C hp.objs.size)).get? b = some o := fun b o e => Heap.get?_push_of_some _ (Heap.get?_push_of_some _ e)
  have get1 : ((hp.push (kdv_tup [v])).push (excO C hp.objs.size)).get? (hp.objs.size + 1) = some (bareX C hp.objs.size) := by heap_get
  refine call_own F.excBase_IndexError hT hC (looks_findIn X T.inits) (fun self => bind_fn X self T.isdef) (one_fits v) ?_
  refine num_init (s := ⟨(hp.push (kdv_tup [v])).push (excO C hp.objs.size), g, dr, tk, os⟩) T (X.keeps kp) (lim.keeps kp) get1 ?_ fun h' tk' dx k' gx dn dne ns => ?_
  · show A.depth + 1 < recursionLimit
    exact room
  · have old : ∀ b o, hp.get? b = some o → h'.get? b = some o := fun b o e => k' b o (Nat.ne_of_lt (Nat.lt_succ_of_lt (Heap.lt_size e))) (kp b o e)
    have z : hp.objs.size + 1 + 1 ≤ dx := by
      have q := dn
      rw [Heap.size_push, Heap.size_push] at q
      exact q
    exact ⟨rfl, go h' tk' (hp.objs.size + 1) dx _ old (Nat.le_succ _) gx ⟨_, rfl⟩ (Nat.le_trans (Nat.le_trans (Nat.le_succ _) (Nat.le_succ _)) z) dne ns⟩
end
end K7X
namespace K7
open PySem PySem.Spec PyProof.Rows L2
theorem relO_given {v : V} {u : Value} (r : RelV v u) (f : Str) : RelO (List.lookup f [(("given" : Str), v)]) (if f = "given" then some u else none) := by
  by_cases hf : f = "given"
  · subst hf
    rw [if_pos rfl, show List.lookup ("given" : Str) [(("given" : Str), v)] = some v by simp [List.lookup]]
    exact r
  · have e : (f == ("given" : Str)) = false := by simpa using hf
    rw [if_neg hf, show List.lookup f [(("given" : Str), v)] = none by simp [List.lookup, e]]
    trivial
section
variable {X : Cx} {C i0 : Addr}
/-- what is asked of InvalidNumber(e) -/
def tMkNum (C : Addr) (ta : TA) : L2.St → Hp → XK → Prop := fun σ H Q => ta σ H fun vs H1 => ∃ v, vs = [v] ∧ ∀ d, H1 d = none → Q (.ref C) (some d) (upd H1 d (.xd [(("given" : Str), v)]))
theorem pmk_num {a : Expr} {ta : TA} {p pos : Pos} {k : Nat} (T : K7X.NumTxt X.K X.mg C i0) (hr : Room k X.A) (ha : PA X [a] ta) (hg : Gl X "InvalidNumber" := by rfl)
    (he : starEach (a :: []) X.env = (false, eval a X.env) :: starEach [] X.env := by rfl) (hpl : (backTo pos (starEach [] X.env)).any (·.1) = false := by rfl) :
    PMk X (.Call (.Name "InvalidNumber" p) [a] [] pos) (tMkNum C ta) := by
  intro pins s σ H Q I h
  refine wpAny_Call_Name_kw (ld_glob I hg T.named ?_)
  refine PySem.W.callWith_K (h₀ := X.base) I.ok.mod.kin T.keepC (thn (ha.run pos pins s σ H _ I h) fun us s1 hh => ?_) he hpl
  obtain ⟨vs, H1, I1, r1, v, rfl, q1⟩ := hh
  refine ⟨I1.kIn, ?_⟩
  obtain ⟨v', rfl, rv⟩ := Vals.one r1
  show wpAny _ _ (call (.ref C) [v']) _ _ _
  have lim := I1.nolimit
  obtain ⟨hp, g, dr, tk, os⟩ := s1
  refine wpAny_call (K7X.num_call T I1.kIn lim (by have := hr.dp; omega) fun h' tk' e d oe kp en ge ho dn de ns => ?_)
  show MkP X pins σ Q (.ref e) ⟨h', g, dr, tk', os⟩
  obtain ⟨t0, rfl⟩ := ho
  obtain ⟨G, g1, g2⟩ := restrict h' fun b => decide (b ≠ e)
  have gk : ∀ b, b ≠ e → G.get? b = h'.get? b := fun b hb => g1 b (decide_eq_true hb)
  have g0 : G.get? e = none := g2 e (by simp)
  have old : ∀ b o, hp.get? b = some o → G.get? b = some o := fun b o q => (gk b (Nat.ne_of_lt (Nat.lt_of_lt_of_le (Heap.lt_size q) en))).trans (kp b o q)
  have ob : ObjOk X.prog X.w (upd H1 d (.xd [(("given" : Str), v)])) G d (.xd [(("given" : Str), v)]) := ⟨_, ns.at (fun o q => (gk d de).trans q), fun f => relO_given rv f⟩
  have J : Inv X pins σ (upd H1 d (.xd [(("given" : Str), v)])) ⟨G, g, dr, tk', os⟩ := I1.laid (t' := tk') old dn ob
  refine ⟨e, _, _, ⟨G, g, dr, tk', os⟩, _, .ref C, some d, rfl, J, fun b o q => ?_, g0, ge, ⟨rfl, rfl⟩, rfl, rfl, ?_, rfl, I1.bare, raises_own T.isExc T.isCls, q1 d (I1.hok.fresh dn)⟩
  · by_cases hb : b = e
    · have q' : G.get? b = some o := q
      rw [hb, g0] at q'; cases q'
    · exact (gk b hb).symm.trans q
  · rw [upd_ne (Ne.symm de)]
    exact I1.hok.fresh en
/-- raise InvalidNumber(e) -/
theorem ps_raiseNum {a : Expr} {ta : TA} {W : WX} {p pos pos2 : Pos} {k : Nat} (hc : X.calm = true) (T : K7X.NumTxt X.K X.mg C i0) (hr : Room k X.A) (tk : Takes X W) (ha : PA X [a] ta) (hg : Gl X "InvalidNumber" := by rfl)
    (he : starEach (a :: []) X.env = (false, eval a X.env) :: starEach [] X.env := by rfl) (hpl : (backTo pos (starEach [] X.env)).any (·.1) = false := by rfl) :
    PS X (.Raise (some (.Call (.Name "InvalidNumber" p) [a] [] pos)) none pos2) (fun _ σ H => tMkNum C ta σ H fun cls d H' => W cls d σ H') := ps_raise hc tk (pmk_num T hr ha hg he hpl)
/-- error.given, within the suite of the error at a -/
def tGiven (C a : Addr) (cls : Value) (d : Option Addr) (te : TE) : TE := fun σ H Q => te σ H fun x H1 => x = .ref a ∧ cls = .ref C ∧ ∃ (dd : Addr) (v : V), d = some dd ∧ H1 dd = some (.xd [(("given" : Str), v)]) ∧ Q v H1
theorem pe_given {a : Addr} {oe : Obj} {cls : Value} {d : Option Addr} {pn : List (Addr × Obj)} {e : Expr} {te : TE} {pos : Pos} (T : K7X.NumTxt X.K X.mg C i0) (hz : Zc cls d oe) (hf : ∃ vs, oe.data = .fields vs) (he : PE (X.suite a ((a, oe) :: pn)) e te)
    (hb : attributeBase e "given" X.env (eval e X.env) = eval e X.env := by rfl) : PE (X.suite a ((a, oe) :: pn)) (.Attribute e "given" pos) (tGiven C a cls d te) := by
  refine ⟨fun pins s σ H Q I h => ?_⟩
  refine attr_of hb (thn (he.run pins s σ H _ I h) fun u s1 hh => ?_)
  obtain ⟨x, H1, I1, rx, rfl, rfl, dd, v, rfl, ea, q⟩ := hh
  obtain rfl : u = Value.ref a := rx
  obtain ⟨ga, _⟩ := I1.pin (a, oe) (List.mem_append_left _ List.mem_cons_self)
  obtain ⟨vs, hd⟩ := hf
  obtain ⟨mA, hns, rel⟩ := (show ObjOk X.prog X.w H1 s1.heap dd (.xd [(("given" : Str), v)]) from I1.hok dd _ ea)
  obtain ⟨od, ho, hl⟩ := lookIn_ns hns
  have l : List.lookup ("given" : Str) [(("given" : Str), v)] = some v := by simp [List.lookup]
  obtain ⟨u, hu, ru⟩ := RelO.some_of (v := v) (o := mA "given") (by rw [← l]; exact rel "given")
  have J : PySem.W.InstAt s1.heap a oe C (some od) := ⟨ga, hz.1, by unfold PySem.W.notCls; rw [hd] <;> rfl, by rw [hz.2]; exact ho⟩
  exact HandSPX.exc_get I1.kIn J T.reads T.reads2 T.isExc (PySem.W.findObj_own T.dict T.noGiven rfl (by rw [hl, hu])) (handed_of ru) ⟨v, H1, I1.tok _, ru, q⟩
end
end K7
namespace K7
open PySem PySem.Spec PyProof.Rows L2 RZ
theorem atI_nat {α : Type} {xs : List α} {j : Nat} {x : α} (h : xs[j]? = some x) : atI xs ((j : Nat) : Int) = some x := by
  have hl := (List.getElem?_eq_some_iff.mp h).1
  unfold atI ixN
  rw [if_pos (by omega), if_pos (by omega), Int.toNat_natCast]
  exact h
theorem ixN_nat {n j : Nat} (h : j < n) : ixN n ((j : Nat) : Int) = some j := by
  unfold ixN
  rw [if_pos (by omega), if_pos (by omega), Int.toNat_natCast]
theorem iV_len (L : List Int) : (iV L).length = L.length := List.length_map ..
theorem iV_get {L : List Int} {j : Nat} {x : Int} (h : L[j]? = some x) : (iV L)[j]? = some (.int x) := by rw [List.getElem?_map, h]; rfl
theorem iV_getD {L : List Int} {j : Nat} (h : j < L.length) : (iV L)[j]? = some (.int (L.getD j 0)) := by
  refine iV_get ?_
  rw [List.getD_eq_getElem?_getD, List.getElem?_eq_getElem h]
  rfl
theorem iV_set (L : List Int) (j : Nat) (x : Int) : (iV L).set j (.int x) = iV (L.set j x) := by rw [iV, iV, List.map_set]
theorem getD_mem {L : List Int} {j : Nat} (h : j < L.length) : L.getD j 0 ∈ L := by
  rw [List.getD_eq_getElem?_getD, List.getElem?_eq_getElem h]
  exact List.getElem_mem h
theorem sg_small (n : Nat) : -(2 ^ 64) < sg n ∧ sg n < 2 ^ 64 := by
  unfold sg
  split <;> decide
def spWF : Sp := fun vs H Q _ => ∃ (a : Addr) (S : List Int) (size : Nat) (c : Int), vs = [.ref a, .int (size : Int), .int c] ∧ H a = some (.lst (iV S)) ∧ 1 ≤ size ∧ size ≤ 100 ∧ 1 ≤ S.length ∧ S.length ≤ 100 ∧ wfOk S size c = true ∧
  ∀ H' p, Same H H' → H p = none → H' p = some (.lst (iV (wf S size c))) → Q (.ref p) H'
theorem scWF : FnScope ["series", "size", "count", "sign", "exponent", "found", "number", "many", "at"] ["series", "size", "count"] (defScope sWF) := ⟨rfl, rfl, rfl, by decide +kernel, rfl, by decide +kernel, by decide +kernel⟩
section
variable {P : Program} {w : World} {K : PySem.W.Frag} {mg : Str → Option Value} {base : Heap}
theorem ok_wf {f : Addr} {fd : FuncData} (F : Fun K "_with_factor" "_with_factor" sWF f fd) (T : Txt K mg) : FnOk P w K mg base CX0 1 f fd ["series", "size", "count"] spWF := by
  refine F.ok scWF (fun vs H Q E h => ?_) (fun cdv A outer s H vs Q E hr h => ?_)
  · obtain ⟨a, S, size, c, rfl, _⟩ := h; rfl
  obtain ⟨a, S, size, c, rfl, ha, z1, z2, l1, l2, ok, k⟩ := h
  refine ⟨_, C8.pss_cut (ps_asg (pe_ifExp (pt_cmpR op_eq (pe_op op_mod (pv 1) pe_int) pe_int (nomark _)) (pe_tup (pa_cons pe_int (pa_cons (pv 2) pa_nil))) (pe_tup (pa_cons (pe_un un_neg pe_int) (pa_cons (pe_un un_neg (pv 2)) pa_nil))))
      (pg_tup (by rfl) (pgs_cons (pg_name (i := 3) scWF.nd rfl (.inl rfl)) (pgs_cons (pg_name (i := 4) scWF.nd rfl (.inl rfl)) pgs_nil))))
    (pss_cons (ps_set (i := 5) scWF.nd rfl (.inl rfl) (pe_callTy call_list_of (by rfl) T.list bootList (pa_cons (pv 0) pa_nil)))
    (pss_cons (ps_set (i := 6) scWF.nd rfl (.inl rfl) pe_int)
    (pss_cons (ps_for PassesOwn.never rfl (pi_range2 rfl T.range (pa_cons pe_int (pa_cons (pe_op op_add (pe_op op_fdiv (pe_op op_sub (pe_callB call_len_seq (by rfl) T.len PySem.boot_len (pa_cons (pv 0) pa_nil)) pe_int) (pv 1)) pe_int) pa_nil))) (pg_name (i := 7) scWF.nd rfl (.inl rfl))
      (pss_cons (ps_set (i := 6) scWF.nd rfl (.inl rfl) (pe_op op_fdiv (pe_op op_mulW (pe_op op_mul (pv 3) (pv 6)) (pe_op op_add (pe_op op_sub (pv 4) (pv 7)) pe_int)) (pv 7)))
      (pss_one (ps_for PassesOwn.never rfl (pi_range2 rfl T.range (pa_cons (pe_op op_mul (pv 7) (pv 1)) (pa_cons (pe_callB call_len_seq (by rfl) T.len PySem.boot_len (pa_cons (pv 0) pa_nil)) pa_nil))) (pg_name (i := 8) scWF.nd rfl (.inl rfl))
        (pss_one (ps_asg (pe_op op_add (pe_ix ix_list (pv 5) (pv 8) (fun _ _ => rfl)) (pe_op op_mulW (pv 6) (pe_ix ix_list (pv 0) (pe_op op_sub (pv 8) (pe_op op_mul (pv 7) (pv 1))) (fun _ _ => rfl)))) (pg_sub (pv 5) (pv 8) set_list)))))))
    (pss_one (ps_ret (pv 5)))))), ?_⟩
  have ls : (iV S).length = S.length := iV_len S
  refine ⟨fun σ' H' => σ' = [some (.ref a), some (.int (size : Int)), some (.int c), some (.int (sg size)), some (.int (ex size c)), none, none, none, none] ∧ Same H H', ?_, ?_⟩
  · refine ⟨_, rfl, _, _, rfl, rfl, (by show (0 : Int) < 2; decide), rfl, _, rfl, ite2 (fun b => ?_) (fun b => ?_)⟩
    · have b := V.int.inj (of_decide_eq_true b)
      have b' : size % 2 = 1 := by omega
      refine ⟨_, rfl, by show 2 ≤ sizeLine; decide, fun t ht => ⟨t, _, rfl, SqT.of upd_same, rfl, _, _, rfl, _, _, rfl, rfl, ?_, Same.new ht⟩⟩
      unfold sg ex
      rw [if_pos b', if_pos b']
      rfl
    · have b' : ¬ size % 2 = 1 := fun q => b (decide_eq_true (congrArg V.int (by omega)))
      refine ⟨_, rfl, _, rfl, _, rfl, by show 2 ≤ sizeLine; decide, fun t ht => ⟨t, _, rfl, SqT.of upd_same, rfl, _, _, rfl, _, _, rfl, rfl, ?_, Same.new ht⟩⟩
      unfold sg ex
      rw [if_neg b', if_neg b']
      rfl
  rintro _ Hm ⟨rfl, sm⟩
  have ham := sm _ _ ha
  refine ⟨_, rfl, a, _, rfl, .inl (SqL.of ham), fun p hp => ?_⟩
  have hpH : H p = none := by
    cases e : H p with
    | none => rfl
    | some o => rw [sm p o e] at hp; cases hp
  have s0 : Same H (upd Hm p (.lst (iV S))) := sm.trans (Same.new hp)
  have dv : ((S.length : Int) - 1) / (size : Int) = (((S.length - 1) / size : Nat) : Int) := by
    rw [show ((S.length : Int) - 1) = ((S.length - 1 : Nat) : Int) by omega, Int.natCast_ediv]
  have top : (S.length - 1) / size ≤ 100 := Nat.le_trans (Nat.div_le_self _ _) (by omega)
  obtain ⟨n, hn⟩ : ∃ n, (S.length - 1) / size = n := ⟨_, rfl⟩
  rw [hn] at dv top
  refine ⟨_, rfl, a, _, rfl, .inl (SqL.of (s0 _ _ ha)), _, _, rfl, rfl, _, rfl, _, _, rfl, rfl, ⟨by omega, by omega⟩, _, _, rfl, rfl, _, _, rfl, ?_, ?_⟩
  · rw [ls, dv]
    exact ⟨by omega, by omega, by omega, by omega⟩
  rw [ls, dv]
  have en : (((n : Nat) : Int) + 1 - 1).toNat = n := by omega
  rw [en]
  refine for_it (walk_range (lo := 1) (n := n)) (fun i σ H' => (∃ o7 o8, σ = [some (.ref a), some (.int (size : Int)), some (.int c), some (.int (sg size)), some (.int (ex size c)), some (.ref p), some (.int (bn (sg size) (ex size c) i)), o7, o8]) ∧ H' p = some (.lst (iV (wfAt S size (sg size) (ex size c) i))) ∧ Same H H')
    ⟨⟨none, none, rfl⟩, upd_same, s0⟩ (fun _ _ _ _ _ => trivial) (fun i x σ H0 H1 hi q y => ?_) fun σ H1 q => ?_
  · obtain ⟨⟨o7, o8, rfl⟩, hp1, s1⟩ := q
    obtain ⟨rfl, rfl⟩ := y
    have e1 : (1 : Int) + (i : Int) = ((i + 1 : Nat) : Int) := by omega
    change gName 7 (V.int (1 + (i : Int))) _ _ _
    rw [e1]
    have hi' : i < (S.length - 1) / size := by omega
    have okn := wfOk_num ok hi'
    have ha1 := s1 _ _ ha
    have lim : (i + 1) * size ≤ S.length - 1 := Nat.le_trans (Nat.mul_le_mul_right size hi') (Nat.div_mul_le_self _ _)
    have eo : (((i + 1 : Nat) : Int)) * (size : Int) = (((i + 1) * size : Nat) : Int) := by rw [Int.natCast_mul]
    have i100 : i + 1 ≤ 100 := by omega
    refine ⟨_, rfl, _, rfl, _, _, rfl, rfl, .inl (sg_small size), _, rfl, _, rfl, _, _, rfl, rfl, _, _, rfl, rfl, _, _, rfl, rfl, okn, _, rfl, _, _, rfl, rfl, ⟨by omega, by omega⟩, ?_⟩
    refine ⟨_, rfl, _, rfl, _, _, rfl, rfl, .inl ⟨by omega, by omega⟩, _, rfl, a, _, rfl, .inl (SqL.of ha1), _, _, rfl, ⟨by rw [eo]; omega, by rw [eo]; omega, by omega, by omega⟩, ?_⟩
    refine for_it (walk_range (lo := ((i + 1 : Nat) : Int) * (size : Int)) (n := (((iV S).length : Int) - ((i + 1 : Nat) : Int) * (size : Int)).toNat)) (fun j σ H' => (∃ o8, σ = [some (.ref a), some (.int (size : Int)), some (.int c), some (.int (sg size)), some (.int (ex size c)), some (.ref p), some (.int (bn (sg size) (ex size c) (i + 1))), some (.int ((i + 1 : Nat) : Int)), o8]) ∧
        H' p = some (.lst (iV (addUp (wfAt S size (sg size) (ex size c) i) S ((i + 1) * size) (bn (sg size) (ex size c) (i + 1)) ((i + 1) * size + j)))) ∧ Same H H')
      ⟨⟨o8, rfl⟩, ?_, s1⟩ (fun _ _ _ _ _ => trivial) (fun j x σ H2 H3 hj q y => ?_) fun σ H2 q => ?_
    · rw [addUp_start _ _ _ _ _ (by omega)]
      exact hp1
    · obtain ⟨⟨o8, rfl⟩, hp2, s2⟩ := q
      obtain ⟨rfl, rfl⟩ := y
      have ha2 := s2 _ _ ha
      have lw := wfAt_len S size (sg size) (ex size c) i
      have e2 : ((i + 1 : Nat) : Int) * (size : Int) + (j : Int) = (((i + 1) * size + j : Nat) : Int) := by rw [eo]; omega
      rw [eo, ls] at hj
      change gName 8 (V.int (((i + 1 : Nat) : Int) * (size : Int) + (j : Int))) _ _ _
      rw [e2]
      have hj' : (i + 1) * size + j < S.length := by omega
      have at1 : atI (iV (addUp (wfAt S size (sg size) (ex size c) i) S ((i + 1) * size) (bn (sg size) (ex size c) (i + 1)) ((i + 1) * size + j))) (((i + 1) * size + j : Nat) : Int) = some (.int ((wfAt S size (sg size) (ex size c) i).getD ((i + 1) * size + j) 0)) :=
        atI_nat (iV_get (addUp_at _ _ _ _ _ (by omega)))
      have at2 : atI (iV S) ((j : Nat) : Int) = some (.int (S.getD j 0)) := atI_nat (iV_getD (by omega))
      have at3 : atI (iV S) ((((i + 1) * size + j : Nat) : Int) - ((i + 1 : Nat) : Int) * (size : Int)) = some (.int (S.getD j 0)) := by
        rw [eo, show ((((i + 1) * size + j : Nat) : Int)) - (((i + 1) * size : Nat) : Int) = ((j : Nat) : Int) by omega]
        exact at2
      refine ⟨_, rfl, _, rfl, p, _, _, _, rfl, rfl, SqL.of hp2, at1, _, rfl, _, rfl, _, rfl, _, rfl, _, rfl, _, _, rfl, rfl, .inl ⟨by omega, by omega⟩, _, _, rfl, rfl, a, _, _, _, rfl, rfl, SqL.of ha2, at3, ?_⟩
      refine ⟨_, _, rfl, rfl, wfOk_at ok hi' (getD_mem (by omega)), _, _, rfl, rfl, _, rfl, _, rfl, p, _, _, (i + 1) * size + j, rfl, rfl, hp2, ixN_nat (by rw [iV_len, addUp_len]; omega), ⟨_, rfl⟩, ?_, Same.back s2 hpH⟩
      rw [upd_same, iV_set]
      have st := addUp_step (wfAt S size (sg size) (ex size c) i) S ((i + 1) * size) (bn (sg size) (ex size c) (i + 1)) ((i + 1) * size + j) (by omega) (by omega)
      rw [show (i + 1) * size + j - (i + 1) * size = j by omega] at st
      rw [st]
      rfl
    · obtain ⟨⟨o8, rfl⟩, hp2, s2⟩ := q
      refine ⟨⟨_, _, rfl⟩, ?_, s2⟩
      rw [hp2, show (i + 1) * size + (((iV S).length : Int) - ((i + 1 : Nat) : Int) * (size : Int)).toNat = S.length by rw [eo, ls]; omega]
      rfl
  · obtain ⟨⟨o7, o8, rfl⟩, hp1, s1⟩ := q
    refine ⟨_, rfl, k H1 p s1 hpH ?_⟩
    rw [hp1]
    unfold wf
    rw [hn]
end
end K7
namespace K7
open PySem PySem.Spec PyProof.Rows L2 RZ
theorem none_at {H H' : Hp} {p : Addr} (s : Same H H') (h : H' p = none) : H p = none := by
  cases e : H p with
  | none => rfl
  | some o =>
    rw [s p o e] at h
    cases h
def spOne : Sp := fun vs H Q _ => ∃ N : Nat, vs = [.int (N : Int)] ∧ N ≤ 900 ∧ ∀ H' p, Same H H' → H p = none → H' p = some (.lst (iV (one N))) → Q (.ref p) H'
def spCo (K : PySem.W.Frag) : Sp := fun vs H Q _ => ∃ (a : Addr) (S : List Int), vs = [.ref a] ∧ (SqL K H a (iV S) ∨ SqT K H a (iV S)) ∧ 1 ≤ S.length ∧ S.length ≤ 100 ∧ countsOk S = true ∧
  ∀ H' p, Same H H' → H p = none → H' p = some (.tup (iV (countsOf S))) → Q (.ref p) H'
def spSerL : Sp := fun vs H Q _ => ∃ (a : Addr) (C : List Int) (N : Nat), vs = [.ref a, .int (N : Int)] ∧ H a = some (.lst (iV C)) ∧ C.length ≤ 90 ∧ N ≤ 90 ∧ seriesOk C N = true ∧
  ∀ H' p, Same H H' → H p = none → H' p = some (.tup (iV (seriesOf C N))) → Q (.ref p) H'
def spSerT (K : PySem.W.Frag) : Sp := fun vs H Q _ => ∃ (a : Addr) (C : List Int) (N : Nat), vs = [.ref a, .int (N : Int)] ∧ SqT K H a (iV C) ∧ C.length ≤ 90 ∧ N ≤ 90 ∧ seriesOk C N = true ∧
  ∀ H' p, Same H H' → H p = none → H' p = some (.tup (iV (seriesOf C N))) → Q (.ref p) H'
theorem scOne : FnScope ["most"] ["most"] (defScope sOne) := ⟨rfl, rfl, rfl, by decide +kernel, rfl, by decide +kernel, by decide +kernel⟩
theorem scCo : FnScope ["series", "rest", "counts", "size", "count"] ["series"] (defScope sCtsOf) := ⟨rfl, rfl, rfl, by decide +kernel, rfl, by decide +kernel, by decide +kernel⟩
theorem scSer : FnScope ["counts", "most", "series", "at", "count"] ["counts", "most"] (defScope sSerOf) := ⟨rfl, rfl, rfl, by decide +kernel, rfl, by decide +kernel, by decide +kernel⟩
section
variable {P : Program} {w : World} {K : PySem.W.Frag} {mg : Str → Option Value} {base : Heap} {fW fO : Addr} {dW dO : FuncData}
theorem ok_one {f : Addr} {fd : FuncData} (F : Fun K "one_series" "one_series" sOne f fd) : FnOk P w K mg base CX0 1 f fd ["most"] spOne := by
  refine F.ok scOne (fun vs H Q E h => ?_) (fun cdv A outer s H vs Q E hr h => ?_)
  · obtain ⟨N, rfl, _⟩ := h; rfl
  obtain ⟨N, rfl, hN, k⟩ := h
  refine ⟨_, pss_one (ps_ret (pe_op op_cat (pe_lst (pa_cons pe_int pa_nil)) (pe_op op_rep (pe_lst (pa_cons pe_int pa_nil)) (pv 0)))), ?_⟩
  refine ⟨by show 1 ≤ sizeLine; decide, fun p hp => ⟨by show 1 ≤ sizeLine; decide, fun q hq => ⟨_, rfl, q, _, _, rfl, rfl, upd_same, by omega, by omega, ?_, fun r hr => ?_⟩⟩⟩
  · show 1 * (N : Int).toNat ≤ sizeLine
    exact Nat.le_of_lt (small1000 (by omega))
  have sp : Same H (upd H p (.lst [.int 1])) := Same.new hp
  have sq : Same (upd H p (.lst [.int 1])) (upd (upd H p (.lst [.int 1])) q (.lst [.int 0])) := Same.new hq
  have sr := Same.new (o := .lst (List.replicate (N : Int).toNat [V.int 0]).flatten) hr
  have e : (List.replicate (N : Int).toNat [V.int 0]).flatten = iV (List.replicate N 0) := by
    rw [Int.toNat_natCast, iV, List.map_replicate]
    have h : ∀ n : Nat, (List.replicate n [V.int 0]).flatten = List.replicate n (V.int 0) := fun n => by
      induction n with
      | zero => rfl
      | succ n ih => rw [List.replicate_succ, List.flatten_cons, ih, List.replicate_succ]; rfl
    exact h N
  refine ⟨p, r, _, _, rfl, rfl, sr _ _ (sq _ _ upd_same), upd_same, ?_, fun t ht => k _ t ((sp.trans (sq.trans sr)).trans (Same.new ht)) (none_at (sp.trans (sq.trans sr)) ht) ?_⟩
  · rw [e, iV_len, List.length_replicate]
    exact Nat.le_of_lt (small1000 (by show 1 + N ≤ 1000; omega))
  · rw [upd_same, e]
    rfl
theorem ok_co {f : Addr} {fd : FuncData} (F : Fun K "_counts_of" "_counts_of" sCtsOf f fd) (T : Txt K mg) (gW : mg "_with_factor" = some (.ref fW)) (kW : PySem.W.keepIn K (.ref fW) = true) (bW : Binds K dW ["series", "size", "count"] [])
    (FW : FnOk P w K mg base CX0 1 fW dW ["series", "size", "count"] spWF) : FnOk P w K mg base CX0 2 f fd ["series"] (spCo K) := by
  refine F.ok scCo (fun vs H Q E h => ?_) (fun cdv A outer s H vs Q E hr h => ?_)
  · obtain ⟨a, S, rfl, _⟩ := h; rfl
  obtain ⟨a, S, rfl, ha, l1, l2, ok, k⟩ := h
  refine ⟨_, pss_cons (ps_set (i := 1) scCo.nd rfl (.inl rfl) (pe_callTy call_list_of (by rfl) T.list bootList (pa_cons (pv 0) pa_nil)))
    (pss_cons (ps_set (i := 2) scCo.nd rfl (.inl rfl) (pe_lst pa_nil))
    (pss_cons (ps_for PassesOwn.never rfl (pi_range2 rfl T.range (pa_cons pe_int (pa_cons (pe_callB call_len_seq (by rfl) T.len PySem.boot_len (pa_cons (pv 1) pa_nil)) pa_nil))) (pg_name (i := 3) scCo.nd rfl (.inl rfl))
      (pss_cons (ps_set (i := 4) scCo.nd rfl (.inl rfl) (pe_ix ix_list (pv 1) (pv 3) (fun _ _ => rfl)))
      (pss_cons (ps_expr (pe_bm PySem.F.plainAttrs_list PySem.F.slot_list_append PySem.F.type_list_append mt_append (pv 2) (pa_cons (pv 4) pa_nil)))
      (pss_one (ps_set (i := 1) scCo.nd rfl (.inl rfl) (pe_call FW hr (by rfl) gW kW bW .nil pass0 (pa_cons (pv 1) (pa_cons (pv 3) (pa_cons (pe_un un_neg (pv 4)) pa_nil)))))))))
    (pss_one (ps_ret (pe_callTy call_tuple_of (by rfl) T.tuple bootTuple (pa_cons (pv 2) pa_nil)))))), ?_⟩
  have ls : (iV S).length = S.length := iV_len S
  refine ⟨_, rfl, a, _, rfl, ha, fun r hr0 => ⟨by show 0 ≤ sizeLine; decide, fun c hc0 => ?_⟩⟩
  have sr := Same.new (o := .lst (iV S)) hr0
  have sc := Same.new (o := .lst []) hc0
  have ne : r ≠ c := ne_of_none upd_same hc0
  have hcH : H c = none := none_at sr hc0
  refine ⟨_, rfl, r, _, rfl, .inl (SqL.of (sc _ _ upd_same)), _, _, rfl, ⟨by omega, by omega, by omega, by omega⟩, ?_⟩
  refine for_it (walk_range (lo := 1) (n := (((iV S).length : Int) - 1).toNat)) (fun i σ H' => (∃ r' o3 o4, σ = [some (.ref a), some (.ref r'), some (.ref c), o3, o4] ∧ H' r' = some (.lst (iV (coRest S i))) ∧ r' ≠ c ∧ H r' = none) ∧ H' c = some (.lst (iV ((List.range i).map (coAt S)))) ∧ Same H H')
    ⟨⟨r, none, none, rfl, sc _ _ upd_same, ne, hr0⟩, upd_same, sr.trans sc⟩ (fun _ _ _ _ _ => trivial) (fun i x σ H0 H1 hi q y => ?_) fun σ H1 q => ?_
  · obtain ⟨⟨r', o3, o4, rfl, hr1, ne1, hn1⟩, hc1, s1⟩ := q
    obtain ⟨rfl, rfl⟩ := y
    have e1 : (1 : Int) + (i : Int) = ((i + 1 : Nat) : Int) := by omega
    change gName 3 (V.int (1 + (i : Int))) _ _ _
    rw [e1]
    have lr := coRest_len S i
    refine ⟨_, rfl, _, rfl, r', _, _, _, rfl, rfl, SqL.of hr1, atI_nat (iV_getD (by omega)), _, rfl, .inl ⟨rfl, _, SqL.of hc1⟩, _, rfl, c, _, _, rfl, rfl, hc1, small1000 (by rw [iV_len, List.length_map, List.length_range]; omega), ?_⟩
    have hr2 : upd H1 c (.lst (iV ((List.range i).map (coAt S)) ++ [.int ((coRest S i).getD (i + 1) 0)])) r' = some (.lst (iV (coRest S i))) := by rw [upd_ne ne1]; exact hr1
    refine ⟨_, rfl, _, rfl, _, rfl, _, rfl, r', coRest S i, i + 1, _, rfl, hr2, by omega, by omega, by omega, by omega, countsOk_at ok (by omega), fun H2 p s2 hp hp2 => ?_⟩
    have sb : Same H H2 := (Same.back s1 hcH).trans s2
    have hpc : p ≠ c := fun z => by rw [z, upd_same] at hp; cases hp
    refine ⟨⟨p, _, _, rfl, hp2, hpc, none_at (Same.back s1 hcH) hp⟩, ?_, sb⟩
    rw [s2 _ _ upd_same, List.range_succ]
    simp only [iV, List.map_append]
    rfl
  · obtain ⟨⟨r', o3, o4, rfl, hr1, ne1, hn1⟩, hc1, s1⟩ := q
    refine ⟨_, rfl, c, _, rfl, .inl ⟨SqL.of hc1, fun l hl => k _ l (s1.trans (Same.new hl)) (none_at s1 hl) ?_⟩⟩
    rw [upd_same, show (((iV S).length : Int) - 1).toNat = S.length - 1 by omega]
    rfl
theorem ok_serL {f : Addr} {fd : FuncData} (F : Fun K "_series_of" "_series_of" sSerOf f fd) (T : Txt K mg) (gW : mg "_with_factor" = some (.ref fW)) (kW : PySem.W.keepIn K (.ref fW) = true) (bW : Binds K dW ["series", "size", "count"] [])
    (FW : FnOk P w K mg base CX0 1 fW dW ["series", "size", "count"] spWF) (gO : mg "one_series" = some (.ref fO)) (kO : PySem.W.keepIn K (.ref fO) = true) (bO : Binds K dO ["most"] [])
    (FO : FnOk P w K mg base CX0 1 fO dO ["most"] spOne) : FnOk P w K mg base CX0 2 f fd ["counts", "most"] spSerL := by
  refine F.ok scSer (fun vs H Q E h => ?_) (fun cdv A outer s H vs Q E hr h => ?_)
  · obtain ⟨a, C, N, rfl, _⟩ := h; rfl
  obtain ⟨a, C, N, rfl, ha, l1, l2, ok, k⟩ := h
  refine ⟨_, pss_cons (ps_set (i := 2) scSer.nd rfl (.inl rfl) (pe_call FO hr (by rfl) gO kO bO .nil pass0 (pa_cons (pv 1) pa_nil)))
    (pss_cons (ps_for PassesOwn.never rfl (pi_enum (by rfl) T.enumerate (pa_cons (pv 0) pa_nil)) (pg_tup (by rfl) (pgs_cons (pg_name (i := 3) scSer.nd rfl (.inl rfl)) (pgs_cons (pg_name (i := 4) scSer.nd rfl (.inl rfl)) pgs_nil)))
      (pss_one (ps_set (i := 2) scSer.nd rfl (.inl rfl) (pe_call FW hr (by rfl) gW kW bW .nil pass0 (pa_cons (pv 2) (pa_cons (pe_op op_add (pv 3) pe_int) (pa_cons (pv 4) pa_nil)))))))
    (pss_one (ps_ret (pe_callTy call_tuple_of (by rfl) T.tuple bootTuple (pa_cons (pv 2) pa_nil))))), ?_⟩
  refine ⟨_, rfl, N, rfl, by omega, fun H0 r s0 hr0 hr1 => ?_⟩
  have ha0 := s0 _ _ ha
  refine ⟨_, rfl, a, _, rfl, SqL.of ha0, ?_⟩
  refine for_it (walk_enum (xs := iV C)) (fun i σ H' => (∃ r' o3 o4, σ = [some (.ref a), some (.int (N : Int)), some (.ref r'), o3, o4] ∧ H' r' = some (.lst (iV (serAt C N i)))) ∧ Same H H')
    ⟨⟨r, none, none, rfl, hr1⟩, s0⟩ (fun _ _ H' _ q => SqL.of (q.2 _ _ ha)) (fun i x σ H1 H2 hi q y => ?_) fun σ H1 q => ?_
  · obtain ⟨⟨r', o3, o4, rfl, hr2⟩, s1⟩ := q
    obtain ⟨t, u, v, rfl, ht, rfl, hu, hv⟩ := y
    cases hu
    rw [iV_len] at hi
    have hv : (iV C)[i]? = some v := hv
    rw [iV_getD hi] at hv
    cases hv
    have st := Same.new (o := .tup [.int (i : Int), .int (C.getD i 0)]) ht
    have ls := serAt_len C N i
    refine ⟨t, _, rfl, SqT.of upd_same, rfl, _, _, rfl, _, _, rfl, rfl, ?_⟩
    refine ⟨_, rfl, _, rfl, _, _, rfl, rfl, _, rfl, r', serAt C N i, i + 1, _, rfl, st _ _ hr2, by omega, by omega, by omega, by omega, seriesOk_at ok hi, fun H3 p s3 hp hp3 => ?_⟩
    exact ⟨⟨p, _, _, rfl, hp3⟩, s1.trans (st.trans s3)⟩
  · obtain ⟨⟨r', o3, o4, rfl, hr2⟩, s1⟩ := q
    refine ⟨_, rfl, r', _, rfl, .inl ⟨SqL.of hr2, fun l hl => k _ l (s1.trans (Same.new hl)) (none_at s1 hl) ?_⟩⟩
    rw [upd_same, iV_len]
    rfl
theorem ok_serT {f : Addr} {fd : FuncData} (F : Fun K "_series_of" "_series_of" sSerOf f fd) (T : Txt K mg) (gW : mg "_with_factor" = some (.ref fW)) (kW : PySem.W.keepIn K (.ref fW) = true) (bW : Binds K dW ["series", "size", "count"] [])
    (FW : FnOk P w K mg base CX0 1 fW dW ["series", "size", "count"] spWF) (gO : mg "one_series" = some (.ref fO)) (kO : PySem.W.keepIn K (.ref fO) = true) (bO : Binds K dO ["most"] [])
    (FO : FnOk P w K mg base CX0 1 fO dO ["most"] spOne) : FnOk P w K mg base CX0 2 f fd ["counts", "most"] (spSerT K) := by
  refine F.ok scSer (fun vs H Q E h => ?_) (fun cdv A outer s H vs Q E hr h => ?_)
  · obtain ⟨a, C, N, rfl, _⟩ := h; rfl
  obtain ⟨a, C, N, rfl, ha, l1, l2, ok, k⟩ := h
  refine ⟨_, pss_cons (ps_set (i := 2) scSer.nd rfl (.inl rfl) (pe_call FO hr (by rfl) gO kO bO .nil pass0 (pa_cons (pv 1) pa_nil)))
    (pss_cons (ps_for PassesOwn.never rfl (pi_enumT (by rfl) T.enumerate (pa_cons (pv 0) pa_nil)) (pg_tup (by rfl) (pgs_cons (pg_name (i := 3) scSer.nd rfl (.inl rfl)) (pgs_cons (pg_name (i := 4) scSer.nd rfl (.inl rfl)) pgs_nil)))
      (pss_one (ps_set (i := 2) scSer.nd rfl (.inl rfl) (pe_call FW hr (by rfl) gW kW bW .nil pass0 (pa_cons (pv 2) (pa_cons (pe_op op_add (pv 3) pe_int) (pa_cons (pv 4) pa_nil)))))))
    (pss_one (ps_ret (pe_callTy call_tuple_of (by rfl) T.tuple bootTuple (pa_cons (pv 2) pa_nil))))), ?_⟩
  refine ⟨_, rfl, N, rfl, by omega, fun H0 r s0 hr0 hr1 => ?_⟩
  refine ⟨_, rfl, a, _, rfl, tupSame s0 ha, ?_⟩
  refine for_it (walk_enumT (xs := iV C)) (fun i σ H' => (∃ r' o3 o4, σ = [some (.ref a), some (.int (N : Int)), some (.ref r'), o3, o4] ∧ H' r' = some (.lst (iV (serAt C N i)))) ∧ Same H H')
    ⟨⟨r, none, none, rfl, hr1⟩, s0⟩ (fun _ _ H' _ q => tupSame q.2 ha) (fun i x σ H1 H2 hi q y => ?_) fun σ H1 q => ?_
  · obtain ⟨⟨r', o3, o4, rfl, hr2⟩, s1⟩ := q
    obtain ⟨t, u, v, rfl, ht, rfl, hu, hv⟩ := y
    cases hu
    rw [iV_len] at hi
    have hv : (iV C)[i]? = some v := hv
    rw [iV_getD hi] at hv
    cases hv
    have st := Same.new (o := .tup [.int (i : Int), .int (C.getD i 0)]) ht
    have ls := serAt_len C N i
    refine ⟨t, _, rfl, SqT.of upd_same, rfl, _, _, rfl, _, _, rfl, rfl, ?_⟩
    refine ⟨_, rfl, _, rfl, _, _, rfl, rfl, _, rfl, r', serAt C N i, i + 1, _, rfl, st _ _ hr2, by omega, by omega, by omega, by omega, seriesOk_at ok hi, fun H3 p s3 hp hp3 => ?_⟩
    exact ⟨⟨p, _, _, rfl, hp3⟩, s1.trans (st.trans s3)⟩
  · obtain ⟨⟨r', o3, o4, rfl, hr2⟩, s1⟩ := q
    refine ⟨_, rfl, r', _, rfl, .inl ⟨SqL.of hr2, fun l hl => k _ l (s1.trans (Same.new hl)) (none_at s1 hl) ?_⟩⟩
    rw [upd_same, iV_len]
    rfl
end
end K7
namespace K7
open PySem PySem.Spec PyProof.Rows L2 RZ
theorem take_filter {α : Type} {xs : List α} {i : Nat} {x : α} {p : α → Bool} (h : xs[i]? = some x) : (xs.take (i + 1)).filter p = (xs.take i).filter p ++ (if p x = true then [x] else []) := by
  rw [take_more h, List.filter_append, List.filter_cons, List.filter_nil]
def kvI (p : Int × Int) : Key × V := (Sum.inl p.1, .int p.2)
/-- over the items of a dict of ints that is locked -/
theorem lc_items {K : PySem.W.Frag} {d : Addr} {o : Obj} {parts : List (Int × Int)} {i j : Nat} {tt : TT} {te : TE} {vs : List Nat} {σ : L2.St} {H : Hp} {D : Addr} {Qd : Hp → Prop} (f : Int × Int → V) (p : Int × Int → Bool) (hD : H D = none) (hd0 : H d = some (.frz o (.dK (parts.map kvI)))) (ln : parts.length ≤ 900)
    (hw : ∀ x y : V, wipe (((wipe σ vs).set i (some x)).set j (some y)) vs = wipe σ vs)
    (ht : ∀ (k : Int × Int) (H1 : Hp) (Q : Bool → Hp → Prop), k ∈ parts → Same H H1 → Q (p k) H1 → tt (((wipe σ vs).set i (some (.int k.1))).set j (some (.int k.2))) H1 Q)
    (he : ∀ (k : Int × Int) (H1 : Hp) (Q : VK), k ∈ parts → p k = true → Same H H1 → Q (f k) H1 → te (((wipe σ vs).set i (some (.int k.1))).set j (some (.int k.2))) H1 Q)
    (hd : ∀ H', Same H H' → H' D = some (.lst ((parts.filter p).map f)) → Qd H') : LcW (Iti d o (parts.map kvI)) (gTup K 2 (gCons (gName i) (gCons (gName j) gNil))) tt te vs σ H D Qd := by
  refine lc_it (walk_items (kvs := parts.map kvI)) (fun n H' => Same H H' ∧ H' D = some (.lst (((parts.take n).filter p).map f))) ⟨Same.new hD, upd_same⟩ (fun _ H' _ q => q.1 _ _ hd0) (fun n x H1 H2 hn q y => ?_) fun H' q => ?_
  · obtain ⟨T, u, v, rfl, hT, rfl, hu, hv⟩ := y
    have hu : ((parts.map kvI)[n]?.map fun kv => kV kv.1) = some u := hu
    have hv : ((parts.map kvI)[n]?.map Prod.snd) = some v := hv
    rw [List.length_map] at hn
    have hk : parts[n]? = some parts[n] := List.getElem?_eq_getElem hn
    rw [List.getElem?_map, hk] at hu hv
    have hm : parts[n] ∈ parts := List.getElem_mem hn
    generalize parts[n] = k at *
    cases hu
    cases hv
    have s1 : Same H1 (upd H1 T (.tup [.int k.1, .int k.2])) := Same.new hT
    refine ⟨T, [.int k.1, .int k.2], rfl, SqT.of upd_same, rfl, .int k.1, [.int k.2], rfl, .int k.2, [], rfl, rfl, hw _ _, ht k _ _ hm (q.1.trans s1) ?_⟩
    cases c : p k with
    | true =>
      refine iteT (he k _ _ hm c (q.1.trans s1) ?_)
      have le := List.length_filter_le p (parts.take n)
      rw [List.length_take] at le
      refine ⟨((parts.take n).filter p).map f, s1 _ _ q.2, small1000 (by rw [List.length_map]; omega), Same.back (q.1.trans s1) hD, ?_⟩
      rw [upd_same, take_filter hk, c, if_pos rfl, List.map_append]
      rfl
    | false =>
      refine iteF ⟨q.1.trans s1, ?_⟩
      rw [take_filter hk, c, if_neg Bool.false_ne_true, List.append_nil]
      exact s1 _ _ q.2
  · refine hd H' q.1 ?_
    rw [q.2, List.length_map, List.take_length]
def spCts : Sp := fun vs H Q _ => ∃ (d : Addr) (parts : List (Int × Int)) (M : Nat), vs = [.ref d, .int (M : Int)] ∧ H d = some (.dK (parts.map kvI)) ∧ parts.length ≤ 50 ∧ M ≤ 60 ∧ (∀ p ∈ parts, 1 ≤ p.1 ∧ -(2 ^ 64) < p.2 ∧ p.2 < 2 ^ 64) ∧ countsOk (ctAt parts (M - 1) (M - 1)) = true ∧
  ∀ H' p, Same H H' → H p = none → H' p = some (.tup (iV (ctsTo parts M))) → Q (.ref p) H'
abbrev nCts : List Str := ["parts", "most", "series", "at", "size", "number"]
theorem scCts : FnScope nCts ["parts", "most"] (defScope sCtsTo) := ⟨rfl, rfl, rfl, by decide +kernel, rfl, by decide +kernel, by decide +kernel⟩
section
variable {P : Program} {w : World} {K : PySem.W.Frag} {mg : Str → Option Value} {base : Heap} {fC fO : Addr} {dC dO : FuncData}
theorem ok_cts {f : Addr} {fd : FuncData} (F : Fun K "_counts_to" "_counts_to" sCtsTo f fd) (T : Txt K mg) (gC : mg "_counts_of" = some (.ref fC)) (kC : PySem.W.keepIn K (.ref fC) = true) (bC : Binds K dC ["series"] [])
    (FC : FnOk P w K mg base CX0 2 fC dC ["series"] (spCo K)) (gO : mg "one_series" = some (.ref fO)) (kO : PySem.W.keepIn K (.ref fO) = true) (bO : Binds K dO ["most"] [])
    (FO : FnOk P w K mg base CX0 1 fO dO ["most"] spOne) : FnOk P w K mg base CX0 3 f fd ["parts", "most"] spCts := by
  refine F.ok scCts (fun vs H Q E h => ?_) (fun cdv A outer s H vs Q E hr h => ?_)
  · obtain ⟨a, C, N, rfl, _⟩ := h; rfl
  obtain ⟨d, parts, M, rfl, hd, l1, l2, hp, ok, k⟩ := h
  refine ⟨_, pss_cons (ps_set (i := 2) scCts.nd rfl (.inr rfl) (pe_call FO (hr.mono (by decide)) (by rfl) gO kO bO .nil pass0 (pa_cons (pe_callB (call_max2 rfl) (by rfl) T.max bootMax (pa_cons (pe_op op_sub (pv 1) pe_int) (pa_cons pe_int pa_nil))) pa_nil)))
    (pss_cons (ps_for PassesOwn.never rfl (pi_range2 rfl T.range (pa_cons pe_int (pa_cons (pe_callB call_len_seq (by rfl) T.len PySem.boot_len (pa_cons (pv 2) pa_nil)) pa_nil))) (pg_name (i := 3) scCts.nd rfl (.inr rfl))
      (pss_one (ps_asg (pe_callB (cr_sum rfl) (by rfl) T.sum bootSum (pa_cons (pe_lock (pe_lc (own := [("size", 4), ("number", 5)]) (g := gTup K 2 (gCons (gName 4) (gCons (gName 5) gNil))) (te := tOp (rI CMul fun i j => .int (i * j)) (tVar 5) (tOp (rIxL K) (tVar 2) (tOp (rI0 fun i j => .int (i - j)) (tVar 3) (tVar 4)))) rfl scCts.nd (pi_items (pv 0)) (blkOk_by (N := nCts) (sc := defScope sCtsTo) (by decide +kernel))
          (fun _ _ _ _ _ => pg_tup (by rfl) (pgs_cons (pg_name (i := 4) scCts.nd rfl (.inl rfl)) (pgs_cons (pg_name (i := 5) scCts.nd rfl (.inl rfl)) pgs_nil))) (fun _ _ _ _ _ => pts_one (pt_cmpR op_le (pv 4) (pv 3) (nomark _)))
          (fun _ _ _ _ _ => pe_op op_mul (pv 5) (pe_ix ix_list (pv 2) (pe_op op_sub (pv 3) (pv 4)) (fun _ _ => rfl))))) pa_nil)) (pg_sub (pv 2) (pv 3) set_list))))
    (pss_one (ps_ret (pe_call FC hr (by rfl) gC kC bC .nil pass0 (pa_cons (pv 2) pa_nil))))), ?_⟩
  refine ⟨_, rfl, _, _, rfl, rfl, _, _, rfl, M - 1, ?_, by omega, fun H0 r s0 hr0 hr1 => ?_⟩
  · show [V.int _] = _
    by_cases c : 0 > (M : Int) - 1
    · rw [if_pos c, show M - 1 = 0 by omega]
      rfl
    · rw [if_neg c, show ((M : Int) - 1) = ((M - 1 : Nat) : Int) by omega]
  refine ⟨_, rfl, r, _, rfl, .inl (SqL.of hr1), _, _, rfl, ⟨by omega, by omega, by omega, by rw [iV_len, one_len]; omega⟩, ?_⟩
  refine for_it (walk_range (lo := 1) (n := (((iV (one (M - 1))).length : Int) - 1).toNat)) (fun i σ H' => (∃ o3, σ = [some (.ref d), some (.int (M : Int)), some (.ref r), o3, none, none]) ∧ H' r = some (.lst (iV (ctAt parts (M - 1) i))) ∧ Same H H')
    ⟨⟨none, rfl⟩, hr1, s0⟩ (fun _ _ _ _ _ => trivial) (fun i x σ H9 H1 hi q y => ?_) fun σ H1 q => ?_
  · obtain ⟨⟨o3, rfl⟩, hr2, s1⟩ := q
    obtain ⟨rfl, rfl⟩ := y
    have e1 : (1 : Int) + (i : Int) = ((i + 1 : Nat) : Int) := by omega
    change gName 3 (V.int (1 + (i : Int))) _ _ _
    rw [e1]
    have lc := ctAt_len parts (M - 1) i
    rw [iV_len, one_len] at hi
    have hd1 := s1 _ _ hd
    refine ⟨d, _, hd1, trivial, fun od => ⟨_, rfl, d, od, _, rfl, upd_same, fun D hD => ?_⟩⟩
    have sD : D ≠ d := fun z => by rw [z, upd_same] at hD; cases hD
    have ne : r ≠ d := fun z => by rw [z, hd1] at hr2; cases hr2
    refine lc_items (parts := parts) (fun k => .int (k.2 * (ctAt parts (M - 1) i).getD (((i + 1 : Nat) : Int) - k.1).toNat 0)) (fun k => decide (k.1 ≤ ((i + 1 : Nat) : Int))) hD upd_same (by omega) (fun _ _ => rfl) (fun k H3 Q hk s3 h => ?_) (fun k H3 Q hk c s3 h => ?_) fun H3 s3 hD3 => ?_
    · exact ⟨_, rfl, _, rfl, _, _, rfl, rfl, _, rfl, h⟩
    · have c := of_decide_eq_true c
      have b := hp k hk
      have hr3 : H3 r = some (.lst (iV (ctAt parts (M - 1) i))) := s3 _ _ (by rw [upd_ne ne]; exact hr2)
      have ix : atI (iV (ctAt parts (M - 1) i)) (((i + 1 : Nat) : Int) - k.1) = some (.int ((ctAt parts (M - 1) i).getD (((i + 1 : Nat) : Int) - k.1).toNat 0)) := by
        obtain ⟨n, hn⟩ : ∃ n : Nat, ((i + 1 : Nat) : Int) - k.1 = (n : Int) := ⟨(((i + 1 : Nat) : Int) - k.1).toNat, by omega⟩
        rw [hn, Int.toNat_natCast]
        exact atI_nat (iV_getD (by omega))
      exact ⟨_, rfl, _, rfl, _, rfl, _, rfl, _, _, rfl, rfl, r, _, _, _, rfl, rfl, SqL.of hr3, ix, _, _, rfl, rfl, .inl ⟨b.2.1, b.2.2⟩, h⟩
    · have hd3 : H3 d = some (.frz od (.dK (parts.map kvI))) := s3 _ _ upd_same
      have s4 : Same H1 (upd H3 d (.dK (parts.map kvI))) := fun b u e => by
        by_cases z : b = d
        · subst z
          rw [upd_same]
          rw [hd1] at e
          exact e
        · rw [upd_ne z]
          exact s3 _ _ (by rw [upd_ne z]; exact e)
      have hD4 : upd H3 d (.dK (parts.map kvI)) D = some (.lst (iV (ctRow parts (ctAt parts (M - 1) i) (i + 1)))) := by
        rw [upd_ne sD, hD3, ctRow, iV, List.map_map]
        rfl
      refine ⟨hd3, D, ctRow parts (ctAt parts (M - 1) i) (i + 1), rfl, SqL.of hD4, ?_⟩
      refine ⟨_, rfl, _, rfl, r, _, _, i + 1, rfl, rfl, s4 _ _ hr2, ixN_nat (n := (iV (ctAt parts (M - 1) i)).length) (by rw [iV_len]; omega), ⟨_, rfl⟩, ?_, Same.back (s1.trans s4) hr0⟩
      rw [upd_same, iV_set]
      rfl
  · obtain ⟨⟨o3, rfl⟩, hr2, s1⟩ := q
    rw [iV_len, one_len, show ((((M - 1 + 1 : Nat) : Int)) - 1).toNat = M - 1 by omega] at hr2
    refine ⟨_, rfl, r, _, rfl, .inl (SqL.of hr2), by rw [ctAt_len]; omega, by rw [ctAt_len]; omega, ok, fun H3 p s3 hp3 h3 => k H3 p (s1.trans s3) (none_at s1 hp3) h3⟩
end
end K7
namespace K7
open PySem PySem.Spec PyProof.Rows L2 RZ
/-! ### tuples whose object is known, and their methods -/
/-- a tuple at a whose object has no dict of its own -/
def TupF (H : Hp) (a : Addr) (xs : List V) : Prop := ∃ od : Obj, H a = some (.frz od (.tup xs)) ∧ od.cls = .type "tuple" ∧ od.dict = none
theorem TupF.sq {K : PySem.W.Frag} {H : Hp} {a : Addr} {xs : List V} (h : TupF H a xs) : SqT K H a xs := by
  obtain ⟨od, e, _⟩ := h
  exact .inl (.inr ⟨od, e⟩)
theorem TupF.mono {H H' : Hp} {a : Addr} {xs : List V} (h : TupF H a xs) (s : Same H H') : TupF H' a xs := by
  obtain ⟨od, e, r⟩ := h
  exact ⟨od, s _ _ e, r⟩
def rMulF (K : PySem.W.Frag) : R2 := fun x y H Q => ∃ a m xs, x = .ref a ∧ y = .int m ∧ SqT K H a xs ∧ xs ≠ [] ∧ 2 ≤ m ∧ m ≤ 1000 ∧ xs.length ≤ 1000 ∧
  ∀ p od, H p = none → od.cls = .type "tuple" → od.dict = none → Q (.ref p) (upd H p (.frz od (.tup (List.replicate m.toNat xs).flatten)))
theorem op_mulF {X : Cx} : OpR X (binaryOp .Mult) (rMulF X.K) := by
  intro pins s σ H x y v u Q I rx ry h
  obtain ⟨a, m, xs, rfl, rfl, hT, h0, m2, m3, l3, k⟩ := h
  cases rx
  obtain ⟨tk, rfl⟩ := ry
  obtain ⟨zs, rz, ⟨⟨cl, dc, dt, sls⟩, go, gc, cap, gd⟩, _⟩ := I.tuple hT
  simp only at gc gd
  subst gc gd
  have ll : zs.length = xs.length := rz.length.symm
  have sz : zs.toArray.size = xs.length := by rw [List.size_toArray, ll]
  have pos : 1 ≤ xs.length := by
    cases xs with
    | nil => exact absurd rfl h0
    | cons _ _ => exact Nat.le_add_left _ _
  have em : zs.toArray.isEmpty = false := by
    cases zs with
    | nil => rw [List.length_nil] at ll; omega
    | cons _ _ => rfl
  have big : m.toNat * xs.length ≤ 1000 * 1000 := Nat.mul_le_mul (by omega) l3
  have bigI : ((zs.toArray.size : Nat) : Int) * m ≤ 1000000 := by
    rw [sz, show m = ((m.toNat : Nat) : Int) by omega, ← Int.natCast_mul, Nat.mul_comm]
    omega
  have fl : (List.replicate m.toNat xs).flatten.length ≤ sizeLine := by
    rw [PyProof.Rows.lm_len_rep_flat, sizeLine_eq]
    omega
  have tm : Builtin.Tuple.tupleTooMany (((zs.toArray.size : Nat) : Int) * m) = false := by
    unfold Builtin.Tuple.tupleTooMany
    rw [sizeLine_eq, decide_eq_false]
    omega
  have t0 : (decide (m < -(2 ^ 63)) || decide (m ≥ 2 ^ 63)) = false := by simp only [Bool.or_eq_false_iff, decide_eq_false_iff_not]; omega
  have t1 : (zs.toArray.isEmpty || m == 1) = false := by rw [em]; exact beq_false_of_ne (by omega)
  have t2 : (decide (m ≤ 0) || zs.toArray.isEmpty) = false := by rw [em, decide_eq_false (by omega)]; rfl
  have sl2 : (List.foldl (fun x1 x2 => x1 ++ x2) #[] (List.replicate m.toNat zs.toArray)).size ≤ sizeLine := by
    rw [size_rep, List.size_toArray, PyProof.Rows.lm_len_rep_flat, ll, sizeLine_eq]
    omega
  have mulR := tuple_mulW a zs.toArray cap dc sls m tk t0 t1 t2 (by omega) tm sl2
  have intR := int_rmul_tuple m tk a zs.toArray cap dc sls
  refine wpAny_binaryOp_repeat_ref (T := "tuple") (U := "int") (by decide) ⟨_, go, rfl⟩ (fun s' => typeIs_int s' m tk) noFill_tuple_mul
    F.fills_int_mul F.slot_int_rmul repeat_tuple F.slot_int_index.lookup ?_
  refine call_meets F.slot_int_rmul (typeIs_int s m tk) F.entry_int_rmul (F.args_int_rmul_2 _ _) intR ⟨go, rfl, ⟨_, go, rfl⟩, ?_⟩
  refine call_meets F.slot_tuple_mul ⟨_, go, rfl⟩ F.entry_tuple_mul (F.args_tuple_mul_2 _ _) mulR ⟨go, ?_⟩
  rw [size_rep]
  have new := I.hok.fresh (Nat.le_refl s.heap.objs.size)
  have got : (s.heap.push { cls := Value.type "tuple", data := Data.seq (List.replicate m.toNat zs).flatten.toArray }).get? s.heap.objs.size = some { cls := Value.type "tuple", data := Data.seq (List.replicate m.toNat zs).flatten.toArray } := Heap.get?_push_size _ rfl
  exact ⟨.ref s.heap.objs.size, _, I.laid (t' := s.toks) (o := .frz { cls := Value.type "tuple", data := Data.seq (List.replicate m.toNat zs).flatten.toArray } (.tup (List.replicate m.toNat xs).flatten)) (fun _ _ q => Heap.get?_push_of_some _ q) (Nat.le_refl _) ⟨got, fl, _, rz.rep m.toNat, IsTup.new _ _⟩, rfl, k _ _ new rfl rfl⟩
/-- x.name(e) of such a tuple -/
def tBMt (r : V → List V → Hp → VK → Prop) (to : TE) (t : TA) : TE := fun σ H Q => to σ H fun x H1 => (∃ a xs, x = .ref a ∧ TupF H1 a xs) ∧ t σ H1 fun xs H2 => r x xs H2 Q
theorem pe_bmt {X : Cx} {o e : Expr} {es : List Expr} {to : TE} {t : TA} {name : Str} {apos cpos : Pos} {id : String} {r : V → List V → Hp → VK → Prop} (pa : PlainAttrs "tuple") (slot : Slot "tuple" name id)
    (hty : typeOf (.builtin id) = pure (.type "method_descriptor")) (hm : MtR X id r) (ho : PE X o to) (ha : PA X (e :: es) t)
    (hb : attributeBase o name X.env (eval o X.env) = eval o X.env := by rfl)
    (hf : ((backTo cpos (starEach (e :: es) X.env)).all (fun x => !x.1) && (backToKw cpos (keywordEach [] X.env)).all (fun x => x.1.isSome) && decide ((e :: es).length + ([] : List Keyword).length + (if ([] : List Keyword).isEmpty then 0 else 1) < 30)) = true := by rfl)
    (hl : (apos.endLine == cpos.line) = true := by rfl) (hs : starEach (e :: es) X.env = (false, eval e X.env) :: starEach es X.env := by rfl)
    (hp : (backTo cpos (starEach es X.env)).any (·.1) = false := by rfl) : PE X (.Call (.Attribute o name apos) (e :: es) [] cpos) (tBMt r to t) := by
  refine ⟨fun pins s σ H Q I h => wpAny_Call_method_late hb hf hl rfl (thn (ho.run pins s σ H _ I h) fun v s1 q => ?_)⟩
  obtain ⟨x, H1, I1, rx, ⟨a, xs, rfl, od, ea, ec, ed⟩, q⟩ := q
  obtain rfl : v = Value.ref a := rx
  have ga := (I1.hok a _ ea).1
  refine ⟨"tuple", id, pa, slot, hty, ⟨od, ga, ec⟩, fun b eb => ?_, ?_⟩
  · cases eb
    exact ⟨od, ga, ed⟩
  have hA := ha.run cpos pins s1 σ H1 _ I1 q
  rw [hs] at hA ⊢
  refine Calls.callWith_builtin ?_ (Calls.evalArgs_plain (thn hA fun us s2 z => ?_))
  · show (false || (backTo cpos (starEach es X.env)).any (·.1)) = false
    rw [hp] <;> rfl
  · obtain ⟨vs, H2, I2, r2, z⟩ := z
    exact hm pins s2 σ H2 (.ref a) vs (.ref a) us Q I2 rfl r2 z
end K7
namespace K7
open PySem PySem.Spec PyProof.Rows L2 RZ
/-! ### t.count(k) of a tuple of ints -/
def rCntT (K : PySem.W.Frag) : V → List V → Hp → VK → Prop := fun x xs H Q => ∃ (a : Addr) (L : List Int) (k : Int), x = .ref a ∧ xs = [.int k] ∧ SqT K H a (iV L) ∧ Q (.int (L.count k : Nat)) H
theorem mt_tcount {X : Cx} : MtR X "tuple.count" (rCntT X.K) := by
  intro pins s σ H x xs v us Q I rx rxs h
  obtain ⟨a, L, k, rfl, rfl, ha, q⟩ := h
  cases rx
  obtain ⟨u, rfl, ru⟩ := rxs.one
  obtain ⟨t, rfl⟩ := ru
  obtain ⟨its, rv, ⟨⟨cls, dd, data, sl⟩, ho, hc, n, hd⟩, hs⟩ := I.tuple ha
  simp only at hc hd
  subst hc hd
  have hi := ints_of_vals rv
  refine call_meets PySem.F.slot_tuple_count ⟨_, ho, rfl⟩
    PySem.F.entry_tuple_count (PySem.F.args_tuple_count_2 _ _) (SeqAt.tuple_countAt a its.toArray n dd sl (.int k t) (eqk k))
    ⟨ho, fun y hy => (eqk_gives hi y (Array.mem_toArray.mp hy)).at _ _, .int (L.count k : Nat), H, I.tok _, ⟨s.toks, ?_⟩, q⟩
  have e := eqk_count (k := k) hi
  show Value.int ((its.toArray.toList.countP (eqk k) : Nat) : Int) s.toks = _
  rw [show its.toArray.toList = its from rfl, e]
/-! ### tuples of ints within bounds -/
inductive TupIs (K : PySem.W.Frag) (H : Hp) (n : Nat) (lo hi : Int) : V → Bool → Prop
  | non : TupIs K H n lo hi .non false
  | bl (b : Bool) : TupIs K H n lo hi (.bl b) false
  | int (i : Int) : TupIs K H n lo hi (.int i) false
  | str (z : Str) : TupIs K H n lo hi (.str z) false
  | lst {a : Addr} {xs : List V} (h : H a = some (.lst xs)) : TupIs K H n lo hi (.ref a) false
  | dic {a : Addr} {kvs : List (Key × V)} (h : H a = some (.dK kvs)) : TupIs K H n lo hi (.ref a) false
  | long {a : Addr} {xs : List V} (h : SqT K H a xs) (l : n < xs.length) : TupIs K H n lo hi (.ref a) false
  | tup {a : Addr} {xs : List V} (h : SqT K H a xs) (l : xs.length ≤ n) (v : ∀ x ∈ xs, Vk K H x) : TupIs K H n lo hi (.ref a) (xs.all fun x => betw x lo hi)
/-- series that are none, or may be one -/
inductive SerIs (K : PySem.W.Frag) (H : Hp) : V → Bool → Prop
  | non : SerIs K H .non false
  | bl (b : Bool) : SerIs K H (.bl b) false
  | int (i : Int) : SerIs K H (.int i) false
  | str (z : Str) : SerIs K H (.str z) false
  | lst {a : Addr} {xs : List V} (h : H a = some (.lst xs)) : SerIs K H (.ref a) false
  | dic {a : Addr} {kvs : List (Key × V)} (h : H a = some (.dK kvs)) : SerIs K H (.ref a) false
  | long {a : Addr} {xs : List V} (h : SqT K H a xs) (l : xs.length = 0 ∨ 61 < xs.length) : SerIs K H (.ref a) false
  | tup {a : Addr} {x : V} {xs : List V} (h : SqT K H a (x :: xs)) (l : xs.length ≤ 60) (v : ∀ y ∈ x :: xs, Vk K H y) : SerIs K H (.ref a) ((x :: xs).all i60 && decide (x = .int 1))
/-- a class of errors without anything of its own -/
structure ErrTxt (K : PySem.W.Frag) (mg : Str → Option Value) (x : Str) (C : Addr) : Prop where
  named : mg x = some (.ref C)
  made : PySem.W.excIn K C PySem.HandSPX.veTail "ValueError.__new__" = true
  keepC : PySem.W.keepIn K (.ref C) = true
  isExc : PySem.W.subIn K (.ref C) (.type "BaseException") = some true
  isCls : PySem.W.typeIn K (.ref C) = some (.type "type")
/-- the error that keeps a number -/
def NumE (E : XK) (N : Addr) (x : V) (H : Hp) : Prop := ∀ H' d, Same H H' → H' d = none → E (.ref N) (some d) (upd H' d (.xd [(("given" : Str), x)]))
def NilE (E : XK) (C : Addr) (H : Hp) : Prop := ∀ H', Same H H' → E (.ref C) none H'
theorem NumE.mono {E : XK} {N : Addr} {x : V} {H H1 : Hp} (h : NumE E N x H) (s : Same H H1) : NumE E N x H1 := fun H' d s' => h H' d (s.trans s')
theorem NilE.mono {E : XK} {C : Addr} {H H1 : Hp} (h : NilE E C H) (s : Same H H1) : NilE E C H1 := fun H' s' => h H' (s.trans s')
def spChkBE (K : PySem.W.Frag) (N : Addr) : Sp := fun vs H Q E => ∃ (x : V) (a b : Int), vs = [x, .int a, .int b] ∧ Vk K H x ∧ (betw x a b = false → NumE E N x H) ∧ (betw x a b = true → Q .non H)
theorem scChkB : FnScope ["value", "least", "most"] ["value", "least", "most"] (defScope sChkB) := ⟨rfl, rfl, rfl, by decide +kernel, rfl, by decide +kernel, by decide +kernel⟩
/-- right letters -/
structure Lt (L : List Int) : Prop where
  len : L.length ≤ 24
  lo : ∀ d ∈ L, 1 ≤ d
  hi : ∀ d ∈ L, d ≤ 40
theorem betw_of {d lo hi : Int} (h1 : lo ≤ d) (h2 : d ≤ hi) (b1 : -(10 ^ 60) < lo) (b2 : hi < 10 ^ 60) : betw (.int d) lo hi = true := by
  show (i60 (.int d) && (decide (lo ≤ d) && decide (d ≤ hi))) = true
  rw [decide_eq_true h1, decide_eq_true h2]
  show ((decide (-(10 ^ 60) < d) && decide (d < 10 ^ 60)) && true) = true
  rw [decide_eq_true (by omega), decide_eq_true (by omega)]
  rfl
theorem all_betw {L : List Int} {lo hi : Int} (h1 : ∀ d ∈ L, lo ≤ d) (h2 : ∀ d ∈ L, d ≤ hi) (b1 : -(10 ^ 60) < lo) (b2 : hi < 10 ^ 60) : (iV L).all (fun x => betw x lo hi) = true := by
  rw [List.all_eq_true]
  intro x hx
  obtain ⟨d, hd, rfl⟩ := List.mem_map.mp hx
  exact betw_of (h1 d hd) (h2 d hd) b1 b2
theorem iV_vk {K : PySem.W.Frag} {H : Hp} {L : List Int} : ∀ x ∈ iV L, Vk K H x := fun x hx => by
  obtain ⟨d, _, rfl⟩ := List.mem_map.mp hx
  exact .int d
theorem Lt.is {K : PySem.W.Frag} {H : Hp} {a : Addr} {L : List Int} (h : Lt L) (s : SqT K H a (iV L)) : LetIs K H (.ref a) true := by
  have q := LetIs.tup s (by rw [List.length_map]; exact h.len) iV_vk
  rw [all_betw h.lo h.hi (by decide) (by decide)] at q
  exact q
/-- the numbers of the letters of the degrees 2 to 40 -/
def cnts (L : List Int) : List Int := (List.range 39).map fun n : Nat => ((L.count (2 + (n : Int)) : Nat) : Int)
def LoopBad (K : PySem.W.Frag) (H : Hp) (x : V) : Prop := LetIs K H x false ∨ ∃ (a : Addr) (L : List Int), x = .ref a ∧ SqT K H a (iV L) ∧ Lt L ∧ (1 : Int) ∈ L
def spLoop (K : PySem.W.Frag) (C N : Addr) : Sp := fun vs H Q E => ∃ x y : V, vs = [x, y] ∧ ((LoopBad K H x ∧ NilE E C H) ∨ ∃ (a : Addr) (L : List Int), x = .ref a ∧ SqT K H a (iV L) ∧ Lt L ∧ (1 : Int) ∉ L ∧
  ((Vk K H y ∧ betw y 0 60 = false ∧ NumE E N y H) ∨ ∃ M : Nat, y = .int (M : Int) ∧ M ≤ 60 ∧ TupF H a (iV L) ∧ seriesOk (cnts L) M = true ∧ ∀ H' p, Same H H' → H p = none → H' p = some (.tup (iV (seriesOf (cnts L) M))) → Q (.ref p) H'))
abbrev nLoop : List Str := ["letters", "most", "degree"]
theorem scLoop : FnScope nLoop ["letters", "most"] (defScope sLoop) := ⟨rfl, rfl, rfl, by decide +kernel, rfl, by decide +kernel, by decide +kernel⟩
theorem inV_int (k : Int) : ∀ L : List Int, inV (.int k) (iV L) = decide (k ∈ L)
  | [] => rfl
  | d :: L => by
    show ((d == k) || inV (.int k) (iV L)) = _
    rw [inV_int k L]
    by_cases e : d = k
    · rw [e]
      simp
    · rw [beq_false_of_ne e, Bool.false_or]
      have z : ¬ k = d := fun q => e q.symm
      simp [z]
theorem flat_iV (L : List Int) : (iV L).all flatV = true := by
  rw [List.all_map, List.all_eq_true]
  exact fun _ _ => rfl
section
variable {P : Program} {w : World} {K : PySem.W.Frag} {mg : Str → Option Value} {base : Heap} {C N i0 fB fL fI fS : Addr} {dB dL dI dS : FuncData}
theorem ok_chkbE {f : Addr} {fd : FuncData} (F : Fun K "check_between" "check_between" sChkB f fd) (EN : K7X.NumTxt K mg N i0) (gB : mg "is_between" = some (.ref fB)) (kB : PySem.W.keepIn K (.ref fB) = true) (bB : Binds K dB ["value", "least", "most"] [])
    (B : FnOk P w K mg base CX0 3 fB dB ["value", "least", "most"] (spBetw K)) : FnOk P w K mg base (L2.CX P w) 4 f fd ["value", "least", "most"] (spChkBE K N) := by
  refine F.okX scChkB (fun vs H Q E h => ?_) (fun cdv A outer s H vs Q E hr h => ?_)
  · obtain ⟨x, a, b, rfl, _⟩ := h; rfl
  obtain ⟨x, a, b, rfl, hx, k0, k1⟩ := h
  refine ⟨_, pss_one (ps_if (pt_not (pt_val (pe_call B hr (by rfl) gB kB bB .nil pass0 (pa_cons (pv 0) (pa_cons (pv 1) (pa_cons (pv 2) pa_nil))))))
      (pss_one (ps_raiseNum (W := fun cls d _ H => E cls d H) rfl EN hr (takes_of rfl rfl rfl rfl) (by exact (pa_cons (pv 0) pa_nil)))) pss_nil), ?_⟩
  refine ⟨_, rfl, _, rfl, _, rfl, x, a, b, rfl, hx, _, rfl, ?_⟩
  cases e : betw x a b with
  | false => exact iteT ⟨_, rfl, _, rfl, fun d hd => k0 e H d (Same.refl _) hd⟩
  | true => exact iteF (k1 e)
theorem ok_loop {f : Addr} {fd : FuncData} (F : Fun K "loop_series" "loop_series" sLoop f fd) (T : Txt K mg) (ER : ErrTxt K mg "InvalidLetters" C) (gI : mg "is_letters" = some (.ref fI)) (kI : PySem.W.keepIn K (.ref fI) = true) (bI : Binds K dI ["value"] [])
    (FI : FnOk P w K mg base CX0 4 fI dI ["value"] (spIsLet K)) (gB : mg "check_between" = some (.ref fB)) (kB : PySem.W.keepIn K (.ref fB) = true) (bB : Binds K dB ["value", "least", "most"] [])
    (FB : FnOk P w K mg base (L2.CX P w) 4 fB dB ["value", "least", "most"] (spChkBE K N)) (gS : mg "_series_of" = some (.ref fS)) (kS : PySem.W.keepIn K (.ref fS) = true) (bS : Binds K dS ["counts", "most"] [])
    (FS : FnOk P w K mg base CX0 2 fS dS ["counts", "most"] spSerL) : FnOk P w K mg base (L2.CX P w) 5 f fd ["letters", "most"] (spLoop K C N) := by
  refine F.okX scLoop (fun vs H Q E h => ?_) (fun cdv A outer s H vs Q E hr h => ?_)
  · obtain ⟨x, y, rfl, _⟩ := h; rfl
  obtain ⟨x, y, rfl, h⟩ := h
  obtain ⟨t1, m1⟩ := T.cLOOP
  obtain ⟨t2, m2⟩ := T.cLEAST
  obtain ⟨t3, m3⟩ := T.cMAXLETTER
  refine ⟨_, pss_cons (ps_if (PW.pt (pw_or (pt_not (pt_val (pe_call FI hr (by rfl) gI kI bI .nil pass0 (pa_cons (pv 0) pa_nil)))) (pw_or1 (pt_cmpR op_in_seq pe_int (pv 0) (by rfl)))))
      (pss_one (ps_raise (W := fun cls d _ H => E cls d H) rfl (takes_of rfl rfl rfl rfl) (pmk_own PySem.F.excBase_ValueError ER.made ER.named ER.keepC (raises_own ER.isExc ER.isCls) (by rfl)))) pss_nil)
    (pss_cons (ps_expr (pe_call FB hr (by rfl) gB kB bB .nil (passes_call (E := E) (takes_of rfl rfl rfl rfl) (fun _ _ _ _ h => h)) (pa_cons (pv 1) (pa_cons pe_int (pa_cons (pe_glob (v := .int 60) (by rfl) m1 ⟨_, rfl⟩) pa_nil)))))
    (pss_one (ps_ret (pe_call (FS.mono (by decide)) hr (by rfl) gS kS bS .nil pass0 (pa_cons (pe_lc (te := tBMt (rCntT K) (tVar 0) (tCons (tVar 2) tNil)) (own := [("degree", 2)]) (g := gName 2) rfl scLoop.nd (pi_range2 rfl T.range (pa_cons (pe_glob (v := .int 2) (by rfl) m2 ⟨_, rfl⟩) (pa_cons (pe_op op_add (pe_glob (v := .int 40) (by rfl) m3 ⟨_, rfl⟩) pe_int) pa_nil)))
        (blkOk_by (N := nLoop) (sc := defScope sLoop) (by decide +kernel)) (fun _ _ _ _ _ => pg_name (i := 2) scLoop.nd rfl (Or.inl rfl)) (fun _ _ _ _ _ => pts_nil)
        (fun _ _ _ _ _ => pe_bmt PySem.F.plainAttrs_tuple PySem.F.slot_tuple_count PySem.F.type_tuple_count mt_tcount (pv 0) (pa_cons (pv 2) pa_nil))) (pa_cons (pv 1) pa_nil)))))), ?_⟩
  rcases h with ⟨hb, k0⟩ | ⟨a, L, rfl, ha, hL, h1, h⟩
  · rcases hb with hb | ⟨a, L, rfl, ha, hL, h1⟩
    · refine ⟨_, rfl, x, false, rfl, hb, fun H' s' => ⟨_, rfl, iteT (iteT (k0 H' s'))⟩⟩
    · refine ⟨_, rfl, _, true, rfl, hL.is ha, fun H' s' => ⟨_, rfl, iteF ⟨_, rfl, a, _, rfl, .inr (tupSame s' ha), rfl, flat_iV L, _, rfl, ?_⟩⟩⟩
      have e : (if false = true then !inV (.int 1) (iV L) else inV (.int 1) (iV L)) = true := by rw [if_neg Bool.false_ne_true, inV_int]; exact decide_eq_true h1
      rw [e]
      exact iteT (k0 H' s')
  · refine ⟨_, rfl, _, true, rfl, hL.is ha, fun H1 s1 => ⟨_, rfl, iteF ⟨_, rfl, a, _, rfl, .inr (tupSame s1 ha), rfl, flat_iV L, _, rfl, ?_⟩⟩⟩
    have e : (if false = true then !inV (.int 1) (iV L) else inV (.int 1) (iV L)) = false := by rw [if_neg Bool.false_ne_true, inV_int]; exact decide_eq_false h1
    rw [e]
    refine iteF ?_
    rcases h with ⟨hy, by0, k0⟩ | ⟨M, rfl, hM, hF, ok, k⟩
    · exact ⟨_, rfl, y, 0, 60, rfl, hy.mono s1, fun _ => k0.mono s1, fun z => by rw [by0] at z; cases z⟩
    · refine ⟨_, rfl, .int (M : Int), 0, 60, rfl, .int _, fun z => ?_, fun _ => ?_⟩
      · rw [betw_of (by omega) (by omega) (by decide) (by decide)] at z
        cases z
      refine ⟨_, _, rfl, rfl, _, _, rfl, ⟨by decide, by decide, by decide, by decide⟩, fun D hD => ?_⟩
      refine lc_range1 (lo := 2) (N := 39) (fun d => .int (L.count d : Nat)) hD (by decide) (fun _ => rfl) (fun n H2 Q2 hn s2 h2 => ?_) fun H2 s2 hD2 => ?_
      · have ha2 := tupSame (s1.trans s2) ha
        exact ⟨_, rfl, ⟨a, _, rfl, hF.mono (s1.trans s2)⟩, _, rfl, a, L, _, rfl, rfl, ha2, h2 H2 (Same.refl H2)⟩
      · have lc : (cnts L).length = 39 := by rw [cnts, List.length_map, List.length_range]
        refine ⟨_, rfl, D, cnts L, M, rfl, ?_, by omega, by omega, ok, fun H3 p s3 hp h3 => k H3 p (s1.trans (s2.trans s3)) (none_at (s1.trans s2) hp) h3⟩
        rw [hD2, cnts, iV, List.map_map]
        rfl
end
end K7
namespace K7
open PySem PySem.Spec PyProof.Rows L2 RZ
/-! ### dicts of ints -/
def putI (ps : List (Int × Int)) (k v : Int) : List (Int × Int) := if (ps.any fun p => decide (p.1 = k)) = true then ps.map (fun p => if p.1 = k then (p.1, v) else p) else ps ++ [(k, v)]
def getI (ps : List (Int × Int)) (k : Int) : Option Int := (ps.find? fun p => decide (p.1 = k)).map (·.2)
theorem key_eq (p : Int × Int) (k : Int) : decide ((kvI p).1 = (Sum.inl k : Key)) = decide (p.1 = k) := by
  unfold kvI
  by_cases h : p.1 = k
  · rw [decide_eq_true h, h]
    simp
  · rw [decide_eq_false h]
    exact decide_eq_false fun z => h (Sum.inl.inj z)
theorem put_kvI (ps : List (Int × Int)) (k v : Int) : putK (ps.map kvI) (Sum.inl k) (.int v) = (putI ps k v).map kvI := by
  have ea : ((ps.map kvI).any fun kv => decide (kv.1 = (Sum.inl k : Key))) = ps.any fun p => decide (p.1 = k) := by
    rw [List.any_map]
    congr 1
    funext p
    exact key_eq p k
  unfold putK putI
  rw [ea]
  split
  · rw [List.map_map, List.map_map]
    refine List.map_congr_left fun p _ => ?_
    show (if (kvI p).1 = (Sum.inl k : Key) then ((kvI p).1, V.int v) else kvI p) = kvI (if p.1 = k then (p.1, v) else p)
    by_cases h : p.1 = k
    · rw [if_pos h, if_pos (of_decide_eq_true (by rw [key_eq, decide_eq_true h]))]
      rfl
    · rw [if_neg h]
      exact if_neg fun z => h (Sum.inl.inj z)
  · rw [List.map_append]
    rfl
theorem val_kvI (ps : List (Int × Int)) (k : Int) : valV (ps.map kvI) (Sum.inl k) = (getI ps k).map V.int := by
  unfold valV getI
  rw [List.find?_map, Option.map_map, Option.map_map]
  have e : ((fun kv : Key × V => decide (kv.1 = (Sum.inl k : Key))) ∘ kvI) = fun p => decide (p.1 = k) := by
    funext p
    exact key_eq p k
  rw [e]
  rfl
def partsOf (L : List Int) : List (Int × Int) := L.foldl (fun ps d => putI ps (d - 1) ((getI ps (d - 1)).getD 0 + 1)) []
theorem putI_len (ps : List (Int × Int)) (k v : Int) : (putI ps k v).length ≤ ps.length + 1 := by
  unfold putI
  split
  · rw [List.length_map]
    omega
  · rw [List.length_append]
    exact Nat.le_refl _
theorem partsOf_snoc (L : List Int) (d : Int) : partsOf (L ++ [d]) = putI (partsOf L) (d - 1) ((getI (partsOf L) (d - 1)).getD 0 + 1) := by
  unfold partsOf
  rw [List.foldl_append]
  rfl
/-- no part is of a size below 1, none has a great number -/
def pOk (m : Int) (ps : List (Int × Int)) : Prop := ∀ p ∈ ps, 1 ≤ p.1 ∧ 0 ≤ p.2 ∧ p.2 ≤ m
theorem getI_mem {ps : List (Int × Int)} {k v : Int} (h : getI ps k = some v) : ∃ p ∈ ps, p.2 = v := by
  unfold getI at h
  obtain ⟨p, h1, h2⟩ := Option.map_eq_some_iff.mp h
  exact ⟨p, List.mem_of_find?_eq_some h1, h2⟩
theorem pOk_put {m k : Int} {ps : List (Int × Int)} (h : pOk m ps) (hk : 1 ≤ k) (hm : 0 ≤ m) : pOk (m + 1) (putI ps k ((getI ps k).getD 0 + 1)) := by
  have b : 0 ≤ (getI ps k).getD 0 ∧ (getI ps k).getD 0 ≤ m := by
    cases e : getI ps k with
    | none => exact ⟨Int.le_refl _, hm⟩
    | some v =>
      obtain ⟨p, hp, rfl⟩ := getI_mem e
      exact (h p hp).2
  intro q hq
  unfold putI at hq
  split at hq
  · obtain ⟨p, hp, rfl⟩ := List.mem_map.mp hq
    have z := h p hp
    split
    · exact ⟨z.1, by show 0 ≤ (getI ps k).getD 0 + 1; omega, by show (getI ps k).getD 0 + 1 ≤ m + 1; omega⟩
    · exact ⟨z.1, z.2.1, by omega⟩
  · rcases List.mem_append.mp hq with hq | hq
    · have z := h q hq
      exact ⟨z.1, z.2.1, by omega⟩
    · obtain rfl := List.mem_singleton.mp hq
      exact ⟨hk, by show 0 ≤ (getI ps k).getD 0 + 1; omega, by show (getI ps k).getD 0 + 1 ≤ m + 1; omega⟩
theorem parts_ok (L : List Int) (hL : ∀ d ∈ L, 2 ≤ d) : ∀ n, n ≤ L.length → pOk n (partsOf (L.take n)) ∧ (partsOf (L.take n)).length ≤ n
  | 0, _ => ⟨fun p hp => (nomatch (show p ∈ ([] : List (Int × Int)) from hp)), Nat.le_refl _⟩
  | n + 1, h => by
    obtain ⟨a, b⟩ := parts_ok L hL n (by omega)
    have e : L[n]? = some L[n] := List.getElem?_eq_getElem (by omega)
    have d2 := hL _ (List.getElem_mem (by omega : n < L.length))
    rw [take_more e, partsOf_snoc]
    refine ⟨?_, Nat.le_trans (putI_len _ _ _) (by omega)⟩
    have q := pOk_put (m := (n : Int)) (k := L[n] - 1) a (by omega) (by omega)
    rw [show (((n + 1 : Nat) : Int)) = (n : Int) + 1 by omega]
    exact q
/-! ### promises -/
def spCoS (K : PySem.W.Frag) (C : Addr) : Sp := fun vs H Q E => ∃ (x : V) (b : Bool), vs = [x] ∧ SerIs K H x b ∧ (b = false → NilE E C H) ∧
  (b = true → ∃ (a : Addr) (S : List Int), x = .ref a ∧ SqT K H a (iV S) ∧ 1 ≤ S.length ∧ S.length ≤ 61 ∧ countsOk S = true ∧ ∀ H' p, Same H H' → H p = none → H' p = some (.tup (iV (countsOf S))) → Q (.ref p) H')
def spSoC (K : PySem.W.Frag) (C : Addr) : Sp := fun vs H Q E => ∃ (x : V) (b : Bool), vs = [x] ∧ TupIs K H 60 (-1000) 1000 x b ∧ (b = false → NilE E C H) ∧
  (b = true → ∃ (a : Addr) (L : List Int), x = .ref a ∧ SqT K H a (iV L) ∧ L.length ≤ 60 ∧ seriesOk L L.length = true ∧ ∀ H' p, Same H H' → H p = none → H' p = some (.tup (iV (seriesOf L L.length))) → Q (.ref p) H')
def spFree (K : PySem.W.Frag) (C N : Addr) : Sp := fun vs H Q E => ∃ (x y : V) (b : Bool), vs = [x, y] ∧ TupIs K H 12 2 40 x b ∧ Vk K H y ∧ (b = false → NilE E C H) ∧ (b = true → betw y 0 60 = false → NumE E N y H) ∧
  (b = true → betw y 0 60 = true → ∃ (a : Addr) (L : List Int) (M : Nat), x = .ref a ∧ y = .int (M : Int) ∧ SqT K H a (iV L) ∧ (∀ d ∈ L, 2 ≤ d) ∧ L.length ≤ 12 ∧ M ≤ 60 ∧ countsOk (ctAt (partsOf L) (M - 1) (M - 1)) = true ∧
    ∀ H' p, Same H H' → H p = none → H' p = some (.tup (iV (ctsTo (partsOf L) M))) → Q (.ref p) H')
/-- the parts of paired units -/
def pairParts (r m : Int) : List (Int × Int) := [(m - 1, r), (2 * m - 2, -1)]
def spPaired (K : PySem.W.Frag) (C N : Addr) : Sp := fun vs H Q E => ∃ x y z : V, vs = [x, y, z] ∧ Vk K H x ∧ Vk K H y ∧ Vk K H z ∧ (betw x 2 12 = false → NumE E N x H) ∧ (betw x 2 12 = true → betw y 2 40 = false → NumE E N y H) ∧
  (betw x 2 12 = true → betw y 2 40 = true → betw z 0 60 = false → NumE E N z H) ∧
  (betw x 2 12 = true → betw y 2 40 = true → betw z 0 60 = true → ∃ (r m : Int) (M : Nat), x = .int r ∧ y = .int m ∧ z = .int (M : Int) ∧ 2 ≤ r ∧ r ≤ 12 ∧ 2 ≤ m ∧ m ≤ 40 ∧ M ≤ 60 ∧ ((m % 2 = 1 ∧ r % 2 = 1 ∧ NilE E C H) ∨
    (¬ (m % 2 = 1 ∧ r % 2 = 1) ∧ countsOk (ctAt (pairParts r m) (M - 1) (M - 1)) = true ∧ ∀ H' p, Same H H' → H p = none → H' p = some (.tup (iV (ctsTo (pairParts r m) M))) → Q (.ref p) H')))
abbrev nCoS : List Str := ["series", "entry"]
abbrev nSoC : List Str := ["counts", "count"]
abbrev nFree : List Str := ["degrees", "most", "parts", "degree"]
abbrev nPaired : List Str := ["many", "degree", "most"]
theorem scCoS : FnScope nCoS ["series"] (defScope sCoS) := ⟨rfl, rfl, rfl, by decide +kernel, rfl, by decide +kernel, by decide +kernel⟩
theorem scSoC : FnScope nSoC ["counts"] (defScope sSoC) := ⟨rfl, rfl, rfl, by decide +kernel, rfl, by decide +kernel, by decide +kernel⟩
theorem scFree : FnScope nFree ["degrees", "most"] (defScope sFree) := ⟨rfl, rfl, rfl, by decide +kernel, rfl, by decide +kernel, by decide +kernel⟩
theorem scPaired : FnScope nPaired ["many", "degree", "most"] (defScope sPaired) := ⟨rfl, rfl, rfl, by decide +kernel, rfl, by decide +kernel, by decide +kernel⟩
section
variable {P : Program} {w : World} {K : PySem.W.Frag} {mg : Str → Option Value} {base : Heap} {C N fB fI fC fS fT : Addr} {dB dI dC dS dT : FuncData}
theorem ok_cos {f : Addr} {fd : FuncData} (F : Fun K "counts_of_series" "counts_of_series" sCoS f fd) (T : Txt K mg) (ER : ErrTxt K mg "InvalidOperation" C) (gI : mg "is_integer" = some (.ref fI)) (kI : PySem.W.keepIn K (.ref fI) = true) (bI : Binds K dI ["value"] [])
    (FI : FnOk P w K mg base CX0 2 fI dI ["value"] (spIsInt K)) (gC : mg "_counts_of" = some (.ref fC)) (kC : PySem.W.keepIn K (.ref fC) = true) (bC : Binds K dC ["series"] [])
    (FC : FnOk P w K mg base CX0 2 fC dC ["series"] (spCo K)) : FnOk P w K mg base (L2.CX P w) 3 f fd ["series"] (spCoS K C) := by
  refine F.okX scCoS (fun vs H Q E h => ?_) (fun cdv A outer s H vs Q E hr h => ?_)
  · obtain ⟨x, b, rfl, _⟩ := h; rfl
  obtain ⟨x, b, rfl, hx, k0, k1⟩ := h
  obtain ⟨t1, m1⟩ := T.cLOOP
  refine ⟨_, pss_cons (ps_if (PW.pt (pw_or (pt_not (pt_val (pe_callB call_isi (by rfl) T.isi bootIsi (pa_cons (pv 0) (pa_cons (pe_bltn (v := .ty "tuple") (by rfl) T.tuple bootTuple rfl) pa_nil)))))
        (pw_or1 (pt_not (pt_chain op_le op_le pe_int (pe_callB call_len_seq (by rfl) T.len PySem.boot_len (pa_cons (pv 0) pa_nil)) (pe_op op_add (pe_glob (v := .int 60) (by rfl) m1 ⟨_, rfl⟩) pe_int))))))
      (pss_one (ps_raise (W := fun cls d _ H => E cls d H) rfl (takes_of rfl rfl rfl rfl) (pmk_own PySem.F.excBase_ValueError ER.made ER.named ER.keepC (raises_own ER.isExc ER.isCls) (by rfl)))) pss_nil)
    (pss_cons (ps_if (PW.pt (pw_or (pt_not (pt_val (pe_callB (cr_all rfl) (by rfl) T.all bootAll (pa_cons (pe_lc (own := [("entry", 1)]) (g := gName 1) rfl scCoS.nd (pi_tup (pv 0)) (blkOk_by (N := nCoS) (sc := defScope sCoS) (by decide +kernel)) (fun _ _ _ _ _ => pg_name (i := 1) scCoS.nd rfl (Or.inl rfl)) (fun _ _ _ _ _ => pts_nil)
          (fun _ _ _ _ _ => pe_call FI hr (by rfl) gI kI bI .nil pass0 (by exact (pa_cons (pv 1) pa_nil)))) pa_nil))))
        (pw_or1 (pt_cmpR op_ne (pe_ix ix_tup (pv 0) pe_int (fun _ _ => rfl)) pe_int (nomark _)))))
      (pss_one (ps_raise (W := fun cls d _ H => E cls d H) rfl (takes_of rfl rfl rfl rfl) (pmk_own PySem.F.excBase_ValueError ER.made ER.named ER.keepC (raises_own ER.isExc ER.isCls) (by rfl)))) pss_nil)
    (pss_one (ps_ret (pe_call FC hr (by rfl) gC kC bC .nil pass0 (pa_cons (pv 0) pa_nil))))), ?_⟩
  have no := fun z : b = false => k0 z H (Same.refl H)
  cases hx with
  | non => exact ⟨_, rfl, _, _, _, _, false, rfl, .ty "tuple", .base .non, kit_ty (by decide +kernel), ⟨_, rfl, iteT (iteT (no rfl))⟩⟩
  | bl b => exact ⟨_, rfl, _, _, _, _, false, rfl, .ty "tuple", .base (.bl _), kit_ty (by decide +kernel), ⟨_, rfl, iteT (iteT (no rfl))⟩⟩
  | int i => exact ⟨_, rfl, _, _, _, _, false, rfl, .ty "tuple", .base (.int _), kit_ty (by decide +kernel), ⟨_, rfl, iteT (iteT (no rfl))⟩⟩
  | str z => exact ⟨_, rfl, _, _, _, _, false, rfl, .ty "tuple", .base (.str _), kit_ty (by decide +kernel), ⟨_, rfl, iteT (iteT (no rfl))⟩⟩
  | lst h => exact ⟨_, rfl, _, _, _, _, false, rfl, .ty "tuple", .base (.lst h), kit_ty (by decide +kernel), ⟨_, rfl, iteT (iteT (no rfl))⟩⟩
  | dic h => exact ⟨_, rfl, _, _, _, _, false, rfl, .ty "tuple", .base (.dK h), kit_ty (by decide +kernel), ⟨_, rfl, iteT (iteT (no rfl))⟩⟩
  | @long a xs h l =>
    refine ⟨_, rfl, _, _, _, _, true, rfl, .ty "tuple", tyT h, kit_ty (by decide +kernel), ⟨_, rfl, iteF ⟨_, rfl, a, xs, rfl, .inr h, _, _, rfl, rfl, _, rfl, ?_⟩⟩⟩
    by_cases c : (1 : Int) ≤ (xs.length : Int)
    · rw [decide_eq_true c]
      refine iteT ⟨_, _, rfl, rfl, _, _, rfl, rfl, _, rfl, ?_⟩
      rw [decide_eq_false (by omega)]
      exact iteT (no rfl)
    · rw [decide_eq_false c]
      exact iteF ⟨_, rfl, iteT (no rfl)⟩
  | @tup a x xs h l v =>
    refine ⟨_, rfl, _, _, _, _, true, rfl, .ty "tuple", tyT h, kit_ty (by decide +kernel), ⟨_, rfl, iteF ⟨_, rfl, a, _, rfl, .inr h, _, _, rfl, rfl, _, rfl, ?_⟩⟩⟩
    have ln : (x :: xs).length = xs.length + 1 := rfl
    rw [decide_eq_true (by rw [ln]; omega)]
    refine iteT ⟨_, _, rfl, rfl, _, _, rfl, rfl, _, rfl, ?_⟩
    rw [decide_eq_true (by rw [ln]; omega)]
    refine iteF ⟨_, rfl, a, rfl, ⟨_, h⟩, fun D hD => ?_⟩
    refine lc_tup1 (xs := x :: xs) (fun y => .bl (i60 y)) hD h (by rw [ln]; omega) (fun _ => rfl) (fun n y H1 Q1 hy s1 h1 => ?_) fun H1 s1 hD1 => ?_
    · exact ⟨_, rfl, y, rfl, (v y (List.mem_of_getElem? hy)).mono s1, h1 H1 (Same.refl H1)⟩
    · refine ⟨D, (x :: xs).map i60, rfl, SqL.of (by rw [hD1, List.map_map]; rfl), _, rfl, ?_⟩
      have no1 := fun z => k0 z H1 s1
      rw [List.all_map]
      show if (!(x :: xs).all i60) = true then _ else _
      cases c : (x :: xs).all i60 with
      | false => exact iteT (iteT (no1 (by rw [c]; rfl)))
      | true =>
        have hx : i60 x = true := List.all_eq_true.mp c x List.mem_cons_self
        obtain ⟨i, rfl⟩ : ∃ i : Int, x = .int i := by
          cases x with
          | int i => exact ⟨i, rfl⟩
          | non => cases hx
          | bl b => cases hx
          | str z => cases hx
          | byt z => cases hx
          | flt z => cases hx
          | ref a => cases hx
          | ty n => cases hx
        refine iteF ⟨_, rfl, a, _, _, _, rfl, rfl, tupSame s1 h, atI_nat (j := 0) rfl, rfl, _, rfl, ?_⟩
        by_cases e : i = 1
        · subst e
          rw [show decide (V.int 1 = V.int 1) = true from decide_eq_true rfl]
          refine iteF ?_
          obtain ⟨a', S, e1, h1, l1, l2, ok, k⟩ := k1 (by rw [c]; rfl)
          cases e1
          exact ⟨_, rfl, a, S, rfl, .inr (tupSame s1 h1), l1, by omega, ok, fun H2 p s2 hp h2 => k H2 p (s1.trans s2) (none_at s1 hp) h2⟩
        · rw [show decide (V.int i = V.int 1) = false from decide_eq_false fun z => e (V.int.inj z)]
          exact iteT (no1 (by rw [c, Bool.true_and]; exact decide_eq_false fun z => e (V.int.inj z)))
end
end K7
namespace K7
open PySem PySem.Spec PyProof.Rows L2 RZ
theorem merge2 {a b r s : Int} (h : a ≠ b) : mergeK [] [((Sum.inl a : Key), V.int r), (Sum.inl b, .int s)] = ([(a, r), (b, s)] : List (Int × Int)).map kvI := by
  have z1 := put_kvI [] a r
  have z2 := put_kvI (putI [] a r) b s
  rw [← z1] at z2
  have e1 : putI [] a r = [(a, r)] := rfl
  have e2 : putI [(a, r)] b s = [(a, r), (b, s)] := by
    unfold putI
    rw [List.any_cons, List.any_nil, Bool.or_false, decide_eq_false (show ¬ a = b from h), if_neg Bool.false_ne_true]
    rfl
  rw [e1, e2] at z2
  exact z2
section
variable {P : Program} {w : World} {K : PySem.W.Frag} {mg : Str → Option Value} {base : Heap} {C N fB fI fC fS fT : Addr} {dB dI dC dS dT : FuncData}
theorem ok_soc {f : Addr} {fd : FuncData} (F : Fun K "series_of_counts" "series_of_counts" sSoC f fd) (T : Txt K mg) (ER : ErrTxt K mg "InvalidOperation" C) (gB : mg "is_between" = some (.ref fB)) (kB : PySem.W.keepIn K (.ref fB) = true) (bB : Binds K dB ["value", "least", "most"] [])
    (FB : FnOk P w K mg base CX0 3 fB dB ["value", "least", "most"] (spBetw K)) (gS : mg "_series_of" = some (.ref fS)) (kS : PySem.W.keepIn K (.ref fS) = true) (bS : Binds K dS ["counts", "most"] [])
    (FS : FnOk P w K mg base CX0 2 fS dS ["counts", "most"] (spSerT K)) : FnOk P w K mg base (L2.CX P w) 4 f fd ["counts"] (spSoC K C) := by
  refine F.okX scSoC (fun vs H Q E h => ?_) (fun cdv A outer s H vs Q E hr h => ?_)
  · obtain ⟨x, b, rfl, _⟩ := h; rfl
  obtain ⟨x, b, rfl, hx, k0, k1⟩ := h
  obtain ⟨t1, m1⟩ := T.cLOOP
  obtain ⟨t2, m2⟩ := T.cCOUNT
  refine ⟨_, pss_cons (ps_if (PW.pt (pw_or (pt_not (pt_val (pe_callB call_isi (by rfl) T.isi bootIsi (pa_cons (pv 0) (pa_cons (pe_bltn (v := .ty "tuple") (by rfl) T.tuple bootTuple rfl) pa_nil))))) (pw_or1 (pt_cmpR op_gt (pe_callB call_len_seq (by rfl) T.len PySem.boot_len (pa_cons (pv 0) pa_nil)) (pe_glob (v := .int 60) (by rfl) m1 ⟨_, rfl⟩) (nomark _)))))
      (pss_one (ps_raise (W := fun cls d _ H => E cls d H) rfl (takes_of rfl rfl rfl rfl) (pmk_own PySem.F.excBase_ValueError ER.made ER.named ER.keepC (raises_own ER.isExc ER.isCls) (by rfl)))) pss_nil)
    (pss_cons (ps_if (pt_not (pt_val (pe_callB (cr_all rfl) (by rfl) T.all bootAll (pa_cons (pe_lc (own := [("count", 1)]) (g := gName 1) rfl scSoC.nd (pi_tup (pv 0)) (blkOk_by (N := nSoC) (sc := defScope sSoC) (by decide +kernel)) (fun _ _ _ _ _ => pg_name (i := 1) scSoC.nd rfl (Or.inl rfl)) (fun _ _ _ _ _ => pts_nil)
          (fun _ _ _ _ _ => pe_call FB hr (by rfl) gB kB bB .nil pass0 (by exact (pa_cons (pv 1) (pa_cons (pe_un un_neg (pe_glob (v := .int 1000) (by rfl) m2 ⟨_, rfl⟩)) (pa_cons (pe_glob (v := .int 1000) (by rfl) m2 ⟨_, rfl⟩) pa_nil)))))) pa_nil))))
      (pss_one (ps_raise (W := fun cls d _ H => E cls d H) rfl (takes_of rfl rfl rfl rfl) (pmk_own PySem.F.excBase_ValueError ER.made ER.named ER.keepC (raises_own ER.isExc ER.isCls) (by rfl)))) pss_nil)
    (pss_one (ps_ret (pe_call (FS.mono (by decide)) hr (by rfl) gS kS bS .nil pass0 (pa_cons (pv 0) (pa_cons (pe_callB call_len_seq (by rfl) T.len PySem.boot_len (pa_cons (pv 0) pa_nil)) pa_nil)))))), ?_⟩
  have no := fun z : b = false => k0 z H (Same.refl H)
  cases hx with
  | non => exact ⟨_, rfl, _, _, _, _, false, rfl, .ty "tuple", .base .non, kit_ty (by decide +kernel), ⟨_, rfl, iteT (iteT (no rfl))⟩⟩
  | bl b => exact ⟨_, rfl, _, _, _, _, false, rfl, .ty "tuple", .base (.bl _), kit_ty (by decide +kernel), ⟨_, rfl, iteT (iteT (no rfl))⟩⟩
  | int i => exact ⟨_, rfl, _, _, _, _, false, rfl, .ty "tuple", .base (.int _), kit_ty (by decide +kernel), ⟨_, rfl, iteT (iteT (no rfl))⟩⟩
  | str z => exact ⟨_, rfl, _, _, _, _, false, rfl, .ty "tuple", .base (.str _), kit_ty (by decide +kernel), ⟨_, rfl, iteT (iteT (no rfl))⟩⟩
  | lst h => exact ⟨_, rfl, _, _, _, _, false, rfl, .ty "tuple", .base (.lst h), kit_ty (by decide +kernel), ⟨_, rfl, iteT (iteT (no rfl))⟩⟩
  | dic h => exact ⟨_, rfl, _, _, _, _, false, rfl, .ty "tuple", .base (.dK h), kit_ty (by decide +kernel), ⟨_, rfl, iteT (iteT (no rfl))⟩⟩
  | @long a xs h l =>
    refine ⟨_, rfl, _, _, _, _, true, rfl, .ty "tuple", tyT h, kit_ty (by decide +kernel), ⟨_, rfl, iteF ⟨_, rfl, a, xs, rfl, .inr h, _, _, rfl, rfl, _, rfl, ?_⟩⟩⟩
    rw [decide_eq_true (by omega)]
    exact iteT (no rfl)
  | @tup a xs h l v =>
    refine ⟨_, rfl, _, _, _, _, true, rfl, .ty "tuple", tyT h, kit_ty (by decide +kernel), ⟨_, rfl, iteF ⟨_, rfl, a, _, rfl, .inr h, _, _, rfl, rfl, _, rfl, ?_⟩⟩⟩
    rw [decide_eq_false (by omega)]
    refine iteF ⟨_, rfl, a, rfl, ⟨_, h⟩, fun D hD => ?_⟩
    refine lc_tup1 (xs := xs) (fun y => .bl (betw y (-1000) 1000)) hD h (by omega) (fun _ => rfl) (fun n y H1 Q1 hy s1 h1 => ?_) fun H1 s1 hD1 => ?_
    · exact ⟨_, rfl, _, rfl, y, -1000, 1000, rfl, (v y (List.mem_of_getElem? hy)).mono s1, h1 H1 (Same.refl H1)⟩
    · refine ⟨D, xs.map fun y => betw y (-1000) 1000, rfl, SqL.of (by rw [hD1, List.map_map]; rfl), _, rfl, ?_⟩
      have no1 := fun z => k0 z H1 s1
      rw [List.all_map]
      show if (!xs.all fun y => betw y (-1000) 1000) = true then _ else _
      cases c : xs.all fun y => betw y (-1000) 1000 with
      | false => exact iteT (no1 c)
      | true =>
        refine iteF ?_
        obtain ⟨a', L, e1, h1, l1, ok, k⟩ := k1 c
        cases e1
        exact ⟨_, rfl, _, rfl, a, _, rfl, .inr (tupSame s1 h1), a, L, L.length, by rw [← iV_len L]; rfl, tupSame s1 h1, by omega, by omega, ok, fun H2 p s2 hp h2 => k H2 p (s1.trans s2) (none_at s1 hp) h2⟩

theorem ok_free {f : Addr} {fd : FuncData} (F : Fun K "free_counts" "free_counts" sFree f fd) (T : Txt K mg) (ER : ErrTxt K mg "InvalidOperation" C) (gB : mg "is_between" = some (.ref fB)) (kB : PySem.W.keepIn K (.ref fB) = true) (bB : Binds K dB ["value", "least", "most"] [])
    (FB : FnOk P w K mg base CX0 3 fB dB ["value", "least", "most"] (spBetw K)) (gI : mg "check_between" = some (.ref fI)) (kI : PySem.W.keepIn K (.ref fI) = true) (bI : Binds K dI ["value", "least", "most"] [])
    (FI : FnOk P w K mg base (L2.CX P w) 4 fI dI ["value", "least", "most"] (spChkBE K N)) (gC : mg "_counts_to" = some (.ref fC)) (kC : PySem.W.keepIn K (.ref fC) = true) (bC : Binds K dC ["parts", "most"] [])
    (FC : FnOk P w K mg base CX0 3 fC dC ["parts", "most"] spCts) : FnOk P w K mg base (L2.CX P w) 5 f fd ["degrees", "most"] (spFree K C N) := by
  refine F.okX scFree (fun vs H Q E h => ?_) (fun cdv A outer s H vs Q E hr h => ?_)
  · obtain ⟨x, y, b, rfl, _⟩ := h; rfl
  obtain ⟨x, y, b, rfl, hx, hy, k0, k1, k2⟩ := h
  obtain ⟨t1, m1⟩ := T.cUNITS
  obtain ⟨t2, m2⟩ := T.cLEAST
  obtain ⟨t3, m3⟩ := T.cMAXLETTER
  obtain ⟨t4, m4⟩ := T.cLOOP
  have hu := hu_of hr
  refine ⟨_, pss_cons (ps_if (PW.pt (pw_or (pt_not (pt_val (pe_callB call_isi (by rfl) T.isi bootIsi (pa_cons (pv 0) (pa_cons (pe_bltn (v := .ty "tuple") (by rfl) T.tuple bootTuple rfl) pa_nil))))) (pw_or1 (pt_cmpR op_gt (pe_callB call_len_seq (by rfl) T.len PySem.boot_len (pa_cons (pv 0) pa_nil)) (pe_glob (v := .int 12) (by rfl) m1 ⟨_, rfl⟩) (nomark _)))))
      (pss_one (ps_raise (W := fun cls d _ H => E cls d H) rfl (takes_of rfl rfl rfl rfl) (pmk_own PySem.F.excBase_ValueError ER.made ER.named ER.keepC (raises_own ER.isExc ER.isCls) (by rfl)))) pss_nil)
    (pss_cons (ps_if (pt_not (pt_val (pe_callB (cr_all rfl) (by rfl) T.all bootAll (pa_cons (pe_lc (own := [("degree", 3)]) (g := gName 3) rfl scFree.nd (pi_tup (pv 0)) (blkOk_by (N := nFree) (sc := defScope sFree) (by decide +kernel)) (fun _ _ _ _ _ => pg_name (i := 3) scFree.nd rfl (Or.inl rfl)) (fun _ _ _ _ _ => pts_nil)
          (fun _ _ _ _ _ => pe_call (FB.mono (by decide)) hr (by rfl) gB kB bB .nil pass0 (by exact (pa_cons (pv 3) (pa_cons (pe_glob (v := .int 2) (by rfl) m2 ⟨_, rfl⟩) (pa_cons (pe_glob (v := .int 40) (by rfl) m3 ⟨_, rfl⟩) pa_nil)))))) pa_nil))))
      (pss_one (ps_raise (W := fun cls d _ H => E cls d H) rfl (takes_of rfl rfl rfl rfl) (pmk_own PySem.F.excBase_ValueError ER.made ER.named ER.keepC (raises_own ER.isExc ER.isCls) (by rfl)))) pss_nil)
    (pss_cons (ps_expr (pe_call FI hr (by rfl) gI kI bI .nil (passes_call (E := E) (takes_of rfl rfl rfl rfl) (fun _ _ _ _ h => h)) (pa_cons (pv 1) (pa_cons pe_int (pa_cons (pe_glob (v := .int 60) (by rfl) m4 ⟨_, rfl⟩) pa_nil)))))
    (PSs.nox (pss_cons (ps_set (i := 2) scFree.nd rfl (.inl rfl) pe_dnewK)
    (pss_cons (ps_for PassesOwn.never rfl (pi_tup (pv 0)) (pg_name (i := 3) scFree.nd rfl (.inl rfl)) (pss_one (ps_dput hu (pv 2) (pe_op op_sub (pv 3) pe_int) (pe_op op_add (pe_dget2 hu (pv 2) (pe_op op_sub (pv 3) pe_int) pe_int ⟨by rfl, by rfl, by rfl, by rfl⟩) pe_int) rfl)))
    (pss_one (ps_ret (pe_call (FC.mono (by decide)) hr (by rfl) gC kC bC .nil pass0 (pa_cons (pv 2) (pa_cons (pv 1) pa_nil)))))))))), ?_⟩
  have no := fun z : b = false => k0 z H (Same.refl H)
  cases hx with
  | non => exact ⟨_, rfl, _, _, _, _, false, rfl, .ty "tuple", .base .non, kit_ty (by decide +kernel), ⟨_, rfl, iteT (iteT (no rfl))⟩⟩
  | bl b => exact ⟨_, rfl, _, _, _, _, false, rfl, .ty "tuple", .base (.bl _), kit_ty (by decide +kernel), ⟨_, rfl, iteT (iteT (no rfl))⟩⟩
  | int i => exact ⟨_, rfl, _, _, _, _, false, rfl, .ty "tuple", .base (.int _), kit_ty (by decide +kernel), ⟨_, rfl, iteT (iteT (no rfl))⟩⟩
  | str z => exact ⟨_, rfl, _, _, _, _, false, rfl, .ty "tuple", .base (.str _), kit_ty (by decide +kernel), ⟨_, rfl, iteT (iteT (no rfl))⟩⟩
  | lst h => exact ⟨_, rfl, _, _, _, _, false, rfl, .ty "tuple", .base (.lst h), kit_ty (by decide +kernel), ⟨_, rfl, iteT (iteT (no rfl))⟩⟩
  | dic h => exact ⟨_, rfl, _, _, _, _, false, rfl, .ty "tuple", .base (.dK h), kit_ty (by decide +kernel), ⟨_, rfl, iteT (iteT (no rfl))⟩⟩
  | @long a xs h l =>
    refine ⟨_, rfl, _, _, _, _, true, rfl, .ty "tuple", tyT h, kit_ty (by decide +kernel), ⟨_, rfl, iteF ⟨_, rfl, a, xs, rfl, .inr h, _, _, rfl, rfl, _, rfl, ?_⟩⟩⟩
    rw [decide_eq_true (by omega)]
    exact iteT (no rfl)
  | @tup a xs h l v =>
    refine ⟨_, rfl, _, _, _, _, true, rfl, .ty "tuple", tyT h, kit_ty (by decide +kernel), ⟨_, rfl, iteF ⟨_, rfl, a, _, rfl, .inr h, _, _, rfl, rfl, _, rfl, ?_⟩⟩⟩
    rw [decide_eq_false (by omega)]
    refine iteF ⟨_, rfl, a, rfl, ⟨_, h⟩, fun D hD => ?_⟩
    refine lc_tup1 (xs := xs) (fun y => .bl (betw y (2) 40)) hD h (by omega) (fun _ => rfl) (fun n y H1 Q1 hy s1 h1 => ?_) fun H1 s1 hD1 => ?_
    · exact ⟨_, rfl, y, 2, 40, rfl, (v y (List.mem_of_getElem? hy)).mono s1, h1 H1 (Same.refl H1)⟩
    · refine ⟨D, xs.map fun y => betw y (2) 40, rfl, SqL.of (by rw [hD1, List.map_map]; rfl), _, rfl, ?_⟩
      have no1 := fun z => k0 z H1 s1
      rw [List.all_map]
      show if (!xs.all fun y => betw y (2) 40) = true then _ else _
      cases c : xs.all fun y => betw y (2) 40 with
      | false => exact iteT (no1 c)
      | true =>
        refine iteF ?_
        refine ⟨_, rfl, y, 0, 60, rfl, hy.mono s1, fun z => (k1 c z).mono s1, fun z => ?_⟩
        obtain ⟨a', L, M, e1, rfl, h1, l2, l12, lM, ok, k⟩ := k2 c z
        cases e1
        have ha1 := tupSame s1 h1
        refine fun d hd => ⟨_, rfl, a, rfl, ⟨_, tupSame (Same.new hd) ha1⟩, ?_⟩
        refine for_it (walk_tup (xs := iV L)) (fun i σ H' => (∃ o3, σ = [some (.ref a), some (.int (M : Int)), some (.ref d), o3]) ∧ H' d = some (.dK ((partsOf (L.take i)).map kvI)) ∧ ∀ b u, b ≠ d → H1 b = some u → H' b = some u)
          ⟨⟨none, rfl⟩, upd_same, fun b u n e => by rw [upd_ne n]; exact e⟩ (fun i σ H' _ q => ?_) (fun i x σ H9 H2 hi q y => ?_) fun σ H2 q => ?_
        · rcases ha1 with (e | ⟨ob, e⟩) | e
          · exact .inl (.inl (q.2.2 _ _ (ne_of_none e hd) e))
          · exact .inl (.inr ⟨ob, q.2.2 _ _ (ne_of_none e hd) e⟩)
          · exact .inr e
        · obtain ⟨⟨o3, rfl⟩, hd2, s2⟩ := q
          obtain ⟨rfl, hx⟩ := y
          rw [iV_len] at hi
          rw [iV_getD hi] at hx
          cases hx
          have e : L[i]? = some (L.getD i 0) := by rw [List.getD_eq_getElem?_getD, List.getElem?_eq_getElem hi]; rfl
          have po := parts_ok L l2 i (by omega)
          refine ⟨_, rfl, d, rfl, .inl ⟨_, .inl hd2⟩, _, rfl, _, _, rfl, rfl, _, DGet.k (k := Sum.inl (L.getD i 0 - 1)) hd2, ?_⟩
          rw [val_kvI]
          refine ⟨(getI (partsOf (L.take i)) (L.getD i 0 - 1)).getD 0, 1, by cases getI (partsOf (L.take i)) (L.getD i 0 - 1) <;> rfl, rfl, _, rfl, _, rfl, _, _, rfl, rfl, d, _, rfl, DPut.k (k := Sum.inl (L.getD i 0 - 1)) hd2 (small1000 (by rw [List.length_map]; omega)), ⟨_, rfl⟩, ?_, fun b u n e => by rw [upd_ne n]; exact s2 b u n e⟩
          rw [upd_same, put_kvI, take_more e, partsOf_snoc]
        · obtain ⟨⟨o3, rfl⟩, hd2, s2⟩ := q
          rw [iV_len, List.take_length] at hd2
          have po := parts_ok L l2 L.length (Nat.le_refl _)
          rw [List.take_length] at po
          have sd : Same H H2 := fun b u e => s2 b u (ne_of_none (s1 _ _ e) hd) (s1 _ _ e)
          refine ⟨_, rfl, _, rfl, d, partsOf L, M, rfl, hd2, by omega, by omega, fun p hp => ?_, ok, fun H3 p s3 hp h3 => k H3 p (sd.trans s3) (none_at sd hp) h3⟩
          have z := po.1 p hp
          exact ⟨z.1, by omega, by omega⟩

theorem ok_paired {f : Addr} {fd : FuncData} (F : Fun K "paired_counts" "paired_counts" sPaired f fd) (T : Txt K mg) (ER : ErrTxt K mg "InvalidOperation" C) (gI : mg "check_between" = some (.ref fI)) (kI : PySem.W.keepIn K (.ref fI) = true) (bI : Binds K dI ["value", "least", "most"] [])
    (FI : FnOk P w K mg base (L2.CX P w) 4 fI dI ["value", "least", "most"] (spChkBE K N)) (gC : mg "_counts_to" = some (.ref fC)) (kC : PySem.W.keepIn K (.ref fC) = true) (bC : Binds K dC ["parts", "most"] [])
    (FC : FnOk P w K mg base CX0 3 fC dC ["parts", "most"] spCts) : FnOk P w K mg base (L2.CX P w) 5 f fd ["many", "degree", "most"] (spPaired K C N) := by
  refine F.okX scPaired (fun vs H Q E h => ?_) (fun cdv A outer s H vs Q E hr h => ?_)
  · obtain ⟨x, y, z, rfl, _⟩ := h; rfl
  obtain ⟨x, y, z, rfl, hx, hy, hz, k1, k2, k3, k4⟩ := h
  obtain ⟨t1, m1⟩ := T.cUNITS
  obtain ⟨t2, m2⟩ := T.cLEAST
  obtain ⟨t3, m3⟩ := T.cMAXLETTER
  obtain ⟨t4, m4⟩ := T.cLOOP
  refine ⟨_, pss_cons (ps_expr (pe_call FI hr (by rfl) gI kI bI .nil (passes_call (E := E) (takes_of rfl rfl rfl rfl) (fun _ _ _ _ h => h)) (pa_cons (pv 0) (pa_cons pe_int (pa_cons (pe_glob (v := .int 12) (by rfl) m1 ⟨_, rfl⟩) pa_nil)))))
    (pss_cons (ps_expr (pe_call FI hr (by rfl) gI kI bI .nil (passes_call (E := E) (takes_of rfl rfl rfl rfl) (fun _ _ _ _ h => h)) (pa_cons (pv 1) (pa_cons (pe_glob (v := .int 2) (by rfl) m2 ⟨_, rfl⟩) (pa_cons (pe_glob (v := .int 40) (by rfl) m3 ⟨_, rfl⟩) pa_nil)))))
    (pss_cons (ps_expr (pe_call FI hr (by rfl) gI kI bI .nil (passes_call (E := E) (takes_of rfl rfl rfl rfl) (fun _ _ _ _ h => h)) (pa_cons (pv 2) (pa_cons pe_int (pa_cons (pe_glob (v := .int 60) (by rfl) m4 ⟨_, rfl⟩) pa_nil)))))
    (pss_cons (ps_if (PW.pt (pw_and (pt_cmpR op_eq (pe_op op_mod (pv 1) pe_int) pe_int (nomark _)) (pw_and1 (pt_cmpR op_eq (pe_op op_mod (pv 0) pe_int) pe_int (nomark _)))))
      (pss_one (ps_raise (W := fun cls d _ H => E cls d H) rfl (takes_of rfl rfl rfl rfl) (pmk_own PySem.F.excBase_ValueError ER.made ER.named ER.keepC (raises_own ER.isExc ER.isCls) (by rfl)))) pss_nil)
    (pss_one (ps_ret (pe_call (FC.mono (by decide)) hr (by rfl) gC kC bC .nil pass0 (pa_cons (pe_disp (pps_cons (pe_op op_sub (pv 1) pe_int) (pv 0) (pps_cons (pe_op op_sub (pe_op op_mul pe_int (pv 1)) pe_int) (pe_un un_neg pe_int) pps_nil)) rfl rfl (by simp) (by decide)) (pa_cons (pv 2) pa_nil)))))))), ?_⟩
  refine ⟨_, rfl, x, 2, 12, rfl, hx, k1, fun b1 => ⟨_, rfl, y, 2, 40, rfl, hy, k2 b1, fun b2 => ⟨_, rfl, z, 0, 60, rfl, hz, k3 b1 b2, fun b3 => ?_⟩⟩⟩
  obtain ⟨r, m, M, rfl, rfl, rfl, r1, r2, d1, d2, hM, h⟩ := k4 b1 b2 b3
  have go : ¬ (m % 2 = 1 ∧ r % 2 = 1) → countsOk (ctAt (pairParts r m) (M - 1) (M - 1)) = true → (∀ H' p, Same H H' → H p = none → H' p = some (.tup (iV (ctsTo (pairParts r m) M))) → Q (.ref p) H') →
      (tRet (tCall spCts [] E0 (tCons (tDisp [(tOp (rI0 fun i j => .int (i - j)) (tVar 1) (tC (.int 1)), tVar 0), (tOp (rI0 fun i j => .int (i - j)) (tOp (rI CMul fun i j => .int (i * j)) (tC (.int 2)) (tVar 1)) (tC (.int 2)), tUn (fun x H Q => ∃ i, x = .int i ∧ Q (.int (-i)) H) (tC (.int 1)))]) (tCons (tVar 2) tNil))))
        { nx := fun _ H' => Q .non H', rt := Q } [some (.int r), some (.int m), some (.int (M : Int))] H := fun _ ok k => by
    refine fun d hd => ⟨_, rfl, _, _, rfl, rfl, _, rfl, _, rfl, _, _, rfl, rfl, .inl ⟨by decide, by decide⟩, _, _, rfl, rfl, _, rfl, upd_same, [(Sum.inl (m - 1), .int r), (Sum.inl (2 * m - 2), .int (-1))], rfl, (by show 2 ≤ 15; decide), ?_⟩
    have e : mergeK [] [((Sum.inl (m - 1) : Key), V.int r), (Sum.inl (2 * m - 2), .int (-1))] = (pairParts r m).map kvI := merge2 (by omega)
    rw [e, upd_upd]
    refine ⟨_, rfl, d, pairParts r m, M, rfl, upd_same, (by show 2 ≤ 50; decide), by omega, fun p hp => ?_, ok, fun H3 p s3 hp h3 => k H3 p ((Same.new hd).trans s3) (none_at (Same.new hd) hp) h3⟩
    rcases List.mem_cons.mp hp with e | e
    · subst e
      exact ⟨by show 1 ≤ m - 1; omega, by show -(2 ^ 64) < r; omega, by show r < 2 ^ 64; omega⟩
    · obtain rfl := List.mem_singleton.mp e
      exact ⟨by show 1 ≤ 2 * m - 2; omega, by show -(2 ^ 64) < (-1 : Int); decide, by show (-1 : Int) < 2 ^ 64; decide⟩
  refine ⟨_, rfl, _, _, rfl, rfl, (by show (0 : Int) < 2; decide), rfl, _, rfl, ?_⟩
  by_cases cm : m % 2 = 1
  · rw [show decide (V.int (m % 2) = V.int 1) = true from decide_eq_true (by rw [cm])]
    refine iteT ⟨_, rfl, _, _, rfl, rfl, (by show (0 : Int) < 2; decide), rfl, _, rfl, ?_⟩
    by_cases cr : r % 2 = 1
    · rw [show decide (V.int (r % 2) = V.int 1) = true from decide_eq_true (by rw [cr])]
      rcases h with ⟨_, _, k0⟩ | ⟨z, _⟩
      · exact iteT (k0 H (Same.refl H))
      · exact absurd ⟨cm, cr⟩ z
    · rw [show decide (V.int (r % 2) = V.int 1) = false from decide_eq_false fun z => cr (V.int.inj z)]
      rcases h with ⟨_, z, _⟩ | ⟨z, ok, k⟩
      · exact absurd z cr
      · exact iteF (go z ok k)
  · rw [show decide (V.int (m % 2) = V.int 1) = false from decide_eq_false fun z => cm (V.int.inj z)]
    rcases h with ⟨z, _⟩ | ⟨z, ok, k⟩
    · exact absurd z cm
    · exact iteF (iteF (go z ok k))
end
end K7
namespace K7
/-! ### checking with the steps left out that change nothing -/
theorem ex_zero (size : Nat) : ex size 0 = 0 := by
  unfold ex
  split <;> rfl
theorem bn_zero (s : Int) : ∀ m, bn s 0 (m + 1) = 0
  | 0 => by
    rw [bn, bn, show (0 : Int) - ((0 + 1 : Nat) : Int) + 1 = 0 by omega, Int.mul_zero, Int.zero_ediv]
  | m + 1 => by rw [bn, bn_zero s m, Int.mul_zero, Int.zero_mul, Int.zero_ediv]
theorem addUp_zero (f s : List Int) (off n : Nat) : addUp f s off 0 n = f := by
  refine List.ext_getElem? fun i => ?_
  by_cases hi : i < f.length
  · rw [addUp_get _ _ _ _ _ _ hi, Int.zero_mul, Int.add_zero, ite_self, List.getElem?_eq_getElem hi, List.getD_eq_getElem?_getD, List.getElem?_eq_getElem hi]
    rfl
  · rw [List.getElem?_eq_none (by rw [addUp_len]; omega), List.getElem?_eq_none (by omega)]
theorem wfAt_zero (series : List Int) (size : Nat) (s : Int) : ∀ m, wfAt series size s 0 m = series
  | 0 => rfl
  | m + 1 => by rw [wfAt, bn_zero, addUp_zero, wfAt_zero series size s m]
theorem wf_zero (series : List Int) (size : Nat) : wf series size 0 = series := by rw [wf, ex_zero, wfAt_zero]
def smallAll (series : List Int) : Bool := series.all fun x => decide (x.natAbs.log2 < 900000)
theorem wfOk_zero {series : List Int} {size : Nat} (h : smallAll series = true) (l : series.length ≤ 1000) : wfOk series size 0 = true := by
  unfold wfOk
  rw [ex_zero, List.all_eq_true]
  intro m hm
  have m1 : m < 1000 := by
    have a := List.mem_range.mp hm
    have b := Nat.div_le_self (series.length - 1) size
    omega
  rw [Bool.and_eq_true]
  refine ⟨decide_eq_true ?_, ?_⟩
  · cases m with
    | zero =>
      rw [show (0 : Int) - ((0 + 1 : Nat) : Int) + 1 = 0 by omega, bn, Int.mul_one]
      unfold sg
      split <;> decide
    | succ m =>
      rw [bn_zero, Int.mul_zero]
      have a := Nat.log2_le_self ((0 : Int) - ((m + 1 + 1 : Nat) : Int) + 1).natAbs
      have b : ((0 : Int) - ((m + 1 + 1 : Nat) : Int) + 1).natAbs = m + 1 := by omega
      rw [b] at a ⊢
      show Nat.log2 0 + _ < _
      have z : Nat.log2 0 = 0 := by decide
      omega
  · rw [List.all_eq_true]
    intro x hx
    refine decide_eq_true ?_
    rw [bn_zero]
    have a : x.natAbs.log2 < 900000 := of_decide_eq_true (List.all_eq_true.mp h x hx)
    show Nat.log2 0 + _ < _
    have z : Nat.log2 0 = 0 := by decide
    omega
def coOkF : Nat → Nat → List Int → Bool
  | 0, _, _ => true
  | f + 1, k, r => if r.getD (k + 1) 0 = 0 then smallAll r && coOkF f (k + 1) r else wfOk r (k + 1) (-(r.getD (k + 1) 0)) && coOkF f (k + 1) (wf r (k + 1) (-(r.getD (k + 1) 0)))
theorem coOkF_ok : ∀ (f k : Nat) (r : List Int), r.length ≤ 1000 → coOkF f k r = true → coOk f k r = true
  | 0, _, _, _, _ => rfl
  | f + 1, k, r, l, h => by
    rw [coOkF] at h
    rw [coOk, Bool.and_eq_true]
    by_cases e : r.getD (k + 1) 0 = 0
    · rw [if_pos e, Bool.and_eq_true] at h
      rw [e, Int.neg_zero, wf_zero]
      exact ⟨wfOk_zero h.1 l, coOkF_ok f (k + 1) r l h.2⟩
    · rw [if_neg e, Bool.and_eq_true] at h
      exact ⟨h.1, coOkF_ok f (k + 1) _ (by rw [wf_len]; exact l) h.2⟩
def seOkF : List Int → Nat → List Int → Bool
  | [], _, _ => true
  | c :: cs, k, r => if c = 0 then smallAll r && seOkF cs (k + 1) r else wfOk r (k + 1) c && seOkF cs (k + 1) (wf r (k + 1) c)
theorem seOkF_ok : ∀ (cs : List Int) (k : Nat) (r : List Int), r.length ≤ 1000 → seOkF cs k r = true → seOk cs k r = true
  | [], _, _, _, _ => rfl
  | c :: cs, k, r, l, h => by
    rw [seOkF] at h
    rw [seOk, Bool.and_eq_true]
    by_cases e : c = 0
    · rw [if_pos e, Bool.and_eq_true] at h
      subst e
      rw [wf_zero]
      exact ⟨wfOk_zero h.1 l, seOkF_ok cs (k + 1) r l h.2⟩
    · rw [if_neg e, Bool.and_eq_true] at h
      exact ⟨h.1, seOkF_ok cs (k + 1) _ (by rw [wf_len]; exact l) h.2⟩
theorem countsOk_of {S : List Int} (l : S.length ≤ 1000) (h : coOkF (S.length - 1) 0 S = true) : countsOk S = true := coOkF_ok _ _ _ l h
theorem seriesOk_of {C : List Int} {N : Nat} (l : N ≤ 900) (h : seOkF C 0 (one N) = true) : seriesOk C N = true := seOkF_ok _ _ _ (by rw [one_len]; omega) h
end K7
namespace K7
open PySem PySem.Spec PyProof.Rows L2 LamX
theorem sl {n : Nat} (h : n ≤ 1000) : n ≤ sizeLine := Nat.le_of_lt (small1000 h)
/-! ### readings made stronger -/
theorem peImp {X : Cx} {e : Expr} {t t' : TE} (h : PE X e t) (i : ∀ σ H Q, t' σ H Q → t σ H Q) : PE X e t' := ⟨fun pins s σ H Q I q => h.run pins s σ H Q I (i _ _ _ q)⟩
theorem paImp {X : Cx} {es : List Expr} {t t' : TA} (h : PA X es t) (i : ∀ σ H Q, t' σ H Q → t σ H Q) : PA X es t' := ⟨fun pos pins s σ H Q I q => h.run pos pins s σ H Q I (i _ _ _ q)⟩
theorem psImp {X : Cx} {e : Stmt} {t t' : TS} (h : PS X e t) (i : ∀ D σ H, t' D σ H → t D σ H) : PS X e t' := ⟨fun pins s σ H Q I q => h.run pins s σ H Q I (i _ _ _ q)⟩
/-! ### what stays: all but the lists at S; all but these and the tables of code -/
def NoLst (o : HO) : Prop := ∀ xs, o ≠ .lst xs
def NoTbl (o : HO) : Prop := ∀ ps, o ≠ .tbl ps
def Kq (S : List Addr) (H H' : Hp) : Prop := ∀ b o, H b = some o → (b ∉ S ∨ NoLst o) → H' b = some o
def Kp (S : List Addr) (H H' : Hp) : Prop := ∀ b o, H b = some o → (b ∉ S ∨ NoLst o) → NoTbl o → H' b = some o
theorem tup_nl (xs : List V) : NoLst (.tup xs) := fun _ z => nomatch z
theorem tup_nt (xs : List V) : NoTbl (.tup xs) := fun _ z => nomatch z
theorem lst_nt (xs : List V) : NoTbl (.lst xs) := fun _ z => nomatch z
theorem dk_nl (kvs : List (Key × V)) : NoLst (.dK kvs) := fun _ z => nomatch z
theorem dk_nt (kvs : List (Key × V)) : NoTbl (.dK kvs) := fun _ z => nomatch z
theorem Kq.refl (S : List Addr) (H : Hp) : Kq S H H := fun _ _ h _ => h
theorem Kq.trans {S : List Addr} {H H1 H2 : Hp} (a : Kq S H H1) (b : Kq S H1 H2) : Kq S H H2 := fun c o h n => b c o (a c o h n) n
theorem Kp.refl (S : List Addr) (H : Hp) : Kp S H H := fun _ _ h _ _ => h
theorem Kp.trans {S : List Addr} {H H1 H2 : Hp} (a : Kp S H H1) (b : Kp S H1 H2) : Kp S H H2 := fun c o h n t => b c o (a c o h n t) n t
theorem Kq.kp {S : List Addr} {H H1 : Hp} (a : Kq S H H1) : Kp S H H1 := fun c o h n _ => a c o h n
theorem Kp.of {S : List Addr} {H H1 : Hp} (a : ExtN H H1) : Kp S H H1 := fun c o h _ t => a c o h t
theorem Kq.same {S : List Addr} {H H1 : Hp} (a : Same H H1) : Kq S H H1 := fun c o h _ => a c o h
theorem Kq.new {S : List Addr} {H : Hp} {p : Addr} {o : HO} (hp : H p = none) : Kq S H (upd H p o) := fun c u h _ => by
  rw [upd_ne (ne_of_none h hp)]
  exact h
theorem Kq.write {S : List Addr} {H : Hp} {s : Addr} {xs : List V} {o : HO} (hs : s ∈ S) (h : H s = some (.lst xs)) : Kq S H (upd H s o) := fun c u e n => by
  by_cases z : c = s
  · subst z
    rw [h] at e
    cases e
    rcases n with n | n
    · exact absurd hs n
    · exact absurd rfl (n xs)
  · rw [upd_ne z]
    exact e
theorem tab_kq {S : List Addr} {H H' : Hp} {P : Addr} {q : Str} (t : TabS H P q) (k : Kq S H H') : TabS H' P q := by
  obtain ⟨ps, h1, h2, h3⟩ := t
  refine ⟨ps, k _ _ h1 (.inr fun _ z => nomatch z), h2, fun pos cv hc => ?_⟩
  obtain ⟨c, e1, e2⟩ := h3 pos cv hc
  exact ⟨c, e1, k _ _ e2 (.inr fun _ z => by unfold CodeO at z; cases z)⟩
theorem tabs_kq {S : List Addr} {T : List (Addr × Str)} {H H' : Hp} (t : Tabs T H) (k : Kq S H H') : Tabs T H' := fun p hp => tab_kq (t p hp) k
theorem none_back {H H' : Hp} {p : Addr} (s : Same H H') (h : H' p = none) : H p = none := by
  cases e : H p with
  | none => rfl
  | some o =>
    rw [s p o e] at h
    cases h
/-! ### data -/
mutual
/-- x is the data d; its lists stand at addresses of N -/
inductive Da (N : Addr → Prop) (H : Hp) : V → PyData → Prop
  | non : Da N H .non .none
  | bl (b : Bool) : Da N H (.bl b) (.bool b)
  | int (i : Int) : Da N H (.int i) (.int i)
  | str (z : Str) : Da N H (.str z) (.str z)
  | tup {a : Addr} {xs : List V} {ds : List PyData} (e : H a = some (.tup xs)) (h : DaL N H xs ds) : Da N H (.ref a) (.tuple ds)
  | lst {a : Addr} {xs : List V} {ds : List PyData} (e : H a = some (.lst xs)) (n : N a) (h : DaL N H xs ds) : Da N H (.ref a) (.list ds)
  | dic {a : Addr} (e : H a = some (.dK [])) : Da N H (.ref a) (.dict [])
inductive DaL (N : Addr → Prop) (H : Hp) : List V → List PyData → Prop
  | nil : DaL N H [] []
  | cons {v : V} {vs : List V} {d : PyData} {ds : List PyData} (h : Da N H v d) (r : DaL N H vs ds) : DaL N H (v :: vs) (d :: ds)
end
section
variable {N M : Addr → Prop} {H H' : Hp} (f : ∀ a o, H a = some o → N a → M a) (k : ∀ b o, H b = some o → (N b ∨ NoLst o) → NoTbl o → H' b = some o)
include f k
mutual
theorem Da.map : ∀ (d : PyData) (x : V), Da N H x d → Da M H' x d
  | .none, _, h => by cases h; exact .non
  | .bool b, _, h => by cases h; exact .bl b
  | .int i, _, h => by cases h; exact .int i
  | .str z, _, h => by cases h; exact .str z
  | .tuple ds, _, h => by
    cases h with
    | tup e h => exact .tup (k _ _ e (.inr (tup_nl _)) (tup_nt _)) (DaL.map ds _ h)
  | .list ds, _, h => by
    cases h with
    | lst e n h => exact .lst (k _ _ e (.inl n) (lst_nt _)) (f _ _ e n) (DaL.map ds _ h)
  | .dict _, _, h => by
    cases h with
    | dic e => exact .dic (k _ _ e (.inr (dk_nl _)) (dk_nt _))
theorem DaL.map : ∀ (ds : List PyData) (xs : List V), DaL N H xs ds → DaL M H' xs ds
  | [], _, h => by cases h; exact .nil
  | d :: ds, _, h => by
    cases h with
    | cons h r => exact .cons (Da.map d _ h) (DaL.map ds _ r)
end
end
section
variable {S : List Addr} {H H' : Hp}
abbrev Ds (S : List Addr) (H : Hp) (x : V) (d : PyData) : Prop := Da (fun a => a ∉ S) H x d
abbrev DsL (S : List Addr) (H : Hp) (xs : List V) (ds : List PyData) : Prop := DaL (fun a => a ∉ S) H xs ds
abbrev Dn (H0 H : Hp) (x : V) (d : PyData) : Prop := Da (fun a => H0 a = none) H x d
abbrev DnL (H0 H : Hp) (xs : List V) (ds : List PyData) : Prop := DaL (fun a => H0 a = none) H xs ds
theorem Ds.mono {x : V} {d : PyData} (h : Ds S H x d) (k : Kp S H H') : Ds S H' x d := Da.map (fun _ _ _ n => n) k d x h
theorem DsL.mono {x : List V} {d : List PyData} (h : DsL S H x d) (k : Kp S H H') : DsL S H' x d := DaL.map (fun _ _ _ n => n) k d x h
theorem Da.mono {N M : Addr → Prop} {x : V} {d : PyData} (h : Da N H x d) (s : Same H H') (f : ∀ a, N a → M a) : Da M H' x d := Da.map (fun a _ _ n => f a n) (fun b o e _ _ => s b o e) d x h
theorem DaL.mono {N M : Addr → Prop} {x : List V} {d : List PyData} (h : DaL N H x d) (s : Same H H') (f : ∀ a, N a → M a) : DaL M H' x d := DaL.map (fun a _ _ n => f a n) (fun b o e _ _ => s b o e) d x h
theorem DaL.len {N : Addr → Prop} : ∀ {xs : List V} {ds : List PyData}, DaL N H xs ds → xs.length = ds.length
  | _, [], h => by cases h; rfl
  | _, d :: ds, h => by
    cases h with
    | cons h r => rw [List.length_cons, List.length_cons, DaL.len r]
theorem DaL.mem {N : Addr → Prop} {x : V} : ∀ {xs : List V} {ds : List PyData}, DaL N H xs ds → x ∈ xs → ∃ d, d ∈ ds ∧ Da N H x d
  | _, [], h, m => by cases h; cases m
  | _, d :: ds, h, m => by
    cases h with
    | cons h r =>
      rcases List.mem_cons.mp m with e | e
      · subst e
        exact ⟨_, List.mem_cons_self, h⟩
      · obtain ⟨d, h1, h2⟩ := DaL.mem r e
        exact ⟨d, List.mem_cons_of_mem _ h1, h2⟩
theorem DaL.append {N : Addr → Prop} {ys : List V} {es : List PyData} : ∀ {xs : List V} {ds : List PyData}, DaL N H xs ds → DaL N H ys es → DaL N H (xs ++ ys) (ds ++ es)
  | _, [], h, m => by cases h; exact m
  | _, d :: ds, h, m => by
    cases h with
    | cons h r => exact .cons h (DaL.append r m)
theorem DaL.rep {N : Addr → Prop} {xs : List V} {ds : List PyData} (h : DaL N H xs ds) : ∀ k : Nat, DaL N H (List.replicate k xs).flatten (List.replicate k ds).flatten
  | 0 => .nil
  | k + 1 => by
    rw [List.replicate_succ, List.replicate_succ, List.flatten_cons, List.flatten_cons]
    exact DaL.append h (DaL.rep h k)
/-- new data stand apart from what was there -/
theorem Dn.apart {H0 : Hp} {x : V} {d : PyData} (h : Dn H0 H x d) (hS : ∀ s ∈ S, H0 s ≠ none) : Ds S H x d := h.mono (Same.refl H) fun a n z => hS a z n
theorem DnL.apart {H0 : Hp} {x : List V} {d : List PyData} (h : DnL H0 H x d) (hS : ∀ s ∈ S, H0 s ≠ none) : DsL S H x d := h.mono (Same.refl H) fun a n z => hS a z n
end
/-- one address more that is left out: a new one -/
theorem Ds.more {S : List Addr} {H : Hp} {x : V} {d : PyData} {l : Addr} (h : Ds S H x d) (hl : H l = none) : Ds (l :: S) H x d :=
  Da.map (fun a o e n z => (List.mem_cons.mp z).elim (fun z => ne_of_none e hl z) n) (fun _ _ e _ _ => e) d x h
theorem Ds.sub {S M : List Addr} {H : Hp} {x : V} {d : PyData} (h : Ds S H x d) (hl : ∀ a, a ∈ M → a ∈ S) : Ds M H x d :=
  Da.map (fun a o e n z => n (hl a z)) (fun _ _ e _ _ => e) d x h
/-! ### displays of data -/
def tDat (d : PyData) : TE := fun _ H Q => ∀ x H', Same H H' → Dn H H' x d → Q x H'
def tDats (ds : List PyData) : TA := fun _ H Q => ∀ xs H', Same H H' → DnL H H' xs ds → Q xs H'
section
variable {X : Cx} {e : Expr} {es : List Expr} {d : PyData} {ds : List PyData} {pos : Pos}
theorem pd_non {j} : PE X (.Constant .none j pos) (tDat .none) := peImp pe_non fun _ H _ h => h _ _ (Same.refl H) .non
theorem pd_bl {b j} : PE X (.Constant (.bool b) j pos) (tDat (.bool b)) := peImp pe_bl fun _ H _ h => h _ _ (Same.refl H) (.bl b)
theorem pd_int {i j} : PE X (.Constant (.int i) j pos) (tDat (.int i)) := peImp pe_int fun _ H _ h => h _ _ (Same.refl H) (.int i)
theorem pd_str {z j} : PE X (.Constant (.str z) j pos) (tDat (.str z)) := peImp pe_str fun _ H _ h => h _ _ (Same.refl H) (.str z)
theorem pd_neg {i j p2} : PE X (.UnaryOp .USub (.Constant (.int i) j p2) pos) (tDat (.int (-i))) := peImp (pe_un un_neg pe_int) fun _ H _ h => ⟨i, rfl, h _ _ (Same.refl H) (.int (-i))⟩
theorem pd_pow {i k : Int} {j j2 p2 p3} (c : CPow i k) : PE X (.BinOp (.Constant (.int i) j p2) .Pow (.Constant (.int k) j2 p3) pos) (tDat (.int (i ^ k.toNat))) := peImp (pe_op op_pow pe_int pe_int) fun _ H _ h => ⟨i, k, rfl, rfl, c, h _ _ (Same.refl H) (.int _)⟩
theorem pd_dic : PE X (.Dict [] [] pos) (tDat (.dict [])) := peImp pe_dnewK fun _ H _ h p hp => h _ _ (Same.new hp) (.dic upd_same)
theorem pds_nil : PA X [] (tDats []) := paImp pa_nil fun _ H _ h => h _ _ (Same.refl H) .nil
theorem pds_cons (ha : PE X e (tDat d)) (hr : PA X es (tDats ds)) (hs : starEach (e :: es) X.env = (false, eval e X.env) :: starEach es X.env := by rfl) : PA X (e :: es) (tDats (d :: ds)) :=
  paImp (pa_cons ha hr hs) fun _ H _ h x H1 s1 d1 xs H2 s2 d2 => h (x :: xs) H2 (s1.trans s2) (.cons (d1.mono s2 fun _ n => n) (d2.mono (Same.refl H2) fun _ n => none_back s1 n))
theorem pd_tup {x1} (h : PA X es (tDats ds)) (hl : ds.length < 1000 := by decide) : PE X (.Tuple es x1 pos) (tDat (.tuple ds)) :=
  peImp (pe_tup h) fun _ H _ q xs H1 s1 d1 => ⟨sl (by rw [d1.len]; omega), fun p hp => q _ _ (s1.trans (Same.new hp)) (.tup upd_same (d1.mono (Same.new hp) fun _ n => n))⟩
theorem pd_lst (h : PA X es (tDats ds)) (hl : ds.length < 1000 := by decide) : PE X (.List es pos) (tDat (.list ds)) :=
  peImp (pe_lst h) fun _ H _ q xs H1 s1 d1 => ⟨sl (by rw [d1.len]; omega), fun p hp => q _ _ (s1.trans (Same.new hp)) (.lst upd_same (none_back s1 hp) (d1.mono (Same.new hp) fun _ n => n))⟩
/-- a tuple, some times -/
theorem pd_rep {k : Int} {j p2} (h : PE X e (tDat (.tuple ds))) (h0 : ds ≠ [] := by simp) (h1 : 2 ≤ k := by decide) (h2 : k ≤ 1000 := by decide) (hl : ds.length ≤ 1000 := by decide) : PE X (.BinOp e .Mult (.Constant (.int k) j p2) pos) (tDat (.tuple (List.replicate k.toNat ds).flatten)) :=
  peImp (pe_op op_repT h pe_int) fun _ H _ q x H1 s1 d1 => by
    cases d1 with
    | @tup a xs _ e d1 =>
      have l := d1.len
      exact ⟨a, k, xs, rfl, rfl, SqT.of e, fun z => h0 (List.eq_nil_of_length_eq_zero (by rw [← l, z]; rfl)), h1, h2, by omega, fun p hp => q _ _ (s1.trans (Same.new hp)) (.tup upd_same (DaL.rep (d1.mono (Same.new hp) fun _ n => n) _))⟩
theorem pd_cat {e2 : Expr} {es2 : List PyData} (h : PE X e (tDat (.tuple ds))) (g : PE X e2 (tDat (.tuple es2))) (h0 : ds ≠ [] := by simp) (h1 : es2 ≠ [] := by simp) (hl : ds.length + es2.length ≤ 1000 := by decide) : PE X (.BinOp e .Add e2 pos) (tDat (.tuple (ds ++ es2))) :=
  peImp (pe_op op_catT h g) fun _ H _ q x H1 s1 d1 y H2 s2 d2 => by
    cases d1 with
    | @tup a xs _ e d1 =>
      cases d2 with
      | @tup b ys _ e2 d2 =>
        have l := d1.len
        have l2 := d2.len
        exact ⟨a, b, xs, ys, rfl, rfl, SqT.of (s2 _ _ e), SqT.of e2, fun z => h0 (List.eq_nil_of_length_eq_zero (by rw [← l, z]; rfl)), sl (by omega), fun z => absurd (List.eq_nil_of_length_eq_zero (by rw [← l2, z]; rfl)) h1, fun _ p hp =>
          q _ _ ((s1.trans s2).trans (Same.new hp)) (.tup upd_same (DaL.append (d1.mono (s2.trans (Same.new hp)) fun _ n => n) (d2.mono (Same.new hp) fun _ n => none_back s1 n)))⟩
end
/-! ### what data are -/
section
variable {K : PySem.W.Frag} {N : Addr → Prop} {H : Hp}
theorem Da.vk {x : V} {d : PyData} (h : Da N H x d) : Vk K H x := by
  cases h with
  | non => exact .non
  | bl b => exact .bl b
  | int i => exact .int i
  | str z => exact .str z
  | tup e h => exact .tup (SqT.of e)
  | lst e n h => exact .lst e
  | dic e => exact .dic e
theorem DaL.vks {x : V} {xs : List V} {ds : List PyData} (h : DaL N H xs ds) (m : x ∈ xs) : Vk K H x := by
  obtain ⟨d, _, h⟩ := h.mem m
  exact h.vk
mutual
theorem Da.dp : ∀ (d : PyData) (x : V), d.hasDict = false → Da N H x d → Dp K H x d
  | .none, _, _, h => by cases h; exact .non
  | .bool b, _, _, h => by cases h; exact .bl b
  | .int i, _, _, h => by cases h; exact .int i
  | .str z, _, _, h => by cases h; exact .str z
  | .tuple ds, _, n, h => by
    cases h with
    | tup e h => exact .tup (SqT.of e) (DaL.dp ds _ n h)
  | .list ds, _, n, h => by
    cases h with
    | lst e _ h => exact .lst (SqL.of e) (DaL.dp ds _ n h)
  | .dict _, _, n, h => by cases n
theorem DaL.dp : ∀ (ds : List PyData) (xs : List V), PyData.hasDictAll ds = false → DaL N H xs ds → DpAll K H xs ds
  | [], _, _, h => by cases h; exact .nil
  | d :: ds, _, n, h => by
    cases h with
    | cons h r =>
      have n' : (d.hasDict || PyData.hasDictAll ds) = false := n
      rw [Bool.or_eq_false_iff] at n'
      exact .cons (Da.dp d _ n'.1 h) (DaL.dp ds _ n'.2 r)
end
end
end K7
namespace K7
open PySem PySem.Spec PyProof.Rows L2
/-! ### repr of data, where no repr is under way -/
/-- repr(x) is the text z -/
def Shown (K : PySem.W.Frag) (H : Hp) (x : V) (z : Str) : Prop := ∃ d : PyData, Dp K H x d ∧ d.showable = true ∧ d.hasDict = false ∧ d.depth ≤ 60 ∧ d.shown.length ≤ sizeLine ∧ z = d.shown
theorem call_reprS {X : Cx} (hg : X.A.guards = some []) (hu : X.A.units + 64 < cLine) : CallR X (.builtin "repr") (fun xs H Q => ∃ (x : V) (z : Str), xs = [x] ∧ Shown X.K H x z ∧ Q (.str z) H) := by
  intro pins s σ H xs us Q I r h
  obtain ⟨x, z, rfl, ⟨d, dp, sh, nd, de, le, rfl⟩, q⟩ := h
  obtain ⟨u, rfl, ru⟩ := vals1 r
  have ends : ∀ h' tk, (∀ b o, s.heap.get? b = some o → h'.get? b = some o) → ∀ t, EP X pins σ Q (.str d.shown t) { s with heap := h', toks := tk } := fun h' tk kp t => ⟨.str d.shown, H, I.kept kp, ⟨t, rfl⟩, q⟩
  cases dp with
  | non =>
    cases (show u = Value.none from ru)
    exact PySem.P.repr_of_none (ends _ _ (fun _ _ e => e) _)
  | bl b =>
    cases (show u = Value.bool b from ru)
    exact PySem.P.repr_of_bool (ends _ _ (fun _ _ e => e) _)
  | int i =>
    obtain ⟨t, e⟩ := (show ∃ t, u = Value.int i t from ru)
    subst e
    exact PySem.P.repr_of_int (of_decide_eq_true sh) (ends _ _ (fun _ _ e => e) _)
  | str y =>
    obtain ⟨t, e⟩ := (show ∃ t, u = Value.str y t from ru)
    subst e
    exact PySem.P.repr_of_str (ends _ _ (fun _ _ e => e) _) le
  | @lst a ys ds h1 h2 =>
    obtain ⟨as, rd⟩ := Dp.reads I _ _ _ (.lst h1 h2) ru
    cases (show u = Value.ref a from ru)
    exact repr_of_reads' rd sh (fun e => by rw [nd] at e; cases e) hg (by omega) (fun _ _ e => e) (fun h' u tk kp => ends h' tk kp u) le
  | @tup a ys ds h1 h2 =>
    obtain ⟨as, rd⟩ := Dp.reads I _ _ _ (.tup h1 h2) ru
    cases (show u = Value.ref a from ru)
    exact repr_of_reads' rd sh (fun e => by rw [nd] at e; cases e) hg (by omega) (fun _ _ e => e) (fun h' u tk kp => ends h' tk kp u) le
/-! ### try with several clauses, some with a name -/
abbrev Clause := Value × Option Nat × (Addr → Value → Option Addr → TS)
/-- behind a clause with a name the slot is empty -/
def gone (i : Nat) (D : Ends) : Ends := { nx := fun σ H => D.nx (σ.set i none) H, rt := D.rt, bk := fun σ H => D.bk (σ.set i none) H, ct := fun σ H => D.ct (σ.set i none) H }
/-- what a clause does with the error at a -/
def clauseRun (D : Ends) (ts : Addr → Value → Option Addr → TS) (a : Addr) (cls : Value) (d : Option Addr) (σ : L2.St) (H : Hp) : Option Nat → Prop
  | none => ts a cls d D σ H
  | some i => i < σ.length → ts a cls d (gone i D) (σ.set i (some (.ref a))) H
/-- the clauses one behind the other -/
def wMix (K : PySem.W.Frag) (D : Ends) : List Clause → WX
  | [] => fun _ _ _ _ => False
  | c :: r => fun cls d σ H => ∃ b, PySem.W.exmOne K cls c.1 = some b ∧ (b = true → ∀ a, H a = none → clauseRun D c.2.2 a cls d σ H c.2.1) ∧ (b = false → wMix K D r cls d σ H)
inductive MixOk (X : Cx) : List ExceptHandler → List Clause → Prop
  | nil : MixOk X [] []
  | plain {x : Str} {c : Value} {ts : Addr → Value → Option Addr → TS} {st : Stmt} {sts : List Stmt} {p p' : Pos} {hs : List ExceptHandler} {l : List Clause} (hc : Names X x c)
      (hsu : ∀ (a : Addr) (oe : Obj) (cls : Value) (d : Option Addr) (pn : List (Addr × Obj)), Zc cls d oe → (∃ vs, oe.data = .fields vs) → PSs (X.suite a ((a, oe) :: pn)) (st :: sts) (ts a cls d)) (r : MixOk X hs l) :
      MixOk X (.ExceptHandler (some (.Name x p)) none (st :: sts) p' :: hs) ((c, none, ts) :: l)
  | named {x n : Str} {c : Value} {i : Nat} {ts : Addr → Value → Option Addr → TS} {st : Stmt} {sts : List Stmt} {p p' : Pos} {hs : List ExceptHandler} {l : List Clause} (hc : Names X x c) (hi : X.N[i]? = some n) (hn : X.env.kindOf n = some .local)
      (hsu : ∀ (a : Addr) (oe : Obj) (cls : Value) (d : Option Addr) (pn : List (Addr × Obj)), Zc cls d oe → (∃ vs, oe.data = .fields vs) → PSs (X.suite a ((a, oe) :: pn)) (st :: sts) (ts a cls d)) (r : MixOk X hs l) :
      MixOk X (.ExceptHandler (some (.Name x p)) (some n) (st :: sts) p' :: hs) ((c, some i, ts) :: l)
section
variable {X : Cx} {body : List Stmt} {h1 : ExceptHandler} {hs : List ExceptHandler} {l : List Clause} {pos : Pos} {tb : WX → TS}
theorem ps_try_mix (hstk : X.stack = X.env :: X.outer) (hfr : X.env.frame = some X.env.locals) (hN : X.N.Nodup)
    (hbody : ∀ (W : WX) (pn : List (Addr × Obj)) (xe : Value → Shared → Prop), Takes (X.tr pn xe) W → PassesOwn (model X.prog X.w) X.A X.env xe → PSs (X.tr pn xe) body (tb W))
    (hclauses : MixOk X (h1 :: hs) l) : PS X (.Try body (h1 :: hs) [] [] pos) (fun D σ H => tb (wMix X.K D l) D σ H) := by
  refine ⟨fun pins s σ H D I h => ?_⟩
  have ok := I.ok
  have frames : X.A.frames = some (X.env :: X.outer) := by
    rw [ok.frames, hstk]
  refine wpAny_Try_except ?_
  refine wpAny_mono ((hbody (wMix X.K D l) (X.pn ++ pins)
      (fun e s1 => wpAny (model X.prog X.w) X.A (noteFrame e X.env) (fun _ s2 => wpAny (model X.prog X.w) X.A (setFlight e none)
        (fun _ s3 => wpAny (model X.prog X.w) X.A (handleBy e X.env (h1 :: hs)) (SP X pins D) X.xe s3) X.xe s2) X.xe s1)
      (fun u s' x => ?caught) PassesOwn.looking).run [] s σ H D (I.toTry _) h) (fun f s1 q => ?through) (fun e s1 q => q)
  case through =>
    cases f with
    | next =>
      obtain ⟨σ1, H1, J, q⟩ := q
      exact wpAny_execs_nil ⟨σ1, H1, J.ofTry ok, q⟩
    | brk =>
      obtain ⟨σ1, H1, J, q⟩ := q
      exact ⟨σ1, H1, J.ofTry ok, q⟩
    | cont =>
      obtain ⟨σ1, H1, J, q⟩ := q
      exact ⟨σ1, H1, J.ofTry ok, q⟩
    | ret u =>
      obtain ⟨v, σ1, H1, J, rv, q⟩ := q
      exact ⟨v, σ1, H1, J.ofTry ok, rv, q⟩
  case caught =>
    obtain ⟨a, B, sI, pins1, σ1, H1, cls, d, rfl, J0, nb, up, sky, na, hos, bare, wish⟩ := x
    have J : Inv X pins σ1 H1 sI := J0.ofTry ok
    have sky1 : Sky B (X.env :: X.outer) a (Zc cls d) X.env.locals s'.heap := by
      rw [← hstk]
      exact sky
    show wpAny (model X.prog X.w) X.A (noteFrame (.ref a) X.env) _ _ _
    refine Sky.land Zc.steady frames hfr sky1 fun g3 fly3 up3 => ?_
    have J3 : Inv X pins σ1 H1 { s' with heap := g3 } := J.landed nb fly3.1 (up.trans up3) hos bare
    obtain ⟨oe3, vs3, ge3, z3, dat3⟩ := fly3.there
    have out3 : a ∉ frs (X.env :: X.outer) := fun hm => by
      obtain ⟨_, o', e', hnf⟩ := fly3.2.2.1.mem hm
      rw [ge3] at e'
      cases e'
      exact hnf _ dat3
    have nL : a ≠ X.env.locals := fun z => out3 (List.mem_filterMap.mpr ⟨X.env, List.mem_cons_self, by rw [hfr, z]⟩)
    have nF : a ∉ X.fs := fun hm => by
      obtain ⟨e, he, q⟩ := List.mem_filterMap.mp hm
      exact out3 (List.mem_filterMap.mpr ⟨e, List.mem_cons_of_mem _ he, q⟩)
    have S3 := J3.suite ge3 dat3 na nL nF
    have asks : ∀ {x : Str} {c : Value} {p : Pos} {Q : Value → Shared → Prop} {E : Value → Shared → Prop}, Names X x c → Q c { s' with heap := g3 } →
        wpAny (model X.prog X.w) (X.A.mark (some (.ref a))) (eval (.Name x p) X.env) Q E { s' with heap := g3 } := fun {x c p Q E} hc q => by
      obtain ⟨hg, hd, hm | ⟨hm, hv, hnn⟩⟩ := hc
      · exact ld_glob (X := X.suite a ((a, oe3) :: (X.pn ++ pins))) S3 hg hm q hd
      · exact ld_blt (X := X.suite a ((a, oe3) :: (X.pn ++ pins))) S3 hg hm hv q hnn hd
    have cls3 : PySem.W.Looks (model X.prog X.w) g3 (typeOf (.ref a)) cls := fun A Q E s k q => wpAny_typeOf_ref (k _ _ ge3) (by rw [z3.1]; exact q)
    have go : ∀ {hs' : List ExceptHandler} {l' : List Clause}, MixOk X hs' l' → wMix X.K D l' cls d σ1 H1 → wpAny (model X.prog X.w) X.A (handleBy (.ref a) X.env hs') (SP X pins D) X.xe { s' with heap := g3 } := by
      intro hs' l' hk
      induction hk with
      | nil => exact fun no => no.elim
      | @plain x c ts st sts p p' hs2 l2 hc hsu r ih =>
        rintro ⟨b, hb, yes, no⟩
        refine wpAny_handleBy_cons (codeAny_handlers_test ?_) (by intro q; cases q)
        refine asks hc ((PySem.W.exm_one (M := model X.prog X.w) J3.kIn cls3 hb).here ?_)
        cases b with
        | false =>
          show wpAny _ X.A (handleBy (.ref a) X.env hs2) _ _ _
          exact ih (no rfl)
        | true =>
          refine codeAny_handlers_suite ?_
          refine HandSPX.lands_againZ fly3 fun g4 fly4 up4 => ?_
          have J4 : Inv X pins σ1 H1 { s' with heap := g4 } := J.landed nb fly4.1 ((up.trans up3).trans up4) hos bare
          obtain ⟨oe4, vs4, ge4, z4, dat4⟩ := fly4.there
          refine wpAny_mono ((hsu a oe4 cls d (X.pn ++ pins) z4 ⟨_, dat4⟩).run [] _ _ H1 _ (J4.suite ge4 dat4 na nL nF) (yes rfl a na)) (fun f s6 q => ?_) (fun _ _ z => z.elim)
          cases f with
          | next =>
            obtain ⟨σ6, H6, S6, q⟩ := q
            exact ⟨_, _, S6.unsuite ok, q⟩
          | brk =>
            obtain ⟨σ6, H6, S6, q⟩ := q
            exact ⟨_, _, S6.unsuite ok, q⟩
          | cont =>
            obtain ⟨σ6, H6, S6, q⟩ := q
            exact ⟨_, _, S6.unsuite ok, q⟩
          | ret u =>
            obtain ⟨v6, σ6, H6, S6, r6, q⟩ := q
            exact ⟨_, _, _, S6.unsuite ok, r6, q⟩
      | @named x n c i ts st sts p p' hs2 l2 hc hi hn hsu r ih =>
        rintro ⟨b, hb, yes, no⟩
        refine wpAny_handleBy_cons (codeAny_handlers_test ?_) (by intro q; cases q)
        refine asks hc ((PySem.W.exm_one (M := model X.prog X.w) J3.kIn cls3 hb).here ?_)
        cases b with
        | false =>
          show wpAny _ X.A (handleBy (.ref a) X.env hs2) _ _ _
          exact ih (no rfl)
        | true =>
          refine codeAny_handlers_suite_as ?_
          refine HandSPX.lands_againZ fly3 fun g4 fly4 up4 => ?_
          have J4 : Inv X pins σ1 H1 { s' with heap := g4 } := J.landed nb fly4.1 ((up.trans up3).trans up4) hos bare
          obtain ⟨oe4, vs4, ge4, z4, dat4⟩ := fly4.there
          refine store_ok (X := X.suite a ((a, oe4) :: (X.pn ++ pins))) (v := .ref a) (J4.suite ge4 dat4 na nL nF) hN hi (.inl hn) rfl (fun s5 S5 => ?_) (.inr hn)
          have close : ∀ {σ6 : L2.St} {H6 : Hp} {s6 : Shared} {R : Shared → Prop}, Inv (X.suite a ((a, oe4) :: (X.pn ++ pins))) [] σ6 H6 s6 → (∀ s7, Inv X pins (σ6.set i none) H6 s7 → R s7) →
              wpAny (model X.prog X.w) X.A (do bindName X.env n .none; unbindBehindTheSuite X.env n p') (fun _ s7 => R s7) X.xe s6 := fun S6 k => gone_ok (S6.unsuite ok) hN hi hn k
          have il : i < σ1.length := by
            rw [J.len]
            exact (List.getElem?_eq_some_iff.mp hi).1
          refine wpAny_mono ((hsu a oe4 cls d (X.pn ++ pins) z4 ⟨_, dat4⟩).run [] s5 _ H1 _ S5 (yes rfl a na il)) (fun f s6 q => ?_) (fun _ _ z => z.elim)
          cases f with
          | next =>
            obtain ⟨σ6, H6, S6, q⟩ := q
            exact close S6 fun s7 J7 => ⟨_, _, J7, q⟩
          | brk =>
            obtain ⟨σ6, H6, S6, q⟩ := q
            exact close S6 fun s7 J7 => ⟨_, _, J7, q⟩
          | cont =>
            obtain ⟨σ6, H6, S6, q⟩ := q
            exact close S6 fun s7 J7 => ⟨_, _, J7, q⟩
          | ret u =>
            obtain ⟨v6, σ6, H6, S6, r6, q⟩ := q
            exact close S6 fun s7 J7 => ⟨_, _, _, J7, r6, q⟩
    exact go hclauses wish
end
end K7
namespace K7
open PySem PySem.Spec PyProof.Rows L2 LamX
/-! ### promises that lean on no repr being under way -/
structure FnG (P : Program) (w : World) (K : PySem.W.Frag) (mg : Str → Option Value) (base : Heap) (CX : CXT) (k : Nat) (f : Addr) (fd : FuncData) (ps : List Str) (sp : Sp) : Prop where
  len : ∀ vs H Q E, sp vs H Q E → vs.length = ps.length
  run : ∀ (A : Around) (outer : List Env) (s : Shared) (H : Hp) (args : Args) (us : List Value) (vs : List V) (Q : VK) (E : XK), A.guards = some [] → Room k A → Env0 P w K mg base A outer s H → BindsTo s fd args (ps.zip us) → Vals vs us → sp vs H Q E →
    codeAny (model P w) A (.call (.ref f) args) (CR CX outer P w H s Q E) s
section
variable {X : Cx} {k : Nat} {f : Addr} {fd : FuncData} {ps : List Str} {sp : Sp} {x : Str} {p pos : Pos} {e : Expr} {es : List Expr} {t : TA}
theorem pe_callG (F : FnG X.prog X.w X.K X.mg X.base CX0 k f fd ps sp) (hgd : X.A.guards = some []) (hr : Room k X.A) (hg : Gl X x) (hm : X.mg x = some (.ref f)) (hk : PySem.W.keepIn X.K (.ref f) = true) (hb : Binds X.K fd ps []) (ha : PA X (e :: es) t)
    (hdb : (x == ("__debug__" : Str)) = false := by decide) (he : starEach (e :: es) X.env = (false, eval e X.env) :: starEach es X.env := by rfl) (hpl : (backTo pos (starEach es X.env)).any (·.1) = false := by rfl) :
    PE X (.Call (.Name x p) (e :: es) [] pos) (fun σ H Q => t σ H fun vs H1 => sp vs H1 Q E0) := by
  refine ⟨fun pins s σ H Q I h => ?_⟩
  refine wpAny_Call_Name_kw (ld_glob I hg hm ?_ hdb)
  refine PySem.W.callWith_K (h₀ := X.base) I.ok.mod.kin hk (thn (ha.run pos pins s σ H _ I h) fun us s1 ⟨vs, H1, I1, r, q⟩ => ⟨I1.kIn, ?_⟩) he hpl
  have hl : us.length = ps.length := by rw [← r.length]; exact F.len _ _ _ _ q
  refine wpAny_call (codeAny_mono (F.run X.A X.stack s1 H1 ⟨us, []⟩ us vs Q E0 hgd hr I1.env0 ?_ r q) fun r' s2 hq => ?_)
  · have b := hb s1 us I1.kIn (by rw [List.append_nil]; exact hl)
    rw [List.append_nil] at b
    exact b
  · cases r' with
    | error e => exact hq.elim
    | ok fl =>
      cases fl with
      | ret u => exact I1.after hq
      | next => exact hq.elim
      | brk => exact hq.elim
      | cont => exact hq.elim
end
end K7
namespace K7
open PySem PySem.Spec PyProof.Rows L2 LamX
/-! ### what the law makes of a call's end -/
def two (a b : V) : HO := .tup [a, b]
abbrev tR : V := .str "refused"
def MetEnd (K : PySem.W.Frag) (CL CO CN : Addr) (Q : VK) : XK := fun cls d H =>
  (cls = .ref CL ∧ ∀ p, H p = none → Q (.ref p) (upd H p (two tR (.str "letters")))) ∨
  (cls = .ref CO ∧ ∀ p, H p = none → Q (.ref p) (upd H p (two tR (.str "operation")))) ∨
  (cls = .ref CN ∧ ∃ (dd : Addr) (v : V) (z : Str), d = some dd ∧ H dd = some (.xd [(("given" : Str), v)]) ∧ Shown K H v z ∧ z.length ≤ 900 ∧ ∀ p, H p = none → Q (.ref p) (upd H p (two tR (.str ("number " ++ z)))))
def TMet (K : PySem.W.Frag) (CL CO CN : Addr) : (XK → Hp → VK → Prop) → Hp → VK → Prop := fun tl H Q =>
  tl (MetEnd K CL CO CN Q) H (fun _ H' => [V.str "fine", V.str ""].length ≤ sizeLine ∧ ∀ p, H' p = none → Q (.ref p) (upd H' p (two (.str "fine") (.str ""))))
/-- which clause takes which class -/
structure Clss (K : PySem.W.Frag) (mg : Str → Option Value) (CL CO CN : Addr) : Prop where
  nL : mg "InvalidLetters" = some (.ref CL)
  nO : mg "InvalidOperation" = some (.ref CO)
  nN : mg "InvalidNumber" = some (.ref CN)
  ll : PySem.W.exmOne K (.ref CL) (.ref CL) = some true
  ol : PySem.W.exmOne K (.ref CO) (.ref CL) = some false
  oo : PySem.W.exmOne K (.ref CO) (.ref CO) = some true
  nl : PySem.W.exmOne K (.ref CN) (.ref CL) = some false
  no : PySem.W.exmOne K (.ref CN) (.ref CO) = some false
  nn : PySem.W.exmOne K (.ref CN) (.ref CN) = some true
theorem scMet : FnScope ["call", "error"] ["call"] (defScope sMet) := ⟨rfl, rfl, rfl, by decide +kernel, rfl, by decide +kernel, by decide +kernel⟩
theorem bootRepr : bootBuiltins "repr" = some (.builtin "repr") := by decide +kernel
section
variable {X : Cx}
theorem met_gives {q : Str} {g CL CO CN i0 : Addr} {cdg : Value} (hgd : X.A.guards = some []) (hu : X.A.units + 128 < cLine) (T : Txt X.K X.mg) (M : Clss X.K X.mg CL CO CN) (EN : K7X.NumTxt X.K X.mg CN i0) :
    GivesTo X ["call", "error"] "_law_met" (defScope sMet) g cdg (defBody sMet) "call" q (TMet X.K CL CO CN) := by
  intro f c' s H Q tl act hc h
  let Y := (cxOf C8.CX0 X.prog X.w X.K X.mg X.base ["call", "error"] "_law_met" (defScope sMet) g cdg X.A X.stack s H C8.E0).nox
  refine ⟨_, pss_cons (ps_try_mix (X := Y) (l := [(.ref CL, none, fun _ _ _ => tRet (tTup (tCons (tC tR) (tCons (tC (.str "letters")) tNil)))), (.ref CO, none, fun _ _ _ => tRet (tTup (tCons (tC tR) (tCons (tC (.str "operation")) tNil)))),
        (.ref CN, some 1, fun a cls d => tRet (tTup (tCons (tC tR) (tCons (tOp (fun x y H Q => ∃ i j, x = .str i ∧ y = .str j ∧ i.length + j.length ≤ sizeLine ∧ Q (.str (i ++ j)) H) (tC (.str "number ")) (tCB (fun xs H Q => ∃ (x : V) (z : Str), xs = [x] ∧ Shown X.K H x z ∧ Q (.str z) H) (tCons (tGiven CN a cls d (tVar 1)) tNil))) tNil))))])
      (tb := fun W D σ H => ∃ Ech : XK, (∀ cls d σ' H', Ech cls d H' → W cls d σ' H') ∧ σ[0]? = some (some (.ref f)) ∧ H c' = some (CodeO c' q) ∧ tl Ech H (fun _ H' => D.nx σ H'))
      rfl rfl scMet.nd (fun W pn xe tk _ => ?_)
      (.plain ⟨by rfl, by decide, .inl M.nL⟩ (fun a oe cls d pn _ _ => pss_one (ps_ret (pe_tup (pa_cons pe_str (pa_cons pe_str pa_nil)))))
        (.plain ⟨by rfl, by decide, .inl M.nO⟩ (fun a oe cls d pn _ _ => pss_one (ps_ret (pe_tup (pa_cons pe_str (pa_cons pe_str pa_nil)))))
        (.named ⟨by rfl, by decide, .inl M.nN⟩ rfl rfl (fun a oe cls d pn hz hf => pss_one (ps_ret (pe_tup (pa_cons pe_str (pa_cons (pe_op op_add_str pe_str (pe_callB (call_reprS (by exact hgd) (by show X.A.units + 3 + 64 < cLine; omega)) (by rfl) T.repr bootRepr (by exact (pa_cons (pe_given (X := Y) EN hz hf (pv 1)) pa_nil)))) pa_nil))))) .nil))))
    (pss_one (ps_ret (pe_tup (pa_cons pe_str (pa_cons pe_str pa_nil))))), ?_⟩
  · refine ⟨fun pins s' σ H' D I h' => ?_⟩
    obtain ⟨Ech, hW, h1, h2, h3⟩ := h'
    exact (pss_one (ps_expr (act W pn xe Ech _ _ tk hW))).run pins s' σ H' D I ⟨h1, h2, h3⟩
  · refine ⟨MetEnd X.K CL CO CN Q, fun cls d σ' H' z => ?_, rfl, hc, ?_⟩
    · rcases z with ⟨rfl, k⟩ | ⟨rfl, k⟩ | ⟨rfl, dd, v, z, rfl, hd, sh, lz, k⟩
      · exact ⟨true, M.ll, fun _ a _ => ⟨by show 2 ≤ sizeLine; decide, k⟩, (fun e => nomatch e)⟩
      · exact ⟨false, M.ol, (fun e => nomatch e), fun _ => ⟨true, M.oo, fun _ a _ => ⟨by show 2 ≤ sizeLine; decide, k⟩, (fun e => nomatch e)⟩⟩
      · have e7 : ("number " : Str).length = 7 := by decide +kernel
        refine ⟨false, M.nl, (fun e => nomatch e), fun _ => ⟨false, M.no, (fun e => nomatch e), fun _ => ⟨true, M.nn, fun _ a _ hl => ?_, (fun e => nomatch e)⟩⟩⟩
        refine ⟨.ref a, by rw [List.getElem?_set_self hl], rfl, rfl, dd, v, rfl, hd, v, z, rfl, sh, _, _, rfl, rfl, sl (by rw [e7]; omega), (by show 2 ≤ sizeLine; decide), k⟩
    · exact h
end
/-! ### what is told, one call behind the other -/
/-- no integer above sixty digits is shown; the text is short -/
def showOk (d : PyData) : Bool := d.showable && !d.hasDict && decide (d.depth ≤ 60) && decide (d.shown.length ≤ 900)
theorem Da.shown {K : PySem.W.Frag} {N : Addr → Prop} {H : Hp} {x : V} {d : PyData} (h : Da N H x d) (o : showOk d = true) : Shown K H x d.shown ∧ d.shown.length ≤ 900 := by
  unfold showOk at o
  simp only [Bool.and_eq_true, Bool.not_eq_true', decide_eq_true_eq] at o
  exact ⟨⟨d, Da.dp d x o.1.1.2 h, o.1.1.1, o.1.1.2, o.1.2, sl (by omega), rfl⟩, o.2⟩
abbrev NoL : Addr → Prop := fun _ => False
theorem flat_mono {H H' : Hp} {xs : List V} {ds : List PyData} (h : DaL NoL H xs ds) (k : ∀ b o, H b = some o → NoLst o → NoTbl o → H' b = some o) : DaL NoL H' xs ds :=
  DaL.map (fun _ _ _ n => n) (fun b o e n t => n.elim (fun z => z.elim) fun n => k b o e n t) ds xs h
/-- what the calls that are told leave: the list of what was told, at lt -/
structure Run (S : List Addr) (Z : Hp → Prop) (Hs : Hp) (T : List (Addr × Str)) (lt : Addr) (ts : List V) (ds : List PyData) (H : Hp) : Prop where
  kp : Kp S Hs H
  new : Hs lt = none
  zz : Z H
  tab : Tabs T H
  here : H lt = some (.lst ts)
  dts : DaL NoL H ts ds
/-- what is not touched by what happens at lt -/
def Free (lt : Addr) (Z : Hp → Prop) : Prop := ∀ H H', Z H → (∀ b o, b ≠ lt → H b = some o → NoTbl o → H' b = some o) → Z H'
section
variable {S : List Addr} {Z : Hp → Prop} {Hs H H1 : Hp} {T : List (Addr × Str)} {lt p : Addr} {ts : List V} {ds : List PyData}
theorem Run.ext (R : Run S Z Hs T lt ts ds H) (z : Free lt Z) (e : ExtN H H1) (t : Tabs T H1) : Run S Z Hs T lt ts ds H1 :=
  ⟨R.kp.trans (.of e), R.new, z _ _ R.zz fun b o _ q n => e b o q n, t, e _ _ R.here (lst_nt _), flat_mono R.dts fun b o q _ n => e b o q n⟩
/-- behind a call that leaves all but lists at S as it was -/
theorem Run.kq (R : Run S Z Hs T lt ts ds H) (e : Kq S H H1) (nS : lt ∉ S) (z : Z H1) : Run S Z Hs T lt ts ds H1 :=
  ⟨R.kp.trans e.kp, R.new, z, tabs_kq R.tab e, e _ _ R.here (.inl nS), flat_mono R.dts fun b o q n _ => e b o q (.inr n)⟩
theorem Run.add {a b : V} {da db : PyData} (R : Run S Z Hs T lt ts ds H) (z : Free lt Z) (hp : H p = none) (ha : Da NoL H a da) (hb : Da NoL H b db) :
    Run S Z Hs T lt (ts ++ [.ref p]) (ds ++ [.tuple [da, db]]) (upd (upd H p (two a b)) lt (.lst (ts ++ [.ref p]))) := by
  have s1 : Same H (upd H p (two a b)) := Same.new hp
  have ne : lt ≠ p := ne_of_none R.here hp
  have h2 : upd H p (two a b) lt = some (.lst ts) := s1 _ _ R.here
  have at_ : ∀ c o, c ≠ lt → H c = some o → upd (upd H p (two a b)) lt (.lst (ts ++ [.ref p])) c = some o := fun c o n e => by rw [upd_ne n]; exact s1 _ _ e
  have fl : ∀ c o, H c = some o → NoLst o → upd (upd H p (two a b)) lt (.lst (ts ++ [.ref p])) c = some o := fun c o e n => by
    refine at_ c o (fun q => ?_) e
    rw [q, R.here] at e
    cases e
    exact n _ rfl
  refine ⟨fun c o e n t => ?_, R.new, z _ _ R.zz fun c o n e _ => at_ c o n e, fun q hq => ?_, upd_same, ?_⟩
  · have nc : c ≠ lt := ne_of_none e R.new
    exact at_ c o nc (R.kp c o e n t)
  · obtain ⟨ps, h1, h3, h4⟩ := R.tab q hq
    refine ⟨ps, fl _ _ h1 (fun _ q => nomatch q), h3, fun pos cv hc => ?_⟩
    obtain ⟨c, e1, e2⟩ := h4 pos cv hc
    exact ⟨c, e1, fl _ _ e2 (fun _ q => by unfold CodeO at q; cases q)⟩
  · have m : ∀ {x : V} {d : PyData}, Da NoL H x d → Da NoL (upd (upd H p (two a b)) lt (.lst (ts ++ [.ref p]))) x d := fun {x d} h => Da.map (fun _ _ _ n => n) (fun b o e n _ => n.elim (fun z => z.elim) fun n => fl b o e n) d x h
    refine (flat_mono R.dts fun b o e n _ => fl b o e n).append (.cons (.tup (xs := [a, b]) ?_ (.cons (m ha) (.cons (m hb) .nil))) .nil)
    rw [upd_ne ne.symm]
    exact upd_same
/-- the list begins with what was told first -/
theorem Run.first {a b : V} {da db : PyData} {l : Addr} {H0 : Hp} (kp : Kp S H0 H) (tab : Tabs T H) (z : ∀ l, H l = none → Free l Z) (zz : Z H) (hp : H p = none) (hl : upd H p (two a b) l = none) (h0 : H0 l = none) (ha : Da NoL H a da) (hb : Da NoL H b db) :
    Run S Z H0 T l [.ref p] [.tuple [da, db]] (upd (upd H p (two a b)) l (.lst [.ref p])) := by
  have s1 : Same H (upd H p (two a b)) := Same.new hp
  have s2 : Same (upd H p (two a b)) (upd (upd H p (two a b)) l (.lst [.ref p])) := Same.new hl
  have s := s1.trans s2
  refine ⟨kp.trans (Kq.same s).kp, h0, z l (none_back s1 hl) _ _ zz fun b o _ e _ => s _ _ e, tabs_kq (S := S) tab (Kq.same s), upd_same, .cons (.tup (xs := [a, b]) (s2 _ _ upd_same) (.cons (ha.mono s fun _ n => n) (.cons (hb.mono s fun _ n => n) .nil))) .nil⟩
end
/-! ### the lines -/
section
variable {K : PySem.W.Frag} {CL CO CN : Addr} {S : List Addr} {Z : Hp → Prop} {Hs H : Hp} {T : List (Addr × Str)} {lt : Addr} {ts : List V} {ds : List PyData} {σ : L2.St} {i : Nat} {t : XK → TE} {D : Ends}
/-- told.append(met(lambda: ..)) -/
abbrev tLine (K : PySem.W.Frag) (CL CO CN : Addr) (T : List (Addr × Str)) (i : Nat) (t : XK → TE) : TS := tDrop (tBM K "list" rAppend (tVar i) (tCons (tLam T (TMet K CL CO CN) t) tNil))
/-- which word stands for an error without anything of its own -/
def Word (CL CO : Addr) (C : Addr) (z : Str) : Prop := (C = CL ∧ z = "letters") ∨ (C = CO ∧ z = "operation")
theorem line_nil {C : Addr} {z : Str} (hw : Word CL CO C z) (hi : σ[i]? = some (some (.ref lt))) (R : Run S Z Hs T lt ts ds H) (zf : Free lt Z) (nS : lt ∉ S) (hl : ds.length < 900)
    (hb : ∀ Ha, Run S Z Hs T lt ts ds Ha → ∀ (E : XK) (Q : VK), (∀ H', Kq S Ha H' → Z H' → E (.ref C) none H') → t E σ Ha Q)
    (k : ∀ ts' H', Run S Z Hs T lt ts' (ds ++ [.tuple [.str "refused", .str z]]) H' → D.nx σ H') : tLine K CL CO CN T i t D σ H := by
  refine ⟨_, hi, .inl ⟨rfl, _, SqL.of R.here⟩, R.tab, fun Ha ea ta => ?_⟩
  have Ra := R.ext zf ea ta
  refine hb Ha Ra _ _ fun H' kq zz => ?_
  have Rb := Ra.kq kq nS zz
  have fin : ∀ p, H' p = none → rAppend (.ref lt) [.ref p] (upd H' p (two tR (.str z))) (fun _ H1 => D.nx σ H1) := fun p hp => by
    have ne : lt ≠ p := ne_of_none Rb.here hp
    exact ⟨lt, ts, .ref p, rfl, rfl, by rw [upd_ne ne]; exact Rb.here, small1000 (by rw [Rb.dts.len]; omega), k _ _ (Rb.add zf hp (.str "refused") (.str z))⟩
  rcases hw with ⟨e, e2⟩ | ⟨e, e2⟩
  · subst e e2
    exact .inl ⟨rfl, fin⟩
  · subst e e2
    exact .inr (.inl ⟨rfl, fin⟩)
theorem line_num {x : V} {N : Addr → Prop} {dx : PyData} (hi : σ[i]? = some (some (.ref lt))) (R : Run S Z Hs T lt ts ds H) (zf : Free lt Z) (nS : lt ∉ S) (hl : ds.length < 900) (ok : showOk dx = true)
    (hx : ∀ Ha, Run S Z Hs T lt ts ds Ha → Da N Ha x dx)
    (hb : ∀ Ha, Run S Z Hs T lt ts ds Ha → ∀ (E : XK) (Q : VK), NumE E CN x Ha → t E σ Ha Q)
    (k : ∀ ts' H', Run S Z Hs T lt ts' (ds ++ [.tuple [.str "refused", .str ("number " ++ dx.shown)]]) H' → D.nx σ H') : tLine K CL CO CN T i t D σ H := by
  refine ⟨_, hi, .inl ⟨rfl, _, SqL.of R.here⟩, R.tab, fun Ha ea ta => ?_⟩
  have Ra := R.ext zf ea ta
  refine hb Ha Ra _ _ fun H' d s' hd => ?_
  have s2 : Same Ha (upd H' d (.xd [(("given" : Str), x)])) := s'.trans (Same.new hd)
  have hx2 := (hx Ha Ra).mono (M := N) s2 fun _ n => n
  obtain ⟨sh, ln⟩ := hx2.shown (K := K) ok
  have Rb := Ra.kq (Kq.same s2) nS (zf _ _ Ra.zz fun b o _ e _ => s2 b o e)
  refine .inr (.inr ⟨rfl, d, x, _, rfl, upd_same, sh, ln, fun p hp => ?_⟩)
  have ne : lt ≠ p := ne_of_none Rb.here hp
  exact ⟨lt, ts, .ref p, rfl, rfl, by rw [upd_ne ne]; exact Rb.here, small1000 (by rw [Rb.dts.len]; omega), k _ _ (Rb.add zf hp (.str "refused") (.str _))⟩
theorem line_fine (hi : σ[i]? = some (some (.ref lt))) (R : Run S Z Hs T lt ts ds H) (zf : Free lt Z) (nS : lt ∉ S) (hl : ds.length < 900)
    (hb : ∀ Ha, Run S Z Hs T lt ts ds Ha → ∀ (E : XK) (Q : VK), (∀ v H', Same Ha H' → Q v H') → t E σ Ha Q)
    (k : ∀ ts' H', Run S Z Hs T lt ts' (ds ++ [.tuple [.str "fine", .str ""]]) H' → D.nx σ H') : tLine K CL CO CN T i t D σ H := by
  refine ⟨_, hi, .inl ⟨rfl, _, SqL.of R.here⟩, R.tab, fun Ha ea ta => ?_⟩
  have Ra := R.ext zf ea ta
  refine hb Ha Ra _ _ fun v H' s' => ⟨by show 2 ≤ sizeLine; decide, fun p hp => ?_⟩
  have Rb := Ra.kq (Kq.same s') nS (zf _ _ Ra.zz fun b o _ e _ => s' b o e)
  have ne : lt ≠ p := ne_of_none Rb.here hp
  exact ⟨lt, ts, .ref p, rfl, rfl, by rw [upd_ne ne]; exact Rb.here, small1000 (by rw [Rb.dts.len]; omega), k _ _ (Rb.add zf hp (.str "fine") (.str ""))⟩
/-- told = [met(lambda: ..)] -/
abbrev tFirst (K : PySem.W.Frag) (CL CO CN : Addr) (T : List (Addr × Str)) (i : Nat) (t : XK → TE) : TS := tAsg (tLst (tCons (tLam T (TMet K CL CO CN) t) tNil)) (gName i)
end
end K7
namespace K7
open PySem PySem.Spec PyProof.Rows L2 LamX
/-! ### what drawn data are for the program -/
def dbet (lo hi : Int) : PyData → Bool
  | .int i => betw (.int i) lo hi
  | _ => false
def d60 : PyData → Bool
  | .int i => i60 (.int i)
  | _ => false
def dtup (n : Nat) (lo hi : Int) : PyData → Bool
  | .tuple ds => decide (ds.length ≤ n) && ds.all (dbet lo hi)
  | _ => false
def is1 : PyData → Bool
  | .int i => decide (i = 1)
  | _ => false
def dser : PyData → Bool
  | .tuple (d :: ds) => decide (ds.length ≤ 60) && ((d :: ds).all d60 && is1 d)
  | _ => false
/-- letters with one of the degree 1, or none -/
def dloop : PyData → Bool
  | .tuple ds => !(decide (ds.length ≤ 24) && ds.all (dbet 1 40)) || ds.any is1
  | _ => true
section
variable {K : PySem.W.Frag} {N : Addr → Prop} {H : Hp} {x : V} {xs : List V} {d : PyData} {ds : List PyData}
theorem Da.betw (h : Da N H x d) (lo hi : Int) : K7.betw x lo hi = dbet lo hi d := by cases h <;> rfl
theorem Da.i60 (h : Da N H x d) : K7.i60 x = d60 d := by cases h <;> rfl
theorem DaL.all_bet (lo hi : Int) : ∀ {xs : List V} {ds : List PyData}, DaL N H xs ds → (xs.all fun x => K7.betw x lo hi) = ds.all (dbet lo hi)
  | _, [], h => by cases h; rfl
  | _, d :: ds, h => by
    cases h with
    | cons h r => rw [List.all_cons, List.all_cons, h.betw, DaL.all_bet lo hi r]
theorem DaL.all_60 : ∀ {xs : List V} {ds : List PyData}, DaL N H xs ds → xs.all K7.i60 = ds.all d60
  | _, [], h => by cases h; rfl
  | _, d :: ds, h => by
    cases h with
    | cons h r => rw [List.all_cons, List.all_cons, h.i60, DaL.all_60 r]
theorem DaL.ints : ∀ {L : List Int} {xs : List V}, DaL N H xs (L.map PyData.int) → xs = iV L
  | [], _, h => by cases h; rfl
  | i :: L, _, h => by
    cases h with
    | cons h r =>
      cases h
      rw [DaL.ints r]
      rfl
theorem bet_ints {lo hi : Int} : ∀ {ds : List PyData}, ds.all (dbet lo hi) = true → ∃ L : List Int, ds = L.map PyData.int ∧ ∀ i ∈ L, lo ≤ i ∧ i ≤ hi
  | [], _ => ⟨[], rfl, fun _ h => nomatch h⟩
  | d :: ds, h => by
    rw [List.all_cons, Bool.and_eq_true] at h
    obtain ⟨L, e, q⟩ := bet_ints h.2
    cases d with
    | int i =>
      have b : (K7.i60 (.int i) && (decide (lo ≤ i) && decide (i ≤ hi))) = true := h.1
      rw [Bool.and_eq_true, Bool.and_eq_true] at b
      refine ⟨i :: L, by rw [e]; rfl, fun j hj => ?_⟩
      rcases List.mem_cons.mp hj with z | z
      · rw [z]
        exact ⟨of_decide_eq_true b.2.1, of_decide_eq_true b.2.2⟩
      · exact q j z
    | none => cases h.1
    | bool b => cases h.1
    | str z => cases h.1
    | list l => cases h.1
    | tuple l => cases h.1
    | dict l => cases h.1
theorem Da.tupIs (h : Da N H x d) (n : Nat) (lo hi : Int) : TupIs K H n lo hi x (dtup n lo hi d) := by
  cases h with
  | non => exact .non
  | bl b => exact .bl b
  | int i => exact .int i
  | str z => exact .str z
  | @tup a xs ds e h =>
    show TupIs K H n lo hi (.ref a) (decide (ds.length ≤ n) && ds.all (dbet lo hi))
    have l := h.len
    by_cases c : ds.length ≤ n
    · rw [decide_eq_true c, Bool.true_and, ← h.all_bet]
      exact .tup (SqT.of e) (by omega) fun y hy => h.vks hy
    · rw [decide_eq_false c, Bool.false_and]
      exact .long (SqT.of e) (by omega)
  | lst e n h => exact .lst e
  | dic e => exact .dic e
theorem Da.letIs (h : Da N H x d) : LetIs K H x (dtup 24 1 40 d) := by
  cases h with
  | non => exact .non
  | bl b => exact .bl b
  | int i => exact .int i
  | str z => exact .str z
  | @tup a xs ds e h =>
    show LetIs K H (.ref a) (decide (ds.length ≤ 24) && ds.all (dbet 1 40))
    have l := h.len
    by_cases c : ds.length ≤ 24
    · rw [decide_eq_true c, Bool.true_and, ← h.all_bet]
      exact .tup (SqT.of e) (by omega) fun y hy => h.vks hy
    · rw [decide_eq_false c, Bool.false_and]
      exact .long (SqT.of e) (by omega)
  | lst e n h => exact .lst e
  | dic e => exact .dic e
theorem Da.serIs (h : Da N H x d) : SerIs K H x (dser d) := by
  cases h with
  | non => exact .non
  | bl b => exact .bl b
  | int i => exact .int i
  | str z => exact .str z
  | @tup a xs ds e h =>
    cases ds with
    | nil =>
      cases h
      exact .long (SqT.of e) (.inl rfl)
    | cons d ds =>
      cases h with
      | @cons v vs _ _ hd r =>
        have l := r.len
        show SerIs K H (.ref a) (decide (ds.length ≤ 60) && ((d :: ds).all d60 && is1 d))
        by_cases c : ds.length ≤ 60
        · have q := SerIs.tup (SqT.of (K := K) e) (by omega) fun y hy => DaL.vks (.cons hd r) hy
          rw [DaL.all_60 (.cons hd r)] at q
          rw [decide_eq_true c, Bool.true_and]
          have e1 : decide (v = V.int 1) = is1 d := by
            cases hd with
            | int i =>
              show decide (V.int i = V.int 1) = decide (i = 1)
              by_cases z : i = 1
              · rw [z]; rfl
              · rw [decide_eq_false z, decide_eq_false fun q => z (V.int.inj q)]
            | non => rfl
            | bl b => rfl
            | str z => rfl
            | tup e h => rfl
            | lst e n h => rfl
            | dic e => rfl
          rw [← e1]
          exact q
        · rw [decide_eq_false c, Bool.false_and]
          exact .long (SqT.of e) (.inr (by rw [List.length_cons]; omega))
  | lst e n h => exact .lst e
  | dic e => exact .dic e
theorem Da.loopBad (h : Da N H x d) (b : dloop d = true) : LoopBad K H x := by
  have q := h.letIs (K := K)
  cases e : dtup 24 1 40 d with
  | false =>
    rw [e] at q
    exact .inl q
  | true =>
    cases h with
    | @tup a xs ds e2 h =>
      have e3 : (decide (ds.length ≤ 24) && ds.all (dbet 1 40)) = true := e
      have b : (!(decide (ds.length ≤ 24) && ds.all (dbet 1 40)) || ds.any is1) = true := b
      rw [e3, Bool.not_true, Bool.false_or] at b
      rw [Bool.and_eq_true] at e3
      obtain ⟨L, rfl, hb⟩ := bet_ints e3.2
      obtain rfl := DaL.ints h
      have l := of_decide_eq_true e3.1
      rw [List.length_map] at l
      refine .inr ⟨a, L, rfl, SqT.of e2, ⟨l, fun i hi => (hb i hi).1, fun i hi => (hb i hi).2⟩, ?_⟩
      rw [List.any_map, List.any_eq_true] at b
      obtain ⟨i, hi, z⟩ := b
      obtain rfl : i = 1 := of_decide_eq_true z
      exact hi
    | non => cases e
    | bl b => cases e
    | int i => cases e
    | str z => cases e
    | lst e2 n h => cases e
    | dic e2 => cases e
/-! ### drawn data -/
theorem pick_dat {S : List Addr} {H : Hp} {σ : L2.St} {d : Addr} {L : List V} {ds : List PyData} {Q : VK} (h0 : σ[0]? = some (some (.ref d))) (hd : H d = some (.lst L)) (hL : DiceL L) (dS : d ∈ S) (hS : ∀ s ∈ S, H s ≠ none) (n0 : ds ≠ []) (n1 : ds.length < 1000)
    (k : ∀ x dx L' H', dx ∈ ds → Ds S H' x dx → Kq S H H' → H' d = some (.lst L') → DiceL L' → Q x H') : tCall spPick [] C8.E0 (tCons (tVar 0) (tCons (tDat (.list ds)) tNil)) σ H Q := by
  refine ⟨_, h0, fun x H1 s1 dn => ?_⟩
  cases dn with
  | @lst a xs _ e n h =>
    have hd1 := s1 _ _ hd
    have ne : a ≠ d := fun z => by
      rw [z] at n
      rw [hd] at n
      cases n
    have l := h.len
    refine ⟨d, a, xs, L, rfl, hd1, hL, e, ne, fun z => n0 (List.eq_nil_of_length_eq_zero (by rw [← l, z]; rfl)), by omega, fun y L' hy hL' => ?_⟩
    obtain ⟨dy, my, hy⟩ := h.mem hy
    have kw : Kq S H1 (upd H1 d (.lst L')) := .write dS hd1
    exact k y dy L' _ my ((Dn.apart hy hS).mono kw.kp) ((Kq.same s1).trans kw) upd_same hL'
end
end K7
namespace K7
open PySem PySem.Spec PyProof.Rows L2 LamX
/-! ### what is due -/
def ref2 (z : Str) : PyData := .tuple [.str "refused", .str z]
def dues (zs : List Str) : List PyData := zs.map ref2
theorem dues_lay : ∀ {zs : List Str}, (∀ z ∈ zs, (PyData.str z).canLay0 = true) → PyData.canLayAll0 (dues zs) = true
  | [], _ => rfl
  | z :: zs, h => by
    have r : (PyData.str "refused").canLay0 = true := by decide +kernel
    have a := h z List.mem_cons_self
    have b := dues_lay fun y hy => h y (List.mem_cons_of_mem _ hy)
    have c : (ref2 z).canLay0 = true := by
      rw [ref2, PyData.canLay0, PyData.canLayAll0, PyData.canLayAll0, PyData.canLayAll0, r, a]
      rfl
    show PyData.canLayAll0 (ref2 z :: dues zs) = true
    rw [PyData.canLayAll0, c, b]
    rfl
theorem dues_depth : ∀ zs : List Str, PyData.depthAll (dues zs) ≤ 2
  | [] => by simp [dues, PyData.depthAll]
  | z :: zs => by
    have b := dues_depth zs
    have c : (ref2 z).depth ≤ 1 := by simp [ref2, PyData.depth, PyData.depthAll]
    show PyData.depthAll (ref2 z :: dues zs) ≤ 2
    simp only [PyData.depthAll]
    omega
theorem dues_shaped {zs : List Str} (h : ∀ z ∈ zs, (PyData.str z).canLay0 = true) : SeqAt.shaped (.list (dues zs)) = true := by
  have d := dues_depth zs
  have e : PyData.depth (.list (dues zs)) ≤ 64 := by
    simp only [PyData.depth]
    omega
  rw [SeqAt.shaped, Bool.and_eq_true]
  refine ⟨?_, decide_eq_true e⟩
  rw [PyData.canLay0]
  exact dues_lay h
theorem dues_nodict : ∀ zs : List Str, PyData.hasDictAll (dues zs) = false
  | [] => by simp [dues, PyData.hasDictAll]
  | z :: zs => by
    have b := dues_nodict zs
    show PyData.hasDictAll (ref2 z :: dues zs) = false
    simp only [PyData.hasDictAll, b, ref2, PyData.hasDict, Bool.or_false]
abbrev sV (zs : List Str) : List V := zs.map V.str
/-- [("refused", one) for one in due] -/
theorem lc_dues {K : PySem.W.Frag} {a : Addr} {zs : List Str} {i : Nat} {vs : List Nat} {σ : L2.St} {H : Hp} {D : Addr} {Qd : Hp → Prop} (hD : H D = none) (ha : H a = some (.lst (sV zs))) (ln : zs.length ≤ 900) (hi : ∀ x : V, ((wipe σ vs).set i (some x))[i]? = some (some x))
    (hw : ∀ x : V, wipe ((wipe σ vs).set i (some x)) vs = wipe σ vs)
    (hd : ∀ H' ys, Same H H' → H' D = some (.lst ys) → DaL NoL H' ys (dues zs) → Qd H') : LcW (Itl K a) (gName i) tYes (tTup (tCons (tC tR) (tCons (tVar i) tNil))) vs σ H D Qd := by
  have ls : (sV zs).length = zs.length := List.length_map ..
  refine lc_it (walk_list (xs := sV zs)) (fun n H' => Same H H' ∧ ∃ ys, H' D = some (.lst ys) ∧ DaL NoL H' ys (dues (zs.take n))) ⟨Same.new hD, [], upd_same, .nil⟩ (fun _ H' _ q => SqL.of (q.1 _ _ ha)) (fun n x H9 H1 hn q y => ?_) fun H' q => ?_
  · obtain ⟨rfl, hx⟩ := y
    obtain ⟨s1, ys, hy, dy⟩ := q
    rw [List.getElem?_map] at hx
    obtain ⟨z, hz, rfl⟩ := Option.map_eq_some_iff.mp hx
    refine ⟨hw _, iteT (B := True) ⟨.str z, hi _, by show 2 ≤ sizeLine; decide, fun p hp => ?_⟩⟩
    have ne : D ≠ p := ne_of_none hy hp
    have lz : (zs.take n).length ≤ n := by rw [List.length_take]; omega
    have ly : ys.length = (zs.take n).length := by rw [dy.len, dues, List.length_map]
    rw [ls] at hn
    refine ⟨ys, by rw [upd_ne ne]; exact hy, small1000 (by omega), Same.back (s1.trans (Same.new hp)) hD, _, upd_same, ?_⟩
    have fl : ∀ c o, H1 c = some o → NoLst o → upd (upd H1 p (.tup [tR, .str z])) D (.lst (ys ++ [.ref p])) c = some o := fun c o e n => by
      have nc : c ≠ D := fun q => by
        rw [q, hy] at e
        cases e
        exact n _ rfl
      rw [upd_ne nc]
      exact Same.new hp _ _ e
    have e1 : dues (zs.take (n + 1)) = dues (zs.take n) ++ [ref2 z] := by
      rw [take_more hz, dues, List.map_append]
      rfl
    rw [e1]
    refine (flat_mono dy fun b o e n _ => fl b o e n).append (.cons (.tup (xs := [tR, .str z]) ?_ (.cons (.str _) (.cons (.str _) .nil))) .nil)
    rw [upd_ne ne.symm]
    exact upd_same
  · obtain ⟨s1, ys, hy, dy⟩ := q
    rw [ls, List.take_length] at dy
    exact hd H' ys s1 hy dy
/-- what was told is what is due -/
theorem dues_eq {K : PySem.W.Frag} {H : Hp} {a b : Addr} {xs ys : List V} {zs : List Str} {Q : VK} (ha : H a = some (.lst xs)) (hb : H b = some (.lst ys)) (da : DaL NoL H xs (dues zs)) (db : DaL NoL H ys (dues zs)) (hz : ∀ z ∈ zs, (PyData.str z).canLay0 = true) (q : Q (.bl true) H) :
    rEqD K (.ref a) (.ref b) H Q := by
  have sh := dues_shaped hz
  refine ⟨.list (dues zs), .list (dues zs), .lst (SqL.of ha) (DaL.dp _ _ (dues_nodict zs) da), .lst (SqL.of hb) (DaL.dp _ _ (dues_nodict zs) db), sh, sh, ?_⟩
  rw [SeqAt.eqv_refl _ (SeqAt.canLay_of_shaped sh)]
  exact q
end K7
namespace K7
open PySem PySem.Spec PyProof.Rows L2 LamX
theorem pw10 {k : Int} (h1 : 0 ≤ k) (h2 : k ≤ 1000000) : CPow 10 k := ⟨h1, h2, by decide⟩
abbrev nRight : List Str := ["dice", "far", "none", "row", "lot", "bad", "many", "degree", "told", "due", "one"]
theorem scRight : FnScope nRight ["dice"] (defScope sRight) := ⟨rfl, rfl, rfl, by decide +kernel, rfl, by decide +kernel, by decide +kernel⟩
def qR : Str := (envOfC "_law_right" (defScope sRight) 0 0 .none).qual ++ ("<lambda>" : Str)
def farD : List PyData := [.none, .int (-1), .int 61, .bool true, .str "3", .tuple [.int 3], .int (10 ^ (60 : Int).toNat)]
def noneD : List PyData := [.none, .tuple [.int 1], .tuple [.int 2, .int 1], .list [.int 2, .int 3], .tuple [.int 41], .tuple [.bool true], .tuple [.str "2"], .tuple (List.replicate (25 : Int).toNat [.int 2]).flatten, .int 2, .str "23", .dict [], .tuple [.int 2, .int 0], .tuple [.int 2, .none]]
def rowD : List PyData := [.none, .tuple [], .tuple [.int 2, .int 1], .list [.int 1, .int 1], .tuple [.int 1, .none], .tuple [.bool true, .int 1], .tuple [.int 1, .str "1"], .tuple (List.replicate (62 : Int).toNat [.int 1]).flatten, .int 1, .tuple [.int 0], .tuple [.int 1, .int (10 ^ (60 : Int).toNat)], .tuple [.int 1, .tuple [.int 1, .int 1]], .dict []]
def lotD : List PyData := [.none, .list [.int 1], .tuple [.int 1001], .tuple [.int (-1001), .int 1], .tuple (List.replicate (61 : Int).toNat [.int 0]).flatten, .tuple [.bool true], .tuple [.str "1"], .int 3, .tuple [.none], .dict [], .tuple [.int (10 ^ (60 : Int).toNat)]]
def badD : List PyData := [.none, .list [.int 2], .tuple [.int 1], .tuple [.int 41, .int 2], .tuple (List.replicate (13 : Int).toNat [.int 2]).flatten, .tuple [.bool true], .tuple [.str "2"], .int 2, .tuple [.int 2, .none], .dict [], .tuple [.int 0], .tuple [.int (-2)]]
def manyD : List PyData := [.none, .int 1, .int 13, .bool true, .str "2", .int (-2), .tuple [.int 2], .int (10 ^ (60 : Int).toNat)]
def degreeD : List PyData := [.none, .int 1, .int 41, .bool true, .str "3", .list [.int 3], .int (-3)]
def fine (d : PyData) : Bool := showOk d && (PyData.str ("number " ++ d.shown)).canLay0
theorem fine_show {d : PyData} (h : fine d = true) : showOk d = true := (Bool.and_eq_true_iff.mp h).1
theorem fine_lay {d : PyData} (h : fine d = true) : (PyData.str ("number " ++ d.shown)).canLay0 = true := (Bool.and_eq_true_iff.mp h).2
theorem far_ok : farD.all (fun d => !dbet 0 60 d && fine d) = true := by decide +kernel
theorem none_ok : noneD.all dloop = true := by decide +kernel
theorem row_ok : rowD.all (fun d => !dser d) = true := by decide +kernel
theorem lot_ok : lotD.all (fun d => !dtup 60 (-1000) 1000 d) = true := by decide +kernel
theorem bad_ok : badD.all (fun d => !dtup 12 2 40 d) = true := by decide +kernel
theorem many_ok : manyD.all (fun d => !dbet 2 12 d && fine d) = true := by decide +kernel
theorem degree_ok : degreeD.all (fun d => !dbet 2 40 d && fine d) = true := by decide +kernel
theorem of_not {b : Bool} (h : (!b) = true) : b = false := by rw [Bool.not_eq_true'] at h; exact h
/-- what the program's defs are, and where -/
structure Defs (P : Program) (w : World) (K : PySem.W.Frag) (mg : Str → Option Value) (base : Heap) (CL CO CN i0 : Addr) : Prop where
  txt : Txt K mg
  num : K7X.NumTxt K mg CN i0
  cls : Clss K mg CL CO CN
  roll : ∃ f fd, mg "_law_roll" = some (.ref f) ∧ PySem.W.keepIn K (.ref f) = true ∧ Binds K fd ["dice", "total"] [] ∧ FnOk P w K mg base CX0 1 f fd ["dice", "total"] spRoll
  pick : ∃ f fd, mg "_law_pick" = some (.ref f) ∧ PySem.W.keepIn K (.ref f) = true ∧ Binds K fd ["dice", "items"] [] ∧ FnOk P w K mg base CX0 2 f fd ["dice", "items"] spPick
  loop : ∃ f fd, mg "loop_series" = some (.ref f) ∧ PySem.W.keepIn K (.ref f) = true ∧ Binds K fd ["letters", "most"] [] ∧ FnOk P w K mg base (L2.CX P w) 5 f fd ["letters", "most"] (spLoop K CL CN)
  cos : ∃ f fd, mg "counts_of_series" = some (.ref f) ∧ PySem.W.keepIn K (.ref f) = true ∧ Binds K fd ["series"] [] ∧ FnOk P w K mg base (L2.CX P w) 3 f fd ["series"] (spCoS K CO)
  soc : ∃ f fd, mg "series_of_counts" = some (.ref f) ∧ PySem.W.keepIn K (.ref f) = true ∧ Binds K fd ["counts"] [] ∧ FnOk P w K mg base (L2.CX P w) 4 f fd ["counts"] (spSoC K CO)
  free : ∃ f fd, mg "free_counts" = some (.ref f) ∧ PySem.W.keepIn K (.ref f) = true ∧ Binds K fd ["degrees", "most"] [] ∧ FnOk P w K mg base (L2.CX P w) 5 f fd ["degrees", "most"] (spFree K CO CN)
  paired : ∃ f fd, mg "paired_counts" = some (.ref f) ∧ PySem.W.keepIn K (.ref f) = true ∧ Binds K fd ["many", "degree", "most"] [] ∧ FnOk P w K mg base (L2.CX P w) 5 f fd ["many", "degree", "most"] (spPaired K CO CN)
  met : ∃ (f : Addr) (oc : Value) (od : Option Addr) (kV doc pm : Value) (an : Option Addr) (cdv ct : Value) (osl : Array (Option Value)), mg "_law_met" = some (.ref f) ∧ PySem.W.keepIn K (.ref f) = true ∧
    K.lookup f = some ⟨oc, od, .func (PySem.W.fnOf "_law_met" "_law_met" (defArgs sMet) (defBody sMet) (defScope sMet) .none kV doc pm an cdv ct), osl⟩ ∧ PySem.W.codeIn K cdv "_law_met" = true
def spRight (T : List (Addr × Str)) : Sp := fun vs H Q _ => ∃ (d : Addr) (L : List V), vs = [.ref d] ∧ H d = some (.lst L) ∧ DiceL L ∧ Tabs T H ∧ ∀ H', Kp [d] H H' → Tabs T H' → Q (.bl true) H'
/-- the dice stand -/
def Zd (d : Addr) : Hp → Prop := fun H => ∃ L, H d = some (.lst L) ∧ DiceL L
theorem zd_free {d l : Addr} (n : d ≠ l) : Free l (Zd d) := fun _ _ ⟨L, e, h⟩ k => ⟨L, k _ _ n e (lst_nt _), h⟩
section
variable {P : Program} {w : World} {K : PySem.W.Frag} {mg : Str → Option Value} {base : Heap} {CL CO CN i0 : Addr}
theorem ok_right {f c P1 : Addr} {T : List (Addr × Str)} {kV doc pm ct oc : Value} {an od : Option Addr} {osl : Array (Option Value)} (mT : (P1, qR) ∈ T) (uT : ∀ p ∈ T, p.1 = P1 → p.2 = qR)
    (lk : K.lookup f = some ⟨oc, od, .func (PySem.W.fnOf "_law_right" "_law_right" (defArgs sRight) (defBody sRight) (defScope sRight) .none kV doc pm an (.ref c) ct), osl⟩)
    (hcd : PySem.W.codeIn K (.ref c) "_law_right" = true) (TB : TabB base mg c P1) (D : Defs P w K mg base CL CO CN i0) :
    FnG P w K mg base CX0 8 f (PySem.W.fnOf "_law_right" "_law_right" (defArgs sRight) (defBody sRight) (defScope sRight) .none kV doc pm an (.ref c) ct) ["dice"] (spRight T) := by
  obtain ⟨fRo, dRo, gRo, kRo, bRo, FRo⟩ := D.roll
  obtain ⟨fPi, dPi, gPi, kPi, bPi, FPi⟩ := D.pick
  obtain ⟨fLo, dLo, gLo, kLo, bLo, FLo⟩ := D.loop
  obtain ⟨fCs, dCs, gCs, kCs, bCs, FCs⟩ := D.cos
  obtain ⟨fSc, dSc, gSc, kSc, bSc, FSc⟩ := D.soc
  obtain ⟨fFr, dFr, gFr, kFr, bFr, FFr⟩ := D.free
  obtain ⟨fPa, dPa, gPa, kPa, bPa, FPa⟩ := D.paired
  obtain ⟨fF, ocF, odF, kVF, docF, pmF, anF, cdF, ctF, oslF, gF, kF, lkF, cF⟩ := D.met
  have M := D.cls
  refine ⟨fun vs H Q E h => ?_, fun A outer s H args us vs Q E hgd hr e0 hb r h => ?_⟩
  · obtain ⟨d, L, rfl, _⟩ := h; rfl
  have hlen : vs.length = (["dice"] : List Str).length := by obtain ⟨d, L, rfl, _⟩ := h; rfl
  refine run_ofS (N := nRight) (k := 7) lk hcd scRight hr e0 hb r hlen fun hr => ?_
  obtain ⟨d, L, rfl, hd, hL, hT, k⟩ := h
  have hr2 : Room 2 _ := hr.mono (by decide)
  have FG := met_gives (X := (cxOf CX0 P w K mg base nRight "_law_right" (defScope sRight) f (.ref c) A outer s H E).nox) (q := qR) (g := fF) (cdg := cdF) hgd (by have := hr.un; show A.units + 3 + 128 < cLine; have h3 : (A.deeper (envOfC (Str.ofString "_law_right") (defScope sRight) s.heap.objs.size f (.ref c))).units = A.units + 3 := rfl; omega) D.txt M D.num
  have bF : L2.Binds K (PySem.W.fnOf "_law_met" "_law_met" (defArgs sMet) (defBody sMet) (defScope sMet) .none kVF docF pmF anF cdF ctF) ["call"] [] := .all fun us hl => match us, hl with | [_], _ => rfl
  have lam : ∀ {params : Arguments} {body : Expr} {scope : Scope} {t : XK → TE} {p lpos pos : Pos}, LamS (defScope sRight) scope → defaultsOf params (cxOf CX0 P w K mg base nRight "_law_right" (defScope sRight) f (.ref c) A outer s H E).nox.env = ([], []) →
      (∀ (q : Str) (cl : List (Str × Addr)) (pm cv ctv : Value), bindArgs (PySem.W.kla_fn "<lambda>" q params body scope cl pm cv ctv) ⟨[], []⟩ = pure []) →
      (∀ (A' : Around) (outer' : List Env) (s' : Shared) (H' : Hp) (E' : XK) (f' c' : Addr), Room 5 (A'.deeper (lamEnv (cxOf CX0 P w K mg base nRight "_law_right" (defScope sRight) f (.ref c) A outer s H E).nox scope s'.heap.objs.size f' c')) →
        PE (lamCx (cxOf CX0 P w K mg base nRight "_law_right" (defScope sRight) f (.ref c) A outer s H E).nox A' outer' s' H' E' scope f' c') body (t E')) →
      PE (cxOf CX0 P w K mg base nRight "_law_right" (defScope sRight) f (.ref c) A outer s H E).nox (.Call (.Name "_law_met" p) [.Lambda params body scope lpos] [] pos) (tLam T (TMet K CL CO CN) t) :=
    fun LS hdef hbi hbd => pe_lamcall (k := 5) (by rfl) gF kF lkF cF bF scMet rfl (.inl rfl) FG TB rfl mT uT hr LS hdef hbi hbd
  suffices hx : ∃ t, PSs (cxOf CX0 P w K mg base nRight "_law_right" (defScope sRight) f (.ref c) A outer s H E).nox (defBody sRight) t ∧ t { nx := fun _ H' => Q .non H', rt := Q } (L2.start nRight [.ref d]) H by
    obtain ⟨t, ht, hq⟩ := hx
    exact ⟨t, ht.nox, hq⟩
  refine ⟨_, (pss_cons (ps_set (i := 1) scRight.nd rfl (.inr rfl) (pe_call FPi hr2 (by rfl) gPi kPi bPi .nil pass0 (pa_cons (pv 0) (pa_cons (pd_lst (pds_cons pd_non (pds_cons pd_neg (pds_cons pd_int (pds_cons pd_bl (pds_cons pd_str (pds_cons (pd_tup (pds_cons pd_int pds_nil)) (pds_cons (pd_pow (pw10 (by decide) (by decide))) pds_nil)))))))) pa_nil))))
    (pss_cons (ps_set (i := 2) scRight.nd rfl (.inr rfl) (pe_call FPi hr2 (by rfl) gPi kPi bPi .nil pass0 (pa_cons (pv 0) (pa_cons (pd_lst (pds_cons pd_non (pds_cons (pd_tup (pds_cons pd_int pds_nil)) (pds_cons (pd_tup (pds_cons pd_int (pds_cons pd_int pds_nil))) (pds_cons (pd_lst (pds_cons pd_int (pds_cons pd_int pds_nil))) (pds_cons (pd_tup (pds_cons pd_int pds_nil)) (pds_cons (pd_tup (pds_cons pd_bl pds_nil)) (pds_cons (pd_tup (pds_cons pd_str pds_nil)) (pds_cons (pd_rep (pd_tup (pds_cons pd_int pds_nil))) (pds_cons pd_int (pds_cons pd_str (pds_cons pd_dic (pds_cons (pd_tup (pds_cons pd_int (pds_cons pd_int pds_nil))) (pds_cons (pd_tup (pds_cons pd_int (pds_cons pd_non pds_nil))) pds_nil)))))))))))))) pa_nil))))
    (pss_cons (ps_set (i := 3) scRight.nd rfl (.inr rfl) (pe_call FPi hr2 (by rfl) gPi kPi bPi .nil pass0 (pa_cons (pv 0) (pa_cons (pd_lst (pds_cons pd_non (pds_cons (pd_tup pds_nil) (pds_cons (pd_tup (pds_cons pd_int (pds_cons pd_int pds_nil))) (pds_cons (pd_lst (pds_cons pd_int (pds_cons pd_int pds_nil))) (pds_cons (pd_tup (pds_cons pd_int (pds_cons pd_non pds_nil))) (pds_cons (pd_tup (pds_cons pd_bl (pds_cons pd_int pds_nil))) (pds_cons (pd_tup (pds_cons pd_int (pds_cons pd_str pds_nil))) (pds_cons (pd_rep (pd_tup (pds_cons pd_int pds_nil))) (pds_cons pd_int (pds_cons (pd_tup (pds_cons pd_int pds_nil)) (pds_cons (pd_tup (pds_cons pd_int (pds_cons (pd_pow (pw10 (by decide) (by decide))) pds_nil))) (pds_cons (pd_tup (pds_cons pd_int (pds_cons (pd_tup (pds_cons pd_int (pds_cons pd_int pds_nil))) pds_nil))) (pds_cons pd_dic pds_nil)))))))))))))) pa_nil))))
    (pss_cons (ps_set (i := 4) scRight.nd rfl (.inr rfl) (pe_call FPi hr2 (by rfl) gPi kPi bPi .nil pass0 (pa_cons (pv 0) (pa_cons (pd_lst (pds_cons pd_non (pds_cons (pd_lst (pds_cons pd_int pds_nil)) (pds_cons (pd_tup (pds_cons pd_int pds_nil)) (pds_cons (pd_tup (pds_cons pd_neg (pds_cons pd_int pds_nil))) (pds_cons (pd_rep (pd_tup (pds_cons pd_int pds_nil))) (pds_cons (pd_tup (pds_cons pd_bl pds_nil)) (pds_cons (pd_tup (pds_cons pd_str pds_nil)) (pds_cons pd_int (pds_cons (pd_tup (pds_cons pd_non pds_nil)) (pds_cons pd_dic (pds_cons (pd_tup (pds_cons (pd_pow (pw10 (by decide) (by decide))) pds_nil)) pds_nil)))))))))))) pa_nil))))
    (pss_cons (ps_set (i := 5) scRight.nd rfl (.inr rfl) (pe_call FPi hr2 (by rfl) gPi kPi bPi .nil pass0 (pa_cons (pv 0) (pa_cons (pd_lst (pds_cons pd_non (pds_cons (pd_lst (pds_cons pd_int pds_nil)) (pds_cons (pd_tup (pds_cons pd_int pds_nil)) (pds_cons (pd_tup (pds_cons pd_int (pds_cons pd_int pds_nil))) (pds_cons (pd_rep (pd_tup (pds_cons pd_int pds_nil))) (pds_cons (pd_tup (pds_cons pd_bl pds_nil)) (pds_cons (pd_tup (pds_cons pd_str pds_nil)) (pds_cons pd_int (pds_cons (pd_tup (pds_cons pd_int (pds_cons pd_non pds_nil))) (pds_cons pd_dic (pds_cons (pd_tup (pds_cons pd_int pds_nil)) (pds_cons (pd_tup (pds_cons pd_neg pds_nil)) pds_nil))))))))))))) pa_nil))))
    (pss_cons (ps_asg (pe_tup (pa_cons (pe_call FPi hr2 (by rfl) gPi kPi bPi .nil pass0 (pa_cons (pv 0) (pa_cons (pd_lst (pds_cons pd_non (pds_cons pd_int (pds_cons pd_int (pds_cons pd_bl (pds_cons pd_str (pds_cons pd_neg (pds_cons (pd_tup (pds_cons pd_int pds_nil)) (pds_cons (pd_pow (pw10 (by decide) (by decide))) pds_nil))))))))) pa_nil))) (pa_cons (pe_call FPi hr2 (by rfl) gPi kPi bPi .nil pass0 (pa_cons (pv 0) (pa_cons (pd_lst (pds_cons pd_non (pds_cons pd_int (pds_cons pd_int (pds_cons pd_bl (pds_cons pd_str (pds_cons (pd_lst (pds_cons pd_int pds_nil)) (pds_cons pd_neg pds_nil)))))))) pa_nil))) pa_nil))) (pg_tup (by rfl) (pgs_cons (pg_name (i := 6) scRight.nd rfl (.inr rfl)) (pgs_cons (pg_name (i := 7) scRight.nd rfl (.inr rfl)) pgs_nil))))
    (pss_cons (ps_set (i := 8) scRight.nd rfl (.inl rfl) (pe_lst (pa_cons (lam (t := fun E' => tCall (spLoop K CL CN) [] E' (tCons (tVar 2) (tCons (tVar 1) tNil))) (lamS_by (by decide +kernel)) (by rfl) (fun _ _ _ _ _ => rfl) (fun A' o' s' H' E' f' c' rm => pe_call FLo rm (by rfl) gLo kLo bLo .nil (passes_call (E := E') (takes_of rfl rfl rfl rfl) (fun _ _ _ _ h => h)) (by exact (pa_cons (pv 2) (pa_cons (pv 1) pa_nil))))) pa_nil)))
    (pss_cons (ps_expr (pe_bm PySem.F.plainAttrs_list PySem.F.slot_list_append PySem.F.type_list_append mt_append (pv 8) (pa_cons (lam (t := fun E' => tCall (spLoop K CL CN) [] E' (tCons (tDat (.tuple [.int 2, .int 3])) (tCons (tVar 1) tNil))) (lamS_by (by decide +kernel)) (by rfl) (fun _ _ _ _ _ => rfl) (fun A' o' s' H' E' f' c' rm => pe_call FLo rm (by rfl) gLo kLo bLo .nil (passes_call (E := E') (takes_of rfl rfl rfl rfl) (fun _ _ _ _ h => h)) (by exact (pa_cons (pd_tup (pds_cons pd_int (pds_cons pd_int pds_nil))) (pa_cons (pv 1) pa_nil))))) pa_nil)))
    (pss_cons (ps_expr (pe_bm PySem.F.plainAttrs_list PySem.F.slot_list_append PySem.F.type_list_append mt_append (pv 8) (pa_cons (lam (t := fun E' => tCall (spCoS K CO) [] E' (tCons (tVar 3) tNil)) (lamS_by (by decide +kernel)) (by rfl) (fun _ _ _ _ _ => rfl) (fun A' o' s' H' E' f' c' rm => pe_call FCs (rm.mono (by decide)) (by rfl) gCs kCs bCs .nil (passes_call (E := E') (takes_of rfl rfl rfl rfl) (fun _ _ _ _ h => h)) (by exact (pa_cons (pv 3) pa_nil)))) pa_nil)))
    (pss_cons (ps_expr (pe_bm PySem.F.plainAttrs_list PySem.F.slot_list_append PySem.F.type_list_append mt_append (pv 8) (pa_cons (lam (t := fun E' => tCall (spSoC K CO) [] E' (tCons (tVar 4) tNil)) (lamS_by (by decide +kernel)) (by rfl) (fun _ _ _ _ _ => rfl) (fun A' o' s' H' E' f' c' rm => pe_call FSc (rm.mono (by decide)) (by rfl) gSc kSc bSc .nil (passes_call (E := E') (takes_of rfl rfl rfl rfl) (fun _ _ _ _ h => h)) (by exact (pa_cons (pv 4) pa_nil)))) pa_nil)))
    (pss_cons (ps_expr (pe_bm PySem.F.plainAttrs_list PySem.F.slot_list_append PySem.F.type_list_append mt_append (pv 8) (pa_cons (lam (t := fun E' => tCall (spFree K CO CN) [] E' (tCons (tVar 5) (tCons (tVar 1) tNil))) (lamS_by (by decide +kernel)) (by rfl) (fun _ _ _ _ _ => rfl) (fun A' o' s' H' E' f' c' rm => pe_call FFr rm (by rfl) gFr kFr bFr .nil (passes_call (E := E') (takes_of rfl rfl rfl rfl) (fun _ _ _ _ h => h)) (by exact (pa_cons (pv 5) (pa_cons (pv 1) pa_nil))))) pa_nil)))
    (pss_cons (ps_expr (pe_bm PySem.F.plainAttrs_list PySem.F.slot_list_append PySem.F.type_list_append mt_append (pv 8) (pa_cons (lam (t := fun E' => tCall (spFree K CO CN) [] E' (tCons (tDat (.tuple [.int 2, .int 2])) (tCons (tVar 1) tNil))) (lamS_by (by decide +kernel)) (by rfl) (fun _ _ _ _ _ => rfl) (fun A' o' s' H' E' f' c' rm => pe_call FFr rm (by rfl) gFr kFr bFr .nil (passes_call (E := E') (takes_of rfl rfl rfl rfl) (fun _ _ _ _ h => h)) (by exact (pa_cons (pd_tup (pds_cons pd_int (pds_cons pd_int pds_nil))) (pa_cons (pv 1) pa_nil))))) pa_nil)))
    (pss_cons (ps_expr (pe_bm PySem.F.plainAttrs_list PySem.F.slot_list_append PySem.F.type_list_append mt_append (pv 8) (pa_cons (lam (t := fun E' => tCall (spPaired K CO CN) [] E' (tCons (tVar 6) (tCons (tVar 7) (tCons (tVar 1) tNil)))) (lamS_by (by decide +kernel)) (by rfl) (fun _ _ _ _ _ => rfl) (fun A' o' s' H' E' f' c' rm => pe_call FPa rm (by rfl) gPa kPa bPa .nil (passes_call (E := E') (takes_of rfl rfl rfl rfl) (fun _ _ _ _ h => h)) (by exact (pa_cons (pv 6) (pa_cons (pv 7) (pa_cons (pv 1) pa_nil)))))) pa_nil)))
    (pss_cons (ps_expr (pe_bm PySem.F.plainAttrs_list PySem.F.slot_list_append PySem.F.type_list_append mt_append (pv 8) (pa_cons (lam (t := fun E' => tCall (spPaired K CO CN) [] E' (tCons (tC (.int 3)) (tCons (tVar 7) (tCons (tVar 1) tNil)))) (lamS_by (by decide +kernel)) (by rfl) (fun _ _ _ _ _ => rfl) (fun A' o' s' H' E' f' c' rm => pe_call FPa rm (by rfl) gPa kPa bPa .nil (passes_call (E := E') (takes_of rfl rfl rfl rfl) (fun _ _ _ _ h => h)) (by exact (pa_cons pe_int (pa_cons (pv 7) (pa_cons (pv 1) pa_nil)))))) pa_nil)))
    (pss_cons (ps_expr (pe_bm PySem.F.plainAttrs_list PySem.F.slot_list_append PySem.F.type_list_append mt_append (pv 8) (pa_cons (lam (t := fun E' => tCall (spPaired K CO CN) [] E' (tCons (tC (.int 3)) (tCons (tC (.int 3)) (tCons (tVar 1) tNil)))) (lamS_by (by decide +kernel)) (by rfl) (fun _ _ _ _ _ => rfl) (fun A' o' s' H' E' f' c' rm => pe_call FPa rm (by rfl) gPa kPa bPa .nil (passes_call (E := E') (takes_of rfl rfl rfl rfl) (fun _ _ _ _ h => h)) (by exact (pa_cons pe_int (pa_cons pe_int (pa_cons (pv 1) pa_nil)))))) pa_nil)))
    (pss_cons (ps_expr (pe_bm PySem.F.plainAttrs_list PySem.F.slot_list_append PySem.F.type_list_append mt_append (pv 8) (pa_cons (lam (t := fun E' => tCall (spPaired K CO CN) [] E' (tCons (tOp (rI0 fun i j => .int (i + j)) (tOp (rI CMul fun i j => .int (i * j)) (tC (.int 2)) (tCall spRoll [] C8.E0 (tCons (tVar 0) (tCons (tC (.int 5)) tNil)))) (tC (.int 3))) (tCons (tCall spPick [] C8.E0 (tCons (tVar 0) (tCons (tDat (.list [.int 3, .int 5, .int 39])) tNil))) (tCons (tC (.int 0)) tNil)))) (lamS_by (by decide +kernel)) (by rfl) (fun _ _ _ _ _ => rfl) (fun A' o' s' H' E' f' c' rm => pe_call FPa rm (by rfl) gPa kPa bPa .nil (passes_call (E := E') (takes_of rfl rfl rfl rfl) (fun _ _ _ _ h => h)) (by exact (pa_cons (pe_op op_add (pe_op op_mul pe_int (pe_call FRo (rm.mono (by decide)) (by rfl) gRo kRo bRo .nil pass0 (pa_cons (pv 0) (pa_cons pe_int pa_nil)))) pe_int) (pa_cons (pe_call FPi (rm.mono (by decide)) (by rfl) gPi kPi bPi .nil pass0 (pa_cons (pv 0) (pa_cons (pd_lst (pds_cons pd_int (pds_cons pd_int (pds_cons pd_int pds_nil)))) pa_nil))) (pa_cons pe_int pa_nil)))))) pa_nil)))
    (pss_cons (ps_set (i := 9) scRight.nd rfl (.inl rfl) (pe_lst (pa_cons pe_str (pa_cons (pe_op op_add_str pe_str (pe_callB (call_reprS (by exact hgd) (by exact hr.units)) (by rfl) D.txt.repr bootRepr (pa_cons (pv 1) pa_nil))) (pa_cons pe_str (pa_cons pe_str (pa_cons pe_str (pa_cons (pe_op op_add_str pe_str (pe_callB (call_reprS (by exact hgd) (by exact hr.units)) (by rfl) D.txt.repr bootRepr (pa_cons (pv 1) pa_nil))) (pa_cons (pe_op op_add_str pe_str (pe_callB (call_reprS (by exact hgd) (by exact hr.units)) (by rfl) D.txt.repr bootRepr (pa_cons (pv 6) pa_nil))) pa_nil)))))))))
    (pss_cons (ps_set (i := 9) scRight.nd rfl (.inl rfl) (pe_op op_cat (pv 9) (pe_lst (pa_cons (pe_op op_add_str pe_str (pe_callB (call_reprS (by exact hgd) (by exact hr.units)) (by rfl) D.txt.repr bootRepr (pa_cons (pv 7) pa_nil))) (pa_cons (pe_op op_add_str pe_str (pe_callB (call_reprS (by exact hgd) (by exact hr.units)) (by rfl) D.txt.repr bootRepr (pa_cons (pv 1) pa_nil))) (pa_cons pe_str pa_nil))))))
    (pss_one (ps_ret (pe_cmpR (op_eqD hr.units) (pv 8) (pe_lc (own := [("one", 10)]) (g := gName 10) rfl scRight.nd (pi_list (pv 9)) (blkOk_by (N := nRight) (sc := defScope sRight) (by decide +kernel)) (fun _ _ _ _ _ => pg_name (i := 10) scRight.nd rfl (Or.inl rfl)) (fun _ _ _ _ _ => pts_nil) (fun _ _ _ _ _ => pe_tup (pa_cons pe_str (pa_cons (pv 10) pa_nil)))) (nomark _)))))))))))))))))))))), ?_⟩
  have dS : d ∈ [d] := List.mem_cons_self
  have dN : ∀ {H' : Hp} {L' : List V}, H' d = some (.lst L') → ∀ s' ∈ [d], H' s' ≠ none := fun e s' hs => by
    rw [List.mem_singleton.mp hs, e]
    exact (fun z => nomatch z)
  refine pick_dat (ds := farD) rfl hd hL dS (dN hd) (by simp [farD]) (by decide) (fun v_far d_far L1 H1 m_far a_far kq1 hd1 hL1 => ?_)
  have ok_far := List.all_eq_true.mp far_ok d_far m_far
  refine pick_dat (ds := noneD) rfl hd1 hL1 dS (dN hd1) (by simp [noneD]) (by decide) (fun v_none d_none L2 H2 m_none a_none kq2 hd2 hL2 => ?_)
  have ok_none := List.all_eq_true.mp none_ok d_none m_none
  replace a_far := a_far.mono kq2.kp
  refine pick_dat (ds := rowD) rfl hd2 hL2 dS (dN hd2) (by simp [rowD]) (by decide) (fun v_row d_row L3 H3 m_row a_row kq3 hd3 hL3 => ?_)
  have ok_row := List.all_eq_true.mp row_ok d_row m_row
  replace a_far := a_far.mono kq3.kp
  replace a_none := a_none.mono kq3.kp
  refine pick_dat (ds := lotD) rfl hd3 hL3 dS (dN hd3) (by simp [lotD]) (by decide) (fun v_lot d_lot L4 H4 m_lot a_lot kq4 hd4 hL4 => ?_)
  have ok_lot := List.all_eq_true.mp lot_ok d_lot m_lot
  replace a_far := a_far.mono kq4.kp
  replace a_none := a_none.mono kq4.kp
  replace a_row := a_row.mono kq4.kp
  refine pick_dat (ds := badD) rfl hd4 hL4 dS (dN hd4) (by simp [badD]) (by decide) (fun v_bad d_bad L5 H5 m_bad a_bad kq5 hd5 hL5 => ?_)
  have ok_bad := List.all_eq_true.mp bad_ok d_bad m_bad
  replace a_far := a_far.mono kq5.kp
  replace a_none := a_none.mono kq5.kp
  replace a_row := a_row.mono kq5.kp
  replace a_lot := a_lot.mono kq5.kp
  refine pick_dat (ds := manyD) rfl hd5 hL5 dS (dN hd5) (by simp [manyD]) (by decide) (fun v_many d_many L6 H6 m_many a_many kq6 hd6 hL6 => ?_)
  have ok_many := List.all_eq_true.mp many_ok d_many m_many
  replace a_far := a_far.mono kq6.kp
  replace a_none := a_none.mono kq6.kp
  replace a_row := a_row.mono kq6.kp
  replace a_lot := a_lot.mono kq6.kp
  replace a_bad := a_bad.mono kq6.kp
  refine pick_dat (ds := degreeD) rfl hd6 hL6 dS (dN hd6) (by simp [degreeD]) (by decide) (fun v_degree d_degree L7 H7 m_degree a_degree kq7 hd7 hL7 => ?_)
  have ok_degree := List.all_eq_true.mp degree_ok d_degree m_degree
  replace a_far := a_far.mono kq7.kp
  replace a_none := a_none.mono kq7.kp
  replace a_row := a_row.mono kq7.kp
  replace a_lot := a_lot.mono kq7.kp
  replace a_bad := a_bad.mono kq7.kp
  replace a_many := a_many.mono kq7.kp
  refine ⟨by show 2 ≤ sizeLine; decide, fun t2 ht2 => ⟨t2, _, rfl, SqT.of upd_same, rfl, _, _, rfl, _, _, rfl, rfl, ?_⟩⟩
  have kq8 : Kq [d] H7 (upd H7 t2 (.tup [v_many, v_degree])) := .new ht2
  have hd8 : upd H7 t2 (.tup [v_many, v_degree]) d = some (.lst L7) := by rw [upd_ne (ne_of_none hd7 ht2)]; exact hd7
  have kAll := (((((((kq1.trans kq2).trans kq3).trans kq4).trans kq5).trans kq6).trans kq7).trans kq8)
  have hT8 : Tabs T (upd H7 t2 (.tup [v_many, v_degree])) := tabs_kq hT kAll
  replace a_far := a_far.mono kq8.kp
  replace a_none := a_none.mono kq8.kp
  replace a_row := a_row.mono kq8.kp
  replace a_lot := a_lot.mono kq8.kp
  replace a_bad := a_bad.mono kq8.kp
  replace a_many := a_many.mono kq8.kp
  replace a_degree := a_degree.mono kq8.kp
  generalize upd H7 t2 (.tup [v_many, v_degree]) = H8 at *
  -- told
  refine ⟨hT8, fun Ha ea ta => ⟨_, rfl, _, rfl, v_none, v_far, rfl, .inl ⟨(a_none.mono (Kp.of ea)).loopBad ok_none, fun G s' => .inl ⟨rfl, fun p hp => ⟨by show 1 ≤ sizeLine; decide, fun lt hlt => ?_⟩⟩⟩⟩⟩
  have kG : Kp [d] H8 G := (Kp.of ea).trans (Kq.same s').kp
  have hdG : G d = some (.lst L7) := s' _ _ (ea _ _ hd8 (lst_nt _))
  have tG : Tabs T G := tabs_kq (S := [d]) ta (Kq.same s')
  have nG : G lt = none := none_back (Same.new hp) hlt
  have ndl : d ≠ lt := ne_of_none hdG nG
  have nS : lt ∉ [d] := fun z => ndl (List.mem_singleton.mp z).symm
  have zf : Free lt (Zd d) := zd_free ndl
  have R0 : Run [d] (Zd d) G T lt [.ref p] [ref2 "letters"] (upd (upd G p (two tR (.str "letters"))) lt (.lst [.ref p])) :=
    Run.first (Kp.refl _ _) tG (fun l hl => zd_free (ne_of_none hdG hl)) ⟨L7, hdG, hL7⟩ hp hlt nG (.str _) (.str _)
  replace a_far := a_far.mono kG
  replace a_none := a_none.mono kG
  replace a_row := a_row.mono kG
  replace a_lot := a_lot.mono kG
  replace a_bad := a_bad.mono kG
  replace a_many := a_many.mono kG
  replace a_degree := a_degree.mono kG
  generalize upd (upd G p (two tR (.str "letters"))) lt (.lst [.ref p]) = G0 at *
  generalize ([V.ref p] : List V) = ts0 at *
  have nil : ∀ {C : Addr} {Ha : _root_.L2.Hp} {E : XK} {ts : List V} {ds : List PyData}, Run [d] (Zd d) G T lt ts ds Ha → (∀ H', Kq [d] Ha H' → Zd d H' → E (.ref C) none H') → NilE E C Ha := fun Ra hE H' s' => hE H' (Kq.same s') (zf _ _ Ra.zz fun b o _ e _ => s' b o e)
  have fB : betw v_far 0 60 = false := by rw [a_far.betw]; exact of_not (Bool.and_eq_true_iff.mp ok_far).1
  have mB : betw v_many 2 12 = false := by rw [a_many.betw]; exact of_not (Bool.and_eq_true_iff.mp ok_many).1
  have dB : betw v_degree 2 40 = false := by rw [a_degree.betw]; exact of_not (Bool.and_eq_true_iff.mp ok_degree).1
  have fF := (Bool.and_eq_true_iff.mp ok_far).2
  have fM := (Bool.and_eq_true_iff.mp ok_many).2
  have fD := (Bool.and_eq_true_iff.mp ok_degree).2
  have t3 : betw (.int 3) 2 12 = true := by decide +kernel
  have t4 : betw (.int 3) 2 40 = true := by decide +kernel
  have no : ∀ {p : Prop} {x : V} {a b : Int}, betw x a b = false → betw x a b = true → p := fun e1 e2 => by rw [e1] at e2; cases e2
  refine line_num (N := fun a => a ∉ [d]) (dx := d_far) rfl R0 zf nS (by simp) (fine_show fF) (fun Ha Ra => a_far.mono Ra.kp) (fun Ha Ra E' Q' ne => ?_) (fun ts1 G1 R1 => ?_)
  · intro x H1 s1 dn
    have a1 := (a_far.mono Ra.kp).mono (Kq.same s1).kp
    cases dn with
    | @tup a xs _ e h =>
      obtain rfl := DaL.ints (L := [2, 3]) h
      exact ⟨_, rfl, _, _, rfl, .inr ⟨a, [2, 3], rfl, SqT.of e, ⟨by decide, by decide, by decide⟩, by decide, .inl ⟨a1.vk, fB, ne.mono s1⟩⟩⟩
  refine line_nil (C := CO) (z := "operation") (.inr ⟨rfl, rfl⟩) rfl R1 zf nS (by simp) (fun Ha Ra E' Q' hE => ?_) (fun ts2 G2 R2 => ?_)
  · have q := (a_row.mono Ra.kp).serIs (K := K)
    rw [of_not ok_row] at q
    exact ⟨_, rfl, _, false, rfl, q, fun _ => nil Ra hE, (fun z => nomatch z)⟩
  refine line_nil (C := CO) (z := "operation") (.inr ⟨rfl, rfl⟩) rfl R2 zf nS (by simp) (fun Ha Ra E' Q' hE => ?_) (fun ts3 G3 R3 => ?_)
  · have q := (a_lot.mono Ra.kp).tupIs (K := K) 60 (-1000) 1000
    rw [of_not ok_lot] at q
    exact ⟨_, rfl, _, false, rfl, q, fun _ => nil Ra hE, (fun z => nomatch z)⟩
  refine line_nil (C := CO) (z := "operation") (.inr ⟨rfl, rfl⟩) rfl R3 zf nS (by simp) (fun Ha Ra E' Q' hE => ?_) (fun ts4 G4 R4 => ?_)
  · have q := (a_bad.mono Ra.kp).tupIs (K := K) 12 2 40
    rw [of_not ok_bad] at q
    exact ⟨_, rfl, _, rfl, _, _, false, rfl, q, (a_far.mono Ra.kp).vk, fun _ => nil Ra hE, (fun z => nomatch z), (fun z => nomatch z)⟩
  refine line_num (N := fun a => a ∉ [d]) (dx := d_far) rfl R4 zf nS (by simp) (fine_show fF) (fun Ha Ra => a_far.mono Ra.kp) (fun Ha Ra E' Q' ne => ?_) (fun ts5 G5 R5 => ?_)
  · intro x H1 s1 dn
    have a1 := (a_far.mono Ra.kp).mono (Kq.same s1).kp
    have q := dn.tupIs (K := K) 12 2 40
    have e : dtup 12 2 40 (.tuple [.int 2, .int 2]) = true := by decide +kernel
    rw [e] at q
    exact ⟨_, rfl, _, _, true, rfl, q, a1.vk, (fun z => nomatch z), fun _ _ => ne.mono s1, fun _ z => no fB z⟩
  refine line_num (N := fun a => a ∉ [d]) (dx := d_many) rfl R5 zf nS (by simp) (fine_show fM) (fun Ha Ra => a_many.mono Ra.kp) (fun Ha Ra E' Q' ne => ?_) (fun ts6 G6 R6 => ?_)
  · exact ⟨_, rfl, _, rfl, _, rfl, _, _, _, rfl, (a_many.mono Ra.kp).vk, (a_degree.mono Ra.kp).vk, (a_far.mono Ra.kp).vk, fun _ => ne, fun z => no mB z, fun z => no mB z, fun z => no mB z⟩
  refine line_num (N := fun a => a ∉ [d]) (dx := d_degree) rfl R6 zf nS (by simp) (fine_show fD) (fun Ha Ra => a_degree.mono Ra.kp) (fun Ha Ra E' Q' ne => ?_) (fun ts7 G7 R7 => ?_)
  · exact ⟨_, rfl, _, rfl, _, _, _, rfl, .int 3, (a_degree.mono Ra.kp).vk, (a_far.mono Ra.kp).vk, fun z => no z t3, fun _ _ => ne, fun _ z => no dB z, fun _ z => no dB z⟩
  refine line_num (N := fun a => a ∉ [d]) (dx := d_far) rfl R7 zf nS (by simp) (fine_show fF) (fun Ha Ra => a_far.mono Ra.kp) (fun Ha Ra E' Q' ne => ?_) (fun ts8 G8 R8 => ?_)
  · exact ⟨_, rfl, _, _, _, rfl, .int 3, .int 3, (a_far.mono Ra.kp).vk, fun z => no z t3, fun _ z => no z t4, fun _ _ _ => ne, fun _ _ z => no fB z⟩
  refine line_nil (C := CO) (z := "operation") (.inr ⟨rfl, rfl⟩) rfl R8 zf nS (by simp) (fun Ha Ra E' Q' hE => ?_) (fun ts9 G9 R9 => ?_)
  · obtain ⟨L', hd', hL'⟩ := Ra.zz
    refine ⟨_, rfl, d, 5, L', rfl, by decide, by decide, hd', hL', fun i L2 i0 i1 hL2 => ⟨_, _, rfl, rfl, .inl ⟨by decide, by decide⟩, _, _, rfl, rfl, ?_⟩⟩
    have w1 : Kq [d] Ha (upd Ha d (.lst L2)) := .write dS hd'
    have hd2 : upd Ha d (.lst L2) d = some (.lst L2) := upd_same
    refine pick_dat (ds := [.int 3, .int 5, .int 39]) rfl hd2 hL2 dS (dN hd2) (by simp) (by decide) (fun v dv L3 Hb mv av kv hd3 hL3 => ?_)
    obtain ⟨m, rfl, m1, m2, m3⟩ : ∃ m : Int, v = .int m ∧ 2 ≤ m ∧ m ≤ 40 ∧ m % 2 = 1 := by
      simp only [List.mem_cons, List.not_mem_nil, or_false] at mv
      rcases mv with e | e | e
      · subst e
        cases av
        exact ⟨3, rfl, by decide, by decide, by decide⟩
      · subst e
        cases av
        exact ⟨5, rfl, by decide, by decide, by decide⟩
      · subst e
        cases av
        exact ⟨39, rfl, by decide, by decide, by decide⟩
    have b1 : betw (.int (2 * i + 3)) 2 12 = true := betw_of (by omega) (by omega) (by decide) (by decide)
    have b2 : betw (.int m) 2 40 = true := betw_of (by omega) (by omega) (by decide) (by decide)
    have b3 : betw (.int 0) 0 60 = true := by decide +kernel
    have wK := w1.trans kv
    exact ⟨_, _, _, rfl, .int _, .int _, .int _, fun z => no z b1, fun _ z => no z b2, fun _ _ z => no z b3, fun _ _ _ => ⟨2 * i + 3, m, 0, rfl, rfl, rfl, by omega, by omega, m1, m2, by decide,
      .inl ⟨m3, by omega, fun H' s' => hE H' (wK.trans (Kq.same s')) ⟨L3, s' _ _ hd3, hL3⟩⟩⟩⟩
  -- due
  have aF := a_far.mono R9.kp
  have aM := a_many.mono R9.kp
  have aD := a_degree.mono R9.kp
  obtain ⟨shF, lF⟩ := aF.shown (K := K) (fine_show fF)
  obtain ⟨shM, lM⟩ := aM.shown (K := K) (fine_show fM)
  obtain ⟨shD, lD⟩ := aD.shown (K := K) (fine_show fD)
  have e7 : ("number " : Str).length = 7 := by decide +kernel
  refine ⟨_, rfl, v_far, _, rfl, shF, _, _, rfl, rfl, sl (by rw [e7]; omega), _, rfl, v_far, _, rfl, shF, _, _, rfl, rfl, sl (by rw [e7]; omega), _, rfl, v_many, _, rfl, shM, _, _, rfl, rfl, sl (by rw [e7]; omega), by show 7 ≤ sizeLine; decide, fun u1 hu1 => ?_⟩
  have s1 : Same G9 (upd G9 u1 (.lst (sV ["letters", "number " ++ d_far.shown, "operation", "operation", "operation", "number " ++ d_far.shown, "number " ++ d_many.shown]))) := Same.new hu1
  have h1 : upd G9 u1 (.lst (sV ["letters", "number " ++ d_far.shown, "operation", "operation", "operation", "number " ++ d_far.shown, "number " ++ d_many.shown])) u1 = some (.lst (sV ["letters", "number " ++ d_far.shown, "operation", "operation", "operation", "number " ++ d_far.shown, "number " ++ d_many.shown])) := upd_same
  have shF1 := ((aF.mono (Kq.same s1).kp).shown (K := K) (fine_show fF)).1
  have shD1 := ((aD.mono (Kq.same s1).kp).shown (K := K) (fine_show fD)).1
  have w1 : (upd G9 u1 (.lst (sV ["letters", "number " ++ d_far.shown, "operation", "operation", "operation", "number " ++ d_far.shown, "number " ++ d_many.shown]))) = upd G9 u1 (.lst [.str "letters", .str ("number " ++ d_far.shown), .str "operation", .str "operation", .str "operation", .str ("number " ++ d_far.shown), .str ("number " ++ d_many.shown)]) := rfl
  rw [← w1]
  generalize upd G9 u1 (.lst (sV ["letters", "number " ++ d_far.shown, "operation", "operation", "operation", "number " ++ d_far.shown, "number " ++ d_many.shown])) = K1 at *
  refine ⟨_, rfl, _, rfl, v_degree, _, rfl, shD1, _, _, rfl, rfl, sl (by rw [e7]; omega), _, rfl, v_far, _, rfl, shF1, _, _, rfl, rfl, sl (by rw [e7]; omega), by show 3 ≤ sizeLine; decide, fun u2 hu2 => ?_⟩
  have s2 : Same K1 (upd K1 u2 (.lst [.str ("number " ++ d_degree.shown), .str ("number " ++ d_far.shown), .str "operation"])) := Same.new hu2
  refine ⟨u1, u2, _, _, rfl, rfl, s2 _ _ h1, upd_same, by show 7 + 3 ≤ sizeLine; decide, fun u3 hu3 => ?_⟩
  have s3 := s2.trans (Same.new (o := .lst (sV ["letters", "number " ++ d_far.shown, "operation", "operation", "operation", "number " ++ d_far.shown, "number " ++ d_many.shown] ++ [.str ("number " ++ d_degree.shown), .str ("number " ++ d_far.shown), .str "operation"])) hu3)
  have h3 : upd (upd K1 u2 (.lst [.str ("number " ++ d_degree.shown), .str ("number " ++ d_far.shown), .str "operation"])) u3 (.lst (sV ["letters", "number " ++ d_far.shown, "operation", "operation", "operation", "number " ++ d_far.shown, "number " ++ d_many.shown] ++ [.str ("number " ++ d_degree.shown), .str ("number " ++ d_far.shown), .str "operation"])) u3 =
    some (.lst (sV ["letters", "number " ++ d_far.shown, "operation", "operation", "operation", "number " ++ d_far.shown, "number " ++ d_many.shown, "number " ++ d_degree.shown, "number " ++ d_far.shown, "operation"])) := upd_same
  generalize upd (upd K1 u2 (.lst [.str ("number " ++ d_degree.shown), .str ("number " ++ d_far.shown), .str "operation"])) u3 (.lst (sV ["letters", "number " ++ d_far.shown, "operation", "operation", "operation", "number " ++ d_far.shown, "number " ++ d_many.shown] ++ [.str ("number " ++ d_degree.shown), .str ("number " ++ d_far.shown), .str "operation"])) = K3 at *
  have s13 := s1.trans s3
  refine ⟨_, rfl, _, rfl, u3, rfl, ⟨_, SqL.of h3⟩, fun De hDe => lc_dues hDe h3 (by show 10 ≤ 900; decide) (fun _ => rfl) (fun _ => rfl) fun H4 ys s4 hy dy => ?_⟩
  have S := s13.trans s4
  have kF := flat_mono R9.dts fun b o e _ _ => S b o e
  refine dues_eq (zs := ["letters", "number " ++ d_far.shown, "operation", "operation", "operation", "number " ++ d_far.shown, "number " ++ d_many.shown, "number " ++ d_degree.shown, "number " ++ d_far.shown, "operation"]) (S _ _ R9.here) hy kF dy (fun z hz => ?_) ?_
  · simp only [List.mem_cons, List.not_mem_nil, or_false] at hz
    have o1 : (PyData.str "operation").canLay0 = true := by decide +kernel
    have o2 : (PyData.str "letters").canLay0 = true := by decide +kernel
    rcases hz with e | e | e | e | e | e | e | e | e | e <;> subst e
    · exact o2
    · exact fine_lay fF
    · exact o1
    · exact o1
    · exact o1
    · exact fine_lay fF
    · exact fine_lay fM
    · exact fine_lay fD
    · exact fine_lay fF
    · exact o1
  · exact k H4 (((kAll.kp.trans kG).trans R9.kp).trans (Kq.same S).kp) (tabs_kq (S := [d]) R9.tab (Kq.same S))
end
end K7
namespace K7
open PySem PySem.Spec PyProof.Rows L2 LamX
theorem c1 : seriesOk (cnts (List.replicate 24 40)) 60 = true := seriesOk_of (by decide) (by decide +kernel)
theorem c2 : countsOk (List.replicate 61 1) = true := countsOk_of (by decide) (by decide +kernel)
theorem c3 : seriesOk (List.replicate 59 0 ++ [-1000]) 60 = true := seriesOk_of (by decide) (by decide +kernel)
theorem c4 : countsOk (ctAt (partsOf (List.replicate 12 40)) 59 59) = true := countsOk_of (by rw [ctAt_len]; decide) (by rw [ctAt_len]; decide +kernel)
theorem c5 : countsOk (ctAt (pairParts 12 40) 59 59) = true := countsOk_of (by rw [ctAt_len]; decide) (by rw [ctAt_len]; decide +kernel)
theorem c6 : countsOk (ctAt (pairParts 12 39) 59 59) = true := countsOk_of (by rw [ctAt_len]; decide) (by rw [ctAt_len]; decide +kernel)
abbrev nLaw : List Str := ["script", "spot", "told"]
theorem scLaw : FnScope nLaw ["script"] (defScope sLaw) := ⟨rfl, rfl, rfl, by decide +kernel, rfl, by decide +kernel, by decide +kernel⟩
def qW : Str := (envOfC "law" (defScope sLaw) 0 0 .none).qual ++ ("<lambda>" : Str)
def spLaw (K : PySem.W.Frag) (T : List (Addr × Str)) : Sp := fun vs H Q _ => ∃ (a : Addr) (ns : List Int), vs = [.ref a] ∧ SqL K H a (ns.map V.int) ∧ Tabs T H ∧ ∀ H', Q (.bl true) H'
theorem seq_kp {K : PySem.W.Frag} {H H' : Hp} {a p : Addr} {xs : List V} (h : SqL K H a xs) (hp : H p = none) {o : HO} (k : Kp [p] (upd H p o) H') : SqL K H' a xs := by
  rcases h with (h | ⟨ob, h⟩) | h
  · have ne := ne_of_none h hp
    exact .inl (.inl (k _ _ (by rw [upd_ne ne]; exact h) (.inl fun z => ne (List.mem_singleton.mp z)) (lst_nt _)))
  · have ne := ne_of_none h hp
    exact .inl (.inr ⟨ob, k _ _ (by rw [upd_ne ne]; exact h) (.inl fun z => ne (List.mem_singleton.mp z)) fun _ z => nomatch z⟩)
  · exact .inr h
def fin2 : PyData := .tuple [.str "fine", .str ""]
theorem dn_ints {H0 H : Hp} {x : V} {L : List Int} {ds : List PyData} (e : ds = L.map PyData.int) (h : Dn H0 H x (.tuple ds)) : ∃ a, x = .ref a ∧ H a = some (.tup (iV L)) := by
  subst e
  cases h with
  | tup e h =>
    obtain rfl := DaL.ints h
    exact ⟨_, rfl, e⟩
section
variable {P : Program} {w : World} {K : PySem.W.Frag} {mg : Str → Option Value} {base : Heap} {CL CO CN i0 : Addr}
theorem ok_law {f c P2 fR fD : Addr} {T0 : List (Addr × Str)} {kV doc pm ct oc : Value} {an od : Option Addr} {osl : Array (Option Value)} {dR' dD : FuncData} (mT : (P2, qW) ∈ T0) (uT : ∀ p ∈ T0, p.1 = P2 → p.2 = qW)
    (lk : K.lookup f = some ⟨oc, od, .func (PySem.W.fnOf "law" "law" (defArgs sLaw) (defBody sLaw) (defScope sLaw) .none kV doc pm an (.ref c) ct), osl⟩)
    (hcd : PySem.W.codeIn K (.ref c) "law" = true) (TB : TabB base mg c P2) (D : Defs P w K mg base CL CO CN i0)
    (gR : mg "_law_right" = some (.ref fR)) (kR : PySem.W.keepIn K (.ref fR) = true) (bR : Binds K dR' ["dice"] []) (FR : FnG P w K mg base CX0 8 fR dR' ["dice"] (spRight T0))
    (gD : mg "_law_dice" = some (.ref fD)) (kD : PySem.W.keepIn K (.ref fD) = true) (bD : Binds K dD ["script", "spot"] []) (FD : FnOk P w K mg base CX0 1 fD dD ["script", "spot"] (spDice K)) :
    FnG P w K mg base CX0 9 f (PySem.W.fnOf "law" "law" (defArgs sLaw) (defBody sLaw) (defScope sLaw) .none kV doc pm an (.ref c) ct) ["script"] (spLaw K T0) := by
  obtain ⟨fLo, dLo, gLo, kLo, bLo, FLo⟩ := D.loop
  obtain ⟨fCs, dCs, gCs, kCs, bCs, FCs⟩ := D.cos
  obtain ⟨fSc, dSc, gSc, kSc, bSc, FSc⟩ := D.soc
  obtain ⟨fFr, dFr, gFr, kFr, bFr, FFr⟩ := D.free
  obtain ⟨fPa, dPa, gPa, kPa, bPa, FPa⟩ := D.paired
  obtain ⟨fF, ocF, odF, kVF, docF, pmF, anF, cdF, ctF, oslF, gF, kF, lkF, cF⟩ := D.met
  have M := D.cls
  have T := D.txt
  obtain ⟨t1, m1⟩ := T.cLOOP
  obtain ⟨t2, m2⟩ := T.cUNITS
  refine ⟨fun vs H Q E h => ?_, fun A outer s H args us vs Q E hgd hr e0 hb r h => ?_⟩
  · obtain ⟨d, L, rfl, _⟩ := h; rfl
  have hlen : vs.length = (["script"] : List Str).length := by obtain ⟨d, L, rfl, _⟩ := h; rfl
  refine run_ofS (N := nLaw) (k := 8) lk hcd scLaw hr e0 hb r hlen fun hr => ?_
  obtain ⟨a, ns, rfl, hS, hT, k⟩ := h
  have hr1 : Room 1 _ := hr.mono (by decide)
  have FG := met_gives (X := (cxOf CX0 P w K mg base nLaw "law" (defScope sLaw) f (.ref c) A outer s H E).nox) (q := qW) (g := fF) (cdg := cdF) hgd (by have := hr.un; show A.units + 3 + 128 < cLine; have h3 : (A.deeper (envOfC (Str.ofString "law") (defScope sLaw) s.heap.objs.size f (.ref c))).units = A.units + 3 := rfl; omega) D.txt M D.num
  have bF : L2.Binds K (PySem.W.fnOf "_law_met" "_law_met" (defArgs sMet) (defBody sMet) (defScope sMet) .none kVF docF pmF anF cdF ctF) ["call"] [] := .all fun us hl => match us, hl with | [_], _ => rfl
  have lam : ∀ {params : Arguments} {body : Expr} {scope : Scope} {t : XK → TE} {p lpos pos : Pos}, LamS (defScope sLaw) scope → defaultsOf params (cxOf CX0 P w K mg base nLaw "law" (defScope sLaw) f (.ref c) A outer s H E).nox.env = ([], []) →
      (∀ (q : Str) (cl : List (Str × Addr)) (pm cv ctv : Value), bindArgs (PySem.W.kla_fn "<lambda>" q params body scope cl pm cv ctv) ⟨[], []⟩ = pure []) →
      (∀ (A' : Around) (outer' : List Env) (s' : Shared) (H' : Hp) (E' : XK) (f' c' : Addr), Room 5 (A'.deeper (lamEnv (cxOf CX0 P w K mg base nLaw "law" (defScope sLaw) f (.ref c) A outer s H E).nox scope s'.heap.objs.size f' c')) →
        PE (lamCx (cxOf CX0 P w K mg base nLaw "law" (defScope sLaw) f (.ref c) A outer s H E).nox A' outer' s' H' E' scope f' c') body (t E')) →
      PE (cxOf CX0 P w K mg base nLaw "law" (defScope sLaw) f (.ref c) A outer s H E).nox (.Call (.Name "_law_met" p) [.Lambda params body scope lpos] [] pos) (tLam T0 (TMet K CL CO CN) t) :=
    fun LS hdef hbi hbd => pe_lamcall (k := 5) (by rfl) gF kF lkF cF bF scMet rfl (.inl rfl) FG TB rfl mT uT (hr.mono (by decide)) LS hdef hbi hbd
  suffices hx : ∃ t, PSs (cxOf CX0 P w K mg base nLaw "law" (defScope sLaw) f (.ref c) A outer s H E).nox (defBody sLaw) t ∧ t { nx := fun _ H' => Q .non H', rt := Q } (L2.start nLaw [.ref a]) H by
    obtain ⟨t, ht, hq⟩ := hx
    exact ⟨t, ht.nox, hq⟩
  refine ⟨_, (pss_cons (ps_for PassesOwn.never rfl (pi_range1 rfl T.range (pa_cons (pe_callB (call_max2 rfl) (by rfl) T.max bootMax (pa_cons pe_int (pa_cons (pe_callB (call_min2 rfl) (by rfl) T.min bootMin (pa_cons pe_int (pa_cons (pe_callB call_len_seq (by rfl) T.len PySem.boot_len (pa_cons (pv 0) pa_nil)) pa_nil))) pa_nil))) pa_nil))
      (pg_name (i := 1) scLaw.nd rfl (.inl rfl)) (pss_one (ps_if (pt_not (pt_val (pe_callG FR (by exact hgd) hr (by rfl) gR kR bR (pa_cons (pe_call FD hr1 (by rfl) gD kD bD .nil pass0 (pa_cons (pv 0) (pa_cons (pv 1) pa_nil))) pa_nil)))) (pss_one (ps_ret pe_bl)) pss_nil)))
    (pss_cons (ps_set (i := 2) scLaw.nd rfl (.inl rfl) (pe_lst (pa_cons (lam (t := fun E' => tCall (spLoop K CL CN) [] E' (tCons (tOp (rMulF K) (tTup (tCons (tC (.int 40)) tNil)) (tC (.int 24))) (tCons (tC (.int 60)) tNil))) (lamS_by (by decide +kernel)) (by rfl) (fun _ _ _ _ _ => rfl) (fun A' o' s' H' E' f' c' rm => pe_call FLo rm (by rfl) gLo kLo bLo .nil (passes_call (E := E') (takes_of rfl rfl rfl rfl) (fun _ _ _ _ h => h)) (by exact (pa_cons (pe_op op_mulF (pe_tup (pa_cons pe_int pa_nil)) pe_int) (pa_cons pe_int pa_nil))))) pa_nil)))
    (pss_cons (ps_expr (pe_bm PySem.F.plainAttrs_list PySem.F.slot_list_append PySem.F.type_list_append mt_append (pv 2) (pa_cons (lam (t := fun E' => tCall (spCoS K CO) [] E' (tCons (tDat (.tuple (List.replicate (61 : Int).toNat [.int 1]).flatten)) tNil)) (lamS_by (by decide +kernel)) (by rfl) (fun _ _ _ _ _ => rfl) (fun A' o' s' H' E' f' c' rm => pe_call FCs (rm.mono (by decide)) (by rfl) gCs kCs bCs .nil (passes_call (E := E') (takes_of rfl rfl rfl rfl) (fun _ _ _ _ h => h)) (by exact (pa_cons (pd_rep (pd_tup (pds_cons pd_int pds_nil))) pa_nil)))) pa_nil)))
    (pss_cons (ps_expr (pe_bm PySem.F.plainAttrs_list PySem.F.slot_list_append PySem.F.type_list_append mt_append (pv 2) (pa_cons (lam (t := fun E' => tCall (spSoC K CO) [] E' (tCons (tDat (.tuple ((List.replicate (59 : Int).toNat [.int 0]).flatten ++ [.int (-1000)]))) tNil)) (lamS_by (by decide +kernel)) (by rfl) (fun _ _ _ _ _ => rfl) (fun A' o' s' H' E' f' c' rm => pe_call FSc (rm.mono (by decide)) (by rfl) gSc kSc bSc .nil (passes_call (E := E') (takes_of rfl rfl rfl rfl) (fun _ _ _ _ h => h)) (by exact (pa_cons (pd_cat (pd_rep (pd_tup (pds_cons pd_int pds_nil))) (pd_tup (pds_cons pd_neg pds_nil))) pa_nil)))) pa_nil)))
    (pss_cons (ps_expr (pe_bm PySem.F.plainAttrs_list PySem.F.slot_list_append PySem.F.type_list_append mt_append (pv 2) (pa_cons (lam (t := fun E' => tCall (spFree K CO CN) [] E' (tCons (tDat (.tuple (List.replicate (12 : Int).toNat [.int 40]).flatten)) (tCons (tC (.int 60)) tNil))) (lamS_by (by decide +kernel)) (by rfl) (fun _ _ _ _ _ => rfl) (fun A' o' s' H' E' f' c' rm => pe_call FFr rm (by rfl) gFr kFr bFr .nil (passes_call (E := E') (takes_of rfl rfl rfl rfl) (fun _ _ _ _ h => h)) (by exact (pa_cons (pd_rep (pd_tup (pds_cons pd_int pds_nil))) (pa_cons pe_int pa_nil))))) pa_nil)))
    (pss_cons (ps_expr (pe_bm PySem.F.plainAttrs_list PySem.F.slot_list_append PySem.F.type_list_append mt_append (pv 2) (pa_cons (lam (t := fun E' => tCall (spPaired K CO CN) [] E' (tCons (tC (.int 12)) (tCons (tC (.int 40)) (tCons (tC (.int 60)) tNil)))) (lamS_by (by decide +kernel)) (by rfl) (fun _ _ _ _ _ => rfl) (fun A' o' s' H' E' f' c' rm => pe_call FPa rm (by rfl) gPa kPa bPa .nil (passes_call (E := E') (takes_of rfl rfl rfl rfl) (fun _ _ _ _ h => h)) (by exact (pa_cons pe_int (pa_cons pe_int (pa_cons pe_int pa_nil)))))) pa_nil)))
    (pss_cons (ps_expr (pe_bm PySem.F.plainAttrs_list PySem.F.slot_list_append PySem.F.type_list_append mt_append (pv 2) (pa_cons (lam (t := fun E' => tCall (spPaired K CO CN) [] E' (tCons (tC (.int 12)) (tCons (tC (.int 39)) (tCons (tC (.int 60)) tNil)))) (lamS_by (by decide +kernel)) (by rfl) (fun _ _ _ _ _ => rfl) (fun A' o' s' H' E' f' c' rm => pe_call FPa rm (by rfl) gPa kPa bPa .nil (passes_call (E := E') (takes_of rfl rfl rfl rfl) (fun _ _ _ _ h => h)) (by exact (pa_cons pe_int (pa_cons pe_int (pa_cons pe_int pa_nil)))))) pa_nil)))
    (pss_one (ps_ret (pe_and (pe_cmpR (op_eqD hr.units) (pv 2) (pe_op op_rep (pe_lst (pa_cons (pe_tup (pa_cons pe_str (pa_cons pe_str pa_nil))) pa_nil)) pe_int) (nomark _))
      (pe_one (pe_cmpR (op_eqD hr.units) (pe_lst (pa_cons (pe_glob (v := .int 60) (by rfl) m1 ⟨_, rfl⟩) (pa_cons (pe_glob (v := .int 12) (by rfl) m2 ⟨_, rfl⟩) pa_nil))) (pe_lst (pa_cons pe_int (pa_cons pe_int pa_nil))) (nomark _))))))))))))), ?_⟩
  refine ⟨_, rfl, a, _, rfl, .inl hS, _, _, rfl, _, _, rfl, _, rfl, ?_, ?_, ?_⟩
  · split <;> split <;> omega
  · split <;> split <;> omega
  refine for_range (lo := 0) (fun _ σ' H' => ∃ o : Option V, σ' = [some (.ref a), o, none] ∧ SqL K H' a (ns.map V.int) ∧ Tabs T0 H') ⟨none, rfl, hS, hT⟩ ?_ ?_
  · rintro i σ' H' _ ⟨o, rfl, hs, ht⟩
    refine ⟨_, rfl, _, rfl, a, _, ns, rfl, hs, by omega, fun L p hL hp => ?_⟩
    refine ⟨p, L, rfl, upd_same, hL, tabs_kq (S := []) ht (Kq.new hp), fun H1 kp tb => ⟨_, rfl, ?_⟩⟩
    exact iteF ⟨_, rfl, seq_kp hs hp kp, tb⟩
  rintro σ' H8 ⟨o, rfl, hs, ht⟩
  -- told
  refine ⟨ht, fun Ha ea ta => ⟨by show 1 ≤ sizeLine; decide, fun p hp => ⟨p, 24, [.int 40], rfl, rfl, SqT.of upd_same, by simp, by decide, by decide, by decide, fun q od hq c1' c2' => ?_⟩⟩⟩
  have sQ : Same Ha (upd (upd Ha p (.tup [.int 40])) q (.frz od (.tup (List.replicate (24 : Int).toNat [V.int 40]).flatten))) := (Same.new hp).trans (Same.new hq)
  have tF : TupF (upd (upd Ha p (.tup [.int 40])) q (.frz od (.tup (List.replicate (24 : Int).toNat [V.int 40]).flatten))) q (iV (List.replicate 24 40)) := ⟨od, upd_same, c1', c2'⟩
  have rF : ∀ i ∈ List.replicate 24 (40 : Int), i = 40 := fun i hi => List.eq_of_mem_replicate hi
  refine ⟨.ref q, .int 60, rfl, .inr ⟨q, List.replicate 24 40, rfl, tF.sq, ⟨by decide, fun i hi => by rw [rF i hi]; decide, fun i hi => by rw [rF i hi]; decide⟩, fun z => absurd (rF 1 z) (by decide),
    .inr ⟨60, rfl, by decide, tF, c1, fun G p' sG _ _ => ⟨by show 2 ≤ sizeLine; decide, fun p hp => ⟨by show 1 ≤ sizeLine; decide, fun lt hlt => ?_⟩⟩⟩⟩⟩
  have sHG : Same Ha G := sQ.trans sG
  have tG : Tabs T0 G := tabs_kq (S := []) ta (Kq.same sHG)
  have nG : G lt = none := none_back (Same.new hp) hlt
  have nS : lt ∉ ([] : List Addr) := fun z => nomatch z
  have zf : Free lt (fun _ => True) := fun _ _ _ _ => trivial
  have R0 : Run [] (fun _ => True) G T0 lt [.ref p] [fin2] (upd (upd G p (two (.str "fine") (.str ""))) lt (.lst [.ref p])) :=
    Run.first (Kp.refl _ _) tG (fun l hl _ _ _ _ => trivial) trivial hp hlt nG (.str _) (.str _)
  generalize upd (upd G p (two (.str "fine") (.str ""))) lt (.lst [.ref p]) = G0 at *
  generalize ([V.ref p] : List V) = ts0 at *
  refine line_fine rfl R0 zf nS (by simp) (fun Ha Ra E' Q' hQ => ?_) (fun ts1 G1 R1 => ?_)
  · intro x H1 s1 dn
    have q := dn.serIs (K := K)
    rw [show dser (.tuple (List.replicate (61 : Int).toNat [.int 1]).flatten) = true by decide +kernel] at q
    obtain ⟨b, rfl, e⟩ := dn_ints (L := List.replicate 61 1) rfl dn
    exact ⟨_, true, rfl, q, (fun z => nomatch z), fun _ => ⟨b, _, rfl, SqT.of e, by decide, by decide, c2, fun H' p s' _ _ => hQ _ _ (s1.trans s')⟩⟩
  refine line_fine rfl R1 zf nS (by simp) (fun Ha Ra E' Q' hQ => ?_) (fun ts2 G2 R2 => ?_)
  · intro x H1 s1 dn
    have q := dn.tupIs (K := K) 60 (-1000) 1000
    rw [show dtup 60 (-1000) 1000 (.tuple ((List.replicate (59 : Int).toNat [.int 0]).flatten ++ [.int (-1000)])) = true by decide +kernel] at q
    obtain ⟨b, rfl, e⟩ := dn_ints (L := List.replicate 59 0 ++ [-1000]) rfl dn
    exact ⟨_, true, rfl, q, (fun z => nomatch z), fun _ => ⟨b, _, rfl, SqT.of e, by decide, c3, fun H' p s' _ _ => hQ _ _ (s1.trans s')⟩⟩
  refine line_fine rfl R2 zf nS (by simp) (fun Ha Ra E' Q' hQ => ?_) (fun ts3 G3 R3 => ?_)
  · intro x H1 s1 dn
    have q := dn.tupIs (K := K) 12 2 40
    rw [show dtup 12 2 40 (.tuple (List.replicate (12 : Int).toNat [.int 40]).flatten) = true by decide +kernel] at q
    obtain ⟨b, rfl, e⟩ := dn_ints (L := List.replicate 12 40) rfl dn
    have b60 : betw (.int 60) 0 60 = true := by decide +kernel
    exact ⟨_, .int 60, true, rfl, q, .int _, (fun z => nomatch z), (fun _ z => by rw [b60] at z; cases z), fun _ _ => ⟨b, _, 60, rfl, rfl, SqT.of e, fun i hi => by rw [List.eq_of_mem_replicate hi]; decide, by decide, by decide, c4, fun H' p s' _ _ => hQ _ _ (s1.trans s')⟩⟩
  refine line_fine rfl R3 zf nS (by simp) (fun Ha Ra E' Q' hQ => ?_) (fun ts4 G4 R4 => ?_)
  · have b1 : betw (.int 12) 2 12 = true := by decide +kernel
    have b2 : betw (.int 40) 2 40 = true := by decide +kernel
    have b3 : betw (.int 60) 0 60 = true := by decide +kernel
    exact ⟨_, _, _, rfl, .int 12, .int 40, .int 60, (fun z => by rw [b1] at z; cases z), (fun _ z => by rw [b2] at z; cases z), (fun _ _ z => by rw [b3] at z; cases z), fun _ _ _ => ⟨12, 40, 60, rfl, rfl, rfl, by decide, by decide, by decide, by decide, by decide,
      .inr ⟨by decide, c5, fun H' p s' _ _ => hQ _ _ s'⟩⟩⟩
  refine line_fine rfl R4 zf nS (by simp) (fun Ha Ra E' Q' hQ => ?_) (fun ts5 G5 R5 => ?_)
  · have b1 : betw (.int 12) 2 12 = true := by decide +kernel
    have b2 : betw (.int 39) 2 40 = true := by decide +kernel
    have b3 : betw (.int 60) 0 60 = true := by decide +kernel
    exact ⟨_, _, _, rfl, .int 12, .int 39, .int 60, (fun z => by rw [b1] at z; cases z), (fun _ z => by rw [b2] at z; cases z), (fun _ _ z => by rw [b3] at z; cases z), fun _ _ _ => ⟨12, 39, 60, rfl, rfl, rfl, by decide, by decide, by decide, by decide, by decide,
      .inr ⟨by decide, c6, fun H' p s' _ _ => hQ _ _ s'⟩⟩⟩
  refine ⟨_, rfl, by show 2 ≤ sizeLine; decide, fun u1 hu1 => ⟨by show 1 ≤ sizeLine; decide, fun u2 hu2 => ⟨u2, 6, _, rfl, rfl, upd_same, by decide, by decide, by show 1 * 6 ≤ sizeLine; decide, fun u3 hu3 => ?_⟩⟩⟩
  have s1 : Same G5 (upd G5 u1 (.tup [.str "fine", .str ""])) := Same.new hu1
  have d1 : Da NoL (upd G5 u1 (.tup [.str "fine", .str ""])) (.ref u1) fin2 := .tup (xs := [.str "fine", .str ""]) upd_same (.cons (.str _) (.cons (.str _) .nil))
  have s2 := (Same.new (o := .lst [V.ref u1]) hu2).trans (Same.new (o := .lst (List.replicate (6 : Int).toNat [V.ref u1]).flatten) hu3)
  have h3 : upd (upd (upd G5 u1 (.tup [.str "fine", .str ""])) u2 (.lst [V.ref u1])) u3 (.lst (List.replicate (6 : Int).toNat [V.ref u1]).flatten) u3 = some (.lst (List.replicate (6 : Int).toNat [V.ref u1]).flatten) := upd_same
  have d3 : DaL NoL (upd (upd (upd G5 u1 (.tup [.str "fine", .str ""])) u2 (.lst [V.ref u1])) u3 (.lst (List.replicate (6 : Int).toNat [V.ref u1]).flatten)) (List.replicate (6 : Int).toNat [V.ref u1]).flatten (List.replicate (6 : Int).toNat [fin2]).flatten :=
    DaL.rep (.cons (d1.mono s2 fun _ n => n) .nil) _
  have sS := s1.trans s2
  have kF := flat_mono R5.dts fun b o e _ _ => sS b o e
  have h2 := sS _ _ R5.here
  generalize upd (upd (upd G5 u1 (.tup [.str "fine", .str ""])) u2 (.lst [V.ref u1])) u3 (.lst (List.replicate (6 : Int).toNat [V.ref u1]).flatten) = G6 at *
  have sh : SeqAt.shaped (.list (List.replicate 6 fin2)) = true := by decide +kernel
  refine ⟨.list (List.replicate 6 fin2), .list (List.replicate 6 fin2), .lst (SqL.of h2) (DaL.dp (List.replicate 6 fin2) _ (by decide +kernel) kF), .lst (SqL.of h3) (DaL.dp (List.replicate 6 fin2) _ (by decide +kernel) d3), sh, sh, _, rfl, ?_⟩
  rw [SeqAt.eqv_refl _ (SeqAt.canLay_of_shaped sh)]
  refine iteT ⟨by show 2 ≤ sizeLine; decide, fun u4 hu4 => ⟨by show 2 ≤ sizeLine; decide, fun u5 hu5 => ?_⟩⟩
  have s5 : Same (upd G6 u4 (.lst [.int 60, .int 12])) (upd (upd G6 u4 (.lst [.int 60, .int 12])) u5 (.lst [.int 60, .int 12])) := Same.new hu5
  have sh2 : SeqAt.shaped (.list [.int 60, .int 12]) = true := by decide +kernel
  refine ⟨.list [.int 60, .int 12], .list [.int 60, .int 12], .lst (SqL.of (s5 _ _ upd_same)) (.cons (.int _) (.cons (.int _) .nil)), .lst (SqL.of upd_same) (.cons (.int _) (.cons (.int _) .nil)), sh2, sh2, ?_⟩
  rw [SeqAt.eqv_refl _ (SeqAt.canLay_of_shaped sh2)]
  exact k _
end
end K7
namespace K7
open PySem PySem.Spec PyProof.Rows L2 LamX
/-! ### the end: the law called from outside, no repr under way, tables of code objects -/
/-- what is tracked at first: the tables, and the script where nothing else tells of it -/
def hp0 (cs : List (Addr × Addr)) (a : Addr) (B : Option HO) : Hp := fun b => if b ∈ cs.map (·.2) then some (.tbl #[]) else if b = a then B else none
theorem hp0_tab {cs : List (Addr × Addr)} {a b : Addr} {B : Option HO} (h : b ∈ cs.map (·.2)) : hp0 cs a B b = some (.tbl #[]) := if_pos h
theorem hp0_arg {cs : List (Addr × Addr)} {a : Addr} {B : Option HO} (n : a ∉ cs.map (·.2)) : hp0 cs a B a = B := (if_neg n).trans (if_pos rfl)
theorem hp0_else {cs : List (Addr × Addr)} {a b : Addr} {B : Option HO} (n : b ∉ cs.map (·.2)) (m : b ≠ a) : hp0 cs a B b = none := (if_neg n).trans (if_neg m)
theorem hp0_some {cs : List (Addr × Addr)} {a b : Addr} {B : Option HO} {o : HO} (h : hp0 cs a B b = some o) : (b ∈ cs.map (·.2) ∧ o = .tbl #[]) ∨ (b ∉ cs.map (·.2) ∧ b = a ∧ B = some o) := by
  by_cases e : b ∈ cs.map (·.2)
  · rw [hp0_tab e] at h
    exact .inl ⟨e, (Option.some.inj h).symm⟩
  · by_cases f : b = a
    · subst f
      rw [hp0_arg e] at h
      exact .inr ⟨e, rfl, h⟩
    · rw [hp0_else e f] at h
      cases h
theorem in_tabs {cs : List (Addr × Addr)} {b : Addr} (h : b ∈ cs.map (·.2)) : ∃ p ∈ cs, p.2 = b := by
  obtain ⟨p, hp, e⟩ := List.mem_map.mp h
  exact ⟨p, hp, e⟩
/-- an object that is no sequence and no empty record stays where it is -/
theorem hp0_free {h : Heap} {cs : List (Addr × Addr)} {a b : Addr} {B : Option HO} {o oa : Obj} (tP : ∀ p ∈ cs, h.get? p.2 = some { cls := .none, data := .fields #[] }) (ga : h.get? a = some oa) (e : h.get? b = some o) (n1 : o.data ≠ .fields #[]) (n2 : o ≠ oa) : hp0 cs a B b = none := by
  refine hp0_else (fun q => ?_) (fun q => ?_)
  · obtain ⟨p, hp, z⟩ := in_tabs q
    have y := tP p hp
    rw [z, e] at y
    exact n1 (by rw [Option.some.inj y])
  · subst q
    rw [ga] at e
    exact n2 (Option.some.inj e).symm
theorem law_runs {P : Program} {w : World} {K : PySem.W.Frag} {mg mb : Str → Option Value} {k : Nat} {fa a : Addr} {cs : List (Addr × Addr)} {fd : FuncData} {x : Str} {sp : Sp} {s : Shared} {vs : List Value} {ns : List Int}
    (KX : K.In s.heap) (gM : s.heap.Ns mainGlobals mg) (gB : s.heap.Ns builtinsNs mb) (gBB : ∀ y : Str, y ≠ "__name__" → mb y = bootBuiltins y) (gL : s.heap.NoLimit) (gG : s.gens = #[])
    (tP : ∀ p ∈ cs, s.heap.get? p.2 = some { cls := .none, data := .fields #[] }) (nP : ∀ p ∈ cs, K.lookup p.2 = none) (cP : ∀ p ∈ cs, PySem.W.CodeHd s.heap p.1 p.2)
    (bM : ∃ (bm : Addr) (ob : Obj), mg "__builtins__" = some (.ref bm) ∧ bm ≠ builtinsNs ∧ s.heap.get? bm = some ob ∧ ob.cls = .type "module" ∧ ob.dict = some builtinsNs ∧ ob.data = .plain)
    (ga : s.heap.get? a = some { cls := .type "list", data := .seq vs.toArray }) (hi : IntsAre vs ns) (hl : ns.length ≤ sizeLine) (hr : Room k callerA)
    (F : ∀ base : Heap, K.In base → base.Ns mainGlobals mg → (∀ p ∈ cs, TabB base mg p.1 p.2) → FnG P w K mg base CX0 k fa fd [x] sp) (bF : ∀ (s : Shared) (u : Value), BindsTo s fd ⟨[u], []⟩ [(x, u)])
    (hS : ∀ H : Hp, (∀ p ∈ cs, H p.2 = some (.tbl #[])) → SqL K H a (ns.map V.int) → sp [.ref a] H (fun v _ => v = .bl true) fun _ _ _ => False) :
    codeAny (model P w) callerA (.call (.ref fa) ⟨[.ref a], []⟩) (fun r t => r = .ok (.ret (.bool true)) ∧ OldK s.heap t.heap ∧ t.os = s.os ∧ AllBare t.gens) s := by
  have isT : ∀ {b : Addr} {o : Obj}, b ∈ cs.map (·.2) → s.heap.get? b = some o → o = { cls := .none, data := .fields #[] } := fun {b o} h e => by
    obtain ⟨p, hp, z⟩ := in_tabs h
    have y := tP p hp
    rw [z, e] at y
    exact Option.some.inj y
  have aP : a ∉ cs.map (·.2) := fun q => by
    have y := isT q ga
    cases y
  obtain ⟨B, hB, hA⟩ : ∃ B : Option HO, (B = none ∨ (K.lookup a = none ∧ B = some (.frz { cls := .type "list", data := .seq vs.toArray } (.lst (ns.map V.int))))) ∧ SqL K (hp0 cs a B) a (ns.map V.int) := by
    cases hk : K.lookup a with
    | some o =>
      have e := KX a o hk
      rw [ga] at e
      cases e
      exact ⟨none, .inl rfl, .inr ⟨_, vs.toArray, _, hk, rfl, rfl, rfl, by rw [List.size_toArray, hi.length]; exact hl, by simpa using vals_ints hi⟩⟩
    | none => exact ⟨_, .inr ⟨rfl, rfl⟩, .inl (.inr ⟨{ cls := .type "list", data := .seq vs.toArray }, hp0_arg aP⟩)⟩
  let H : Hp := hp0 cs a B
  have hH : ∀ p ∈ cs, H p.2 = some (.tbl #[]) := fun p hp => hp0_tab (List.mem_map.mpr ⟨p, hp, rfl⟩)
  have ok0 : HOk P w H s.heap := fun b u z => by
    rcases hp0_some z with ⟨hb, rfl⟩ | ⟨n, rfl, e⟩
    · obtain ⟨p, hp, rfl⟩ := in_tabs hb
      exact tP p hp
    · rcases hB with q | ⟨_, q⟩
      · rw [q] at e
        cases e
      · rw [q] at e
        cases e
        exact ⟨ga, by rw [List.length_map]; exact hl, vs, _, vals_ints hi, ga⟩
  have stay : ∀ {b : Addr} {o : Obj}, s.heap.get? b = some o → H b = none → (hidT s.heap H).get? b = some o := fun e n => hidT_get e n
  have stayD : ∀ {b : Addr} {m : Str → Option Value}, s.heap.Ns b m → (hidT s.heap H).Ns b m := fun {b m} ⟨o, es, ep, e, d, r⟩ =>
    ⟨o, es, ep, stay e (hp0_free tP ga e (fun z => by rw [d] at z; cases z) (fun z => by rw [z] at d; cases d)), d, r⟩
  have KB : K.In (hidT s.heap H) := fun b o e => stay (KX b o e) (by
    cases q : H b with
    | none => rfl
    | some u =>
      rcases hp0_some q with ⟨hb, _⟩ | ⟨_, rfl, e2⟩
      · obtain ⟨p, hp, rfl⟩ := in_tabs hb
        rw [nP p hp] at e
        cases e
      · rcases hB with z | ⟨z, _⟩
        · rw [z] at e2
          cases e2
        · rw [z] at e
          cases e)
  have MB : L2.Mod K mg (hidT s.heap H) := ⟨KB, stayD gM, ⟨mb, stayD gB, gBB⟩, let ⟨mc, h1, h2⟩ := gL; ⟨mc, stayD h1, h2⟩⟩
  have TB : ∀ p ∈ cs, TabB (hidT s.heap H) mg p.1 p.2 := fun p hp => by
    refine ⟨?_, ?_, fun z => ?_⟩
    · obtain ⟨o, us, file, tf, flags, tg, inF, text, tt, e1, r1, r2, rest⟩ := cP p hp
      refine ⟨o, us, file, tf, flags, tg, inF, text, tt, stay e1 (hp0_free tP ga e1 (fun z => ?_) (fun z => ?_)), r1, r2, rest⟩
      · rw [r2] at z
        cases z
        simp at rest
      · rw [z] at r2
        cases r2
    · obtain ⟨bm, ob, b1, b2, b3, b4, b5, b6⟩ := bM
      refine ⟨bm, ob, b1, b2, fun q => ?_, fun q => ?_, stay b3 (hp0_free tP ga b3 (fun z => ?_) (fun z => ?_)), b4, b5, b6⟩
      · obtain ⟨o, es, ep, e, hd, _⟩ := gM
        rw [q, e] at b3
        cases b3
        rw [hd] at b6
        cases b6
      · rw [q, tP p hp] at b3
        cases b3
        cases b6
      · rw [b6] at z
        cases z
      · rw [z] at b6
        cases b6
    · obtain ⟨o, es, ep, e, hd, _⟩ := gM
      rw [z, tP p hp] at e
      cases e
      cases hd
  have E0 : Env0 P w K mg (hidT s.heap H) callerA [] s H := ⟨rfl, MB, fun b o e => of_hidT e, Nat.le_of_eq (hidT_size _ _), trivial, fun b hb => absurd (show b ∈ ([] : List Addr) from hb) (by simp), ok0, .of_eq gG⟩
  refine codeAny_mono ((F _ KB (stayD gM) TB).run callerA [] s H ⟨[.ref a], []⟩ [.ref a] [.ref a] _ _ rfl hr E0 (bF s (.ref a)) (.cons rfl .nil) (hS H hH hA)) fun r t h => ?_
  cases r with
  | error e => exact (show False from h).elim
  | ok fl =>
    cases fl with
    | next => exact (show False from h).elim
    | brk => exact (show False from h).elim
    | cont => exact (show False from h).elim
    | ret u =>
      obtain ⟨v, H', os, bare, un, ok1, rv, q⟩ := h
      obtain rfl : v = .bl true := q
      obtain rfl : u = Value.bool true := rv
      have grown : ∀ p ∈ cs, ∃ more : Array Value, t.heap.get? p.2 = some { cls := .none, data := .fields more } := fun p hp => by
        obtain ⟨more, z⟩ := un.tbls p.2 #[] (hH p hp)
        exact ⟨_, ok1 p.2 _ z⟩
      have same : ∀ b o, b ∉ cs.map (·.2) → s.heap.get? b = some o → t.heap.get? b = some o := fun b o nb e => by
        cases z : H b with
        | none => exact un.keep b o e z (fun y => absurd (show b ∈ ([] : List Addr) from y) (by simp)) (by simp)
        | some y =>
          rcases hp0_some z with ⟨e2, _⟩ | ⟨_, rfl, e2⟩
          · exact absurd e2 nb
          · rcases hB with e3 | ⟨_, e3⟩
            · rw [e3] at e2
              cases e2
            · rw [e3] at e2
              cases e2
              obtain ⟨g1, _⟩ := ok1 b _ (un.frzs b _ _ z)
              rw [ga] at e
              cases e
              exact g1
      refine ⟨rfl, ⟨fun b o e => ?_, fun b o e => ?_⟩, os, bare⟩
      · by_cases nb : b ∈ cs.map (·.2)
        · obtain rfl := isT nb e
          obtain ⟨p, hp, rfl⟩ := in_tabs nb
          obtain ⟨more, gT⟩ := grown p hp
          exact .inr (.inl ⟨((cP p hp).tab (tP p hp)).isCodeTable, rfl, #[], more, rfl, by rw [Array.empty_append]; exact gT⟩)
        · exact .inl (same b o nb e)
      · by_cases nb : b ∈ cs.map (·.2)
        · obtain ⟨p, hp, rfl⟩ := in_tabs nb
          obtain ⟨more, gT⟩ := grown p hp
          exact ⟨_, gT⟩
        · exact ⟨o, same b o nb e⟩
/-- what is asked of the law at the head's heap -/
def LawIs (l : PySem.W.OpenLaw) (w : World) (K : PySem.W.Frag) (k n : Nat) (x : Str) (mg : Str → Option Value) (fa : Addr) (cs : List (Addr × Addr)) : Prop :=
  ∃ (fd : FuncData) (sp : Sp), (∀ p ∈ cs, K.lookup p.2 = none) ∧ (∀ (s : Shared) (u : Value), BindsTo s fd ⟨[u], []⟩ [(x, u)]) ∧
    (∀ (H : Hp) (a : Addr) (ns : List Int), (∀ p ∈ cs, H p.2 = some (.tbl #[])) → SqL K H a (ns.map V.int) → sp [.ref a] H (fun v _ => v = .bl true) fun _ _ _ => False) ∧
    ∀ base : Heap, K.In base → base.Ns mainGlobals mg → (∀ p ∈ cs, TabB base mg p.1 p.2) → FnG l.prog w K mg base CX0 k fa fd [x] sp
theorem walk_tabs {l : PySem.W.OpenLaw} {n k : Nat} {q : Program} {loose : List Str} {XP : (Str → Option Value) → Heap → Prop} {YP : World → Heap → Prop} {d : DefRec} {K : Params → PySem.W.Frag} {x : Str} {xs : List Str}
    (hn : l.most = some n) (hn2 : n ≤ sizeLine) (hdf : d.params.defaults = []) (hr : Room k callerA) (hY : ∀ (w : World) (h : Heap), YP w h → (K w.params).In h) (hrec : (xs.all fun y => ((recsOf q).find? fun e => e.name == y).isSome) = true)
    (F : ∀ (w : World) (mg : Str → Option Value) (fa : Addr) (h : Heap), (K w.params).In h → h.Ns mainGlobals mg → mg d.name = some (.ref fa) → ∃ cs : List (Addr × Addr), (∀ p ∈ cs, ∃ y ∈ xs, PySem.W.tabIn (K w.params) y = some p) ∧ LawIs l w (K w.params) k n x mg fa cs) :
    PySem.W.WalkO q loose XP YP l.row.toRowW d [] (fun f vs => PySem.call f vs) := by
  refine Att.attach_callB hn hdf fun w s₀ s₁ mg mb fa o pm cd doc a vs ns G Y ho hd hcd hmg hobj hints hlen hbits hg => ?_
  have KX := hY w _ Y
  obtain ⟨cs, ht, fd, sp, nP, bF, hS, hF⟩ := F w mg fa _ KX G.T.g hmg
  have both : ∀ p ∈ cs, PySem.W.CodeHd s₁.heap p.1 p.2 ∧ s₁.heap.get? p.2 = some { cls := .none, data := .fields #[] } := fun p hp => by
    obtain ⟨y, hy, e⟩ := ht p hp
    obtain ⟨dt, hdt⟩ := Option.isSome_iff_exists.mp (List.all_eq_true.mp hrec y hy)
    exact PySem.W.tab_of G.T KX hdt e
  exact law_runs KX G.T.g G.T.b G.T.builtins G.T.nolimit hg (fun p hp => (both p hp).2) nP (fun p hp => (both p hp).1) G.T.bmain hobj hints (Nat.le_trans hlen hn2) hr hF bF (fun H hH h => hS H a ns hH h)
end K7
namespace K7
open PySem PySem.Spec PyProof.Rows L2 LamX
/-! ### the facts of the written part -/
structure Has (K : PySem.W.Frag) (x : Str) (st : Stmt) (f : Addr) : Prop where
  at' : PySem.W.nsIn K mainGlobals x = some (some (.ref f))
  kp : PySem.W.keepIn K (.ref f) = true
  look : ∃ (oc : Value) (od : Option Addr) (kV doc pm : Value) (an : Option Addr) (cdv ct : Value) (osl : Array (Option Value)),
    K.lookup f = some ⟨oc, od, .func (PySem.W.fnOf x x (defArgs st) (defBody st) (defScope st) .none kV doc pm an cdv ct), osl⟩ ∧ PySem.W.codeIn K cdv x = true
theorem has_of {K : PySem.W.Frag} {x : Str} {st : Stmt} {f : Addr} {oc kV doc pm cdv ct : Value} {od an : Option Addr} {osl : Array (Option Value)} (a : PySem.W.nsIn K mainGlobals x = some (some (.ref f)))
    (l : K.lookup f = some ⟨oc, od, .func (PySem.W.fnOf x x (defArgs st) (defBody st) (defScope st) .none kV doc pm an cdv ct), osl⟩) (c : PySem.W.codeIn K cdv x = true) (k : PySem.W.keepIn K (.ref f) = true) : Has K x st f :=
  ⟨a, k, oc, od, kV, doc, pm, an, cdv, ct, osl, l, c⟩
theorem Has.fn {K : PySem.W.Frag} {x : Str} {st : Stmt} {f : Addr} (F : Has K x st f) : ∃ fd, Fun K x x st f fd := by
  obtain ⟨oc, od, kV, doc, pm, an, cdv, ct, osl, l, c⟩ := F.look
  exact ⟨_, fun_mk (st := st) l c F.kp⟩
/-- what an except clause over the class at S says of the class at C -/
theorem exm_by {K : PySem.W.Frag} {C S : Addr} {b : Bool} (h1 : PySem.W.subIn K (.ref S) (.type "BaseException") = some true) (h2 : PySem.W.isClsIn K S = true) (h3 : PySem.W.typeIn K (.ref S) = some (.type "type")) (h4 : PySem.W.subIn K (.ref C) (.ref S) = some b) :
    PySem.W.exmOne K (.ref C) (.ref S) = some b := by
  have e1 : (PySem.W.subIn K (.ref S) (.type "BaseException") == some true) = true := by rw [h1] <;> rfl
  have e2 : ((PySem.W.clsIn K S).isSome && PySem.W.typeIn K (.ref S) == some (.type "type")) = true := by
    have h5 : (PySem.W.clsIn K S).isSome = true := h2
    rw [h5, h3] <;> rfl
  unfold PySem.W.exmOne
  rw [if_pos e1]
  exact (if_pos e2).trans h4
/-- a class of errors: of its own, over BaseException -/
structure Cl (K : PySem.W.Frag) (x : Str) (C : Addr) : Prop where
  at' : PySem.W.nsIn K mainGlobals x = some (some (.ref C))
  kp : PySem.W.keepIn K (.ref C) = true
  ex : PySem.W.subIn K (.ref C) (.type "BaseException") = some true
  ty : PySem.W.typeIn K (.ref C) = some (.type "type")
  is : PySem.W.isClsIn K C = true
theorem cl_of {K : PySem.W.Frag} {x : Str} {C : Addr} (a : PySem.W.nsIn K mainGlobals x = some (some (.ref C))) (k : PySem.W.keepIn K (.ref C) = true) (e : PySem.W.subIn K (.ref C) (.type "BaseException") = some true)
    (t : PySem.W.typeIn K (.ref C) = some (.type "type")) (i : PySem.W.isClsIn K C = true) : Cl K x C := ⟨a, k, e, t, i⟩
structure NumFacts (K : PySem.W.Frag) (C i0 : Addr) : Prop where
  made : PySem.W.excInitIn K C K7X.ieB "IndexError.__new__" = true
  over : PySem.W.excOver K C K7X.ieB = true
  dict : PySem.W.hasDictIn K C = true
  stores : PySem.W.findIn K (.ref C) "__setattr__" = some (some (.builtin "object.__setattr__"))
  reads : PySem.W.findIn K (.ref C) "__getattribute__" = some (some (.builtin "BaseException.__getattribute__"))
  reads2 : PySem.W.findIn K (.ref C) "__getattr__" = some none
  noGiven : PySem.W.findIn K (.ref C) "given" = some none
  inits : PySem.W.findIn K (.ref C) "__init__" = some (some (.ref i0))
  isdef : PySem.W.typeIn K (.ref i0) = some (.type "function")
  text : ∃ (oc : Value) (od : Option Addr) (doc pm : Value) (an : Option Addr) (cdv ct : Value) (osl : Array (Option Value)) (r1 r2 r3 r4 r5 r6 : Pos),
    K.lookup i0 = some ⟨oc, od, .func (PySem.W.fnOf "__init__" "InvalidNumber.__init__" (K7X.nuA r1 r2) (K7X.nuB r3 r4 r5 r6) K7X.nuS .none .none doc pm an cdv ct), osl⟩ ∧ PySem.W.codeIn K cdv "InvalidNumber.__init__" = true
theorem num_of {K : PySem.W.Frag} {C i0 : Addr} {oc doc pm cdv ct : Value} {od an : Option Addr} {osl : Array (Option Value)} (j : PySem.W.findIn K (.ref C) "__init__" = some (some (.ref i0)))
    (l : K.lookup i0 = some ⟨oc, od, .func (PySem.W.fnOf "__init__" "InvalidNumber.__init__" (K7X.nuA ⟨13, 17, 13, 21⟩ ⟨13, 23, 13, 28⟩) (K7X.nuB ⟨14, 8, 14, 12⟩ ⟨14, 8, 14, 18⟩ ⟨14, 21, 14, 26⟩ ⟨14, 8, 14, 26⟩) K7X.nuS .none .none doc pm an cdv ct), osl⟩)
    (u : PySem.W.codeIn K cdv "InvalidNumber.__init__" = true) (m : PySem.W.excInitIn K C K7X.ieB "IndexError.__new__" = true) (v : PySem.W.excOver K C K7X.ieB = true) (d : PySem.W.hasDictIn K C = true)
    (s : PySem.W.findIn K (.ref C) "__setattr__" = some (some (.builtin "object.__setattr__"))) (g : PySem.W.findIn K (.ref C) "__getattribute__" = some (some (.builtin "BaseException.__getattribute__")))
    (n : PySem.W.findIn K (.ref C) "__getattr__" = some none) (e : PySem.W.findIn K (.ref C) "given" = some none) (t : PySem.W.typeIn K (.ref i0) = some (.type "function")) : NumFacts K C i0 :=
  ⟨m, v, d, s, g, n, e, j, t, oc, od, doc, pm, an, cdv, ct, osl, _, _, _, _, _, _, l, u⟩
theorem all_mk {l : PySem.W.OpenLaw} {w : World} {K : PySem.W.Frag} {h : Heap} {mg : Str → Option Value} {fa CL CO CN i0 : Addr} (X : K.In h) (G : h.Ns mainGlobals mg) (hfa : mg "law" = some (.ref fa))
    {fWh fII fBe fCB fOn fIL fLo fCs fSc fFr fPa fCt fCo fSe fWF fDi fRo fPi fMe fRi fLw c1 P1 c2 P2 : Addr} {ocR kVR docR pmR ctR ocL kVL docL pmL ctL ocF kVF docF pmF cdF ctF : Value} {anR odR anL odL anF odF : Option Addr} {slR slL slF : Array (Option Value)}
    (aR : Cl K "InvalidLetters" CL) (mR : PySem.W.excIn K CL PySem.HandSPX.veTail "ValueError.__new__" = true) (aO : Cl K "InvalidOperation" CO) (mO : PySem.W.excIn K CO PySem.HandSPX.veTail "ValueError.__new__" = true)
    (aN : Cl K "InvalidNumber" CN) (nF : NumFacts K CN i0)
    (rr : PySem.W.subIn K (.ref CL) (.ref CL) = some true) (or : PySem.W.subIn K (.ref CO) (.ref CL) = some false) (oo : PySem.W.subIn K (.ref CO) (.ref CO) = some true)
    (nr : PySem.W.subIn K (.ref CN) (.ref CL) = some false) (no : PySem.W.subIn K (.ref CN) (.ref CO) = some false) (nn : PySem.W.subIn K (.ref CN) (.ref CN) = some true)
    (z_int : PySem.W.nsIn K mainGlobals "int" = some none)
    (z_bool : PySem.W.nsIn K mainGlobals "bool" = some none)
    (z_tuple : PySem.W.nsIn K mainGlobals "tuple" = some none)
    (z_list : PySem.W.nsIn K mainGlobals "list" = some none)
    (z_isinstance : PySem.W.nsIn K mainGlobals "isinstance" = some none)
    (z_len : PySem.W.nsIn K mainGlobals "len" = some none)
    (z_abs : PySem.W.nsIn K mainGlobals "abs" = some none)
    (z_max : PySem.W.nsIn K mainGlobals "max" = some none)
    (z_min : PySem.W.nsIn K mainGlobals "min" = some none)
    (z_range : PySem.W.nsIn K mainGlobals "range" = some none)
    (z_sum : PySem.W.nsIn K mainGlobals "sum" = some none)
    (z_all : PySem.W.nsIn K mainGlobals "all" = some none)
    (z_enumerate : PySem.W.nsIn K mainGlobals "enumerate" = some none)
    (z_repr : PySem.W.nsIn K mainGlobals "repr" = some none)
    (y_0 : ∃ t, mg "_LIMIT" = some (.int (10 ^ 60) t))
    (y_1 : ∃ t, mg "MAX_LETTERS" = some (.int (24) t))
    (y_2 : ∃ t, mg "MAX_LETTER" = some (.int (40) t))
    (y_3 : ∃ t, mg "MOST_LOOP" = some (.int (60) t))
    (y_4 : ∃ t, mg "MOST_UNITS" = some (.int (12) t))
    (y_5 : ∃ t, mg "_LEAST_DEGREE" = some (.int (2) t))
    (y_6 : ∃ t, mg "_MOST_COUNT" = some (.int (1000) t))
    (hWh : Has K "is_whole" sIsWhole fWh)
    (hII : Has K "is_integer" sIsInt fII)
    (hBe : Has K "is_between" sBetween fBe)
    (hCB : Has K "check_between" sChkB fCB)
    (hOn : Has K "one_series" sOne fOn)
    (hIL : Has K "is_letters" sIsLetters fIL)
    (hLo : Has K "loop_series" sLoop fLo)
    (hCs : Has K "counts_of_series" sCoS fCs)
    (hSc : Has K "series_of_counts" sSoC fSc)
    (hFr : Has K "free_counts" sFree fFr)
    (hPa : Has K "paired_counts" sPaired fPa)
    (hCt : Has K "_counts_to" sCtsTo fCt)
    (hCo : Has K "_counts_of" sCtsOf fCo)
    (hSe : Has K "_series_of" sSerOf fSe)
    (hWF : Has K "_with_factor" sWF fWF)
    (hDi : Has K "_law_dice" sDice fDi)
    (hRo : Has K "_law_roll" sRoll fRo)
    (hPi : Has K "_law_pick" sPick fPi)
    (aF : PySem.W.nsIn K mainGlobals "_law_met" = some (some (.ref fMe))) (lF : K.lookup fMe = some ⟨ocF, odF, .func (PySem.W.fnOf "_law_met" "_law_met" (defArgs sMet) (defBody sMet) (defScope sMet) .none kVF docF pmF anF cdF ctF), slF⟩) (cF : PySem.W.codeIn K cdF "_law_met" = true) (kF : PySem.W.keepIn K (.ref fMe) = true)
    (aI : PySem.W.nsIn K mainGlobals "_law_right" = some (some (.ref fRi))) (lI : K.lookup fRi = some ⟨ocR, odR, .func (PySem.W.fnOf "_law_right" "_law_right" (defArgs sRight) (defBody sRight) (defScope sRight) .none kVR docR pmR anR (.ref c1) ctR), slR⟩) (cI : PySem.W.codeIn K (.ref c1) "_law_right" = true) (kI : PySem.W.keepIn K (.ref fRi) = true)
    (tI : PySem.W.tabIn K "_law_right" = some (c1, P1)) (oI : K.lookup P1 = none)
    (aL : PySem.W.nsIn K mainGlobals "law" = some (some (.ref fLw))) (lL : K.lookup fLw = some ⟨ocL, odL, .func (PySem.W.fnOf "law" "law" (defArgs sLaw) (defBody sLaw) (defScope sLaw) .none kVL docL pmL anL (.ref c2) ctL), slL⟩) (cL : PySem.W.codeIn K (.ref c2) "law" = true)
    (tL : PySem.W.tabIn K "law" = some (c2, P2)) (oL : K.lookup P2 = none) (nP : P1 ≠ P2) :
    ∃ cs : List (Addr × Addr), (∀ p ∈ cs, ∃ y ∈ (["_law_right", "law"] : List Str), PySem.W.tabIn K y = some p) ∧ LawIs l w K 9 63 "script" mg fa cs := by
  have e := hfa.symm.trans (PySem.W.mg_of X G aL)
  cases e
  have NT : K7X.NumTxt K mg CN i0 := ⟨PySem.W.mg_of X G aN.at', nF.made, nF.over, nF.dict, nF.stores, nF.reads, nF.reads2, nF.noGiven, nF.inits, nF.isdef, aN.kp, aN.ex, aN.ty, exm_by aN.ex aN.is aN.ty nn, nF.text⟩
  have ER : ErrTxt K mg "InvalidLetters" CL := ⟨PySem.W.mg_of X G aR.at', mR, aR.kp, aR.ex, aR.ty⟩
  have EO : ErrTxt K mg "InvalidOperation" CO := ⟨PySem.W.mg_of X G aO.at', mO, aO.kp, aO.ex, aO.ty⟩
  have CS : Clss K mg CL CO CN := ⟨PySem.W.mg_of X G aR.at', PySem.W.mg_of X G aO.at', PySem.W.mg_of X G aN.at', exm_by aR.ex aR.is aR.ty rr, exm_by aR.ex aR.is aR.ty or, exm_by aO.ex aO.is aO.ty oo, exm_by aR.ex aR.is aR.ty nr, exm_by aO.ex aO.is aO.ty no, exm_by aN.ex aN.is aN.ty nn⟩
  have T : Txt K mg := ⟨PySem.W.mg_none_of X G z_int, PySem.W.mg_none_of X G z_bool, PySem.W.mg_none_of X G z_tuple, PySem.W.mg_none_of X G z_list, PySem.W.mg_none_of X G z_isinstance, PySem.W.mg_none_of X G z_len, PySem.W.mg_none_of X G z_abs, PySem.W.mg_none_of X G z_max, PySem.W.mg_none_of X G z_min, PySem.W.mg_none_of X G z_range, PySem.W.mg_none_of X G z_sum, PySem.W.mg_none_of X G z_all, PySem.W.mg_none_of X G z_enumerate, PySem.W.mg_none_of X G z_repr, y_0, y_1, y_2, y_3, y_4, y_5, y_6⟩
  obtain ⟨dWh, FWh⟩ := hWh.fn
  have gWh := PySem.W.mg_of X G hWh.at'
  have kWh := hWh.kp
  have bWh := FWh.binds (ps := ["value"]) fun _ _ _ _ _ _ us hl => match us, hl with | [_], _ => rfl
  obtain ⟨dII, FII⟩ := hII.fn
  have gII := PySem.W.mg_of X G hII.at'
  have kII := hII.kp
  have bII := FII.binds (ps := ["value"]) fun _ _ _ _ _ _ us hl => match us, hl with | [_], _ => rfl
  obtain ⟨dBe, FBe⟩ := hBe.fn
  have gBe := PySem.W.mg_of X G hBe.at'
  have kBe := hBe.kp
  have bBe := FBe.binds (ps := ["value", "least", "most"]) fun _ _ _ _ _ _ us hl => match us, hl with | [_, _, _], _ => rfl
  obtain ⟨dCB, FCB⟩ := hCB.fn
  have gCB := PySem.W.mg_of X G hCB.at'
  have kCB := hCB.kp
  have bCB := FCB.binds (ps := ["value", "least", "most"]) fun _ _ _ _ _ _ us hl => match us, hl with | [_, _, _], _ => rfl
  obtain ⟨dOn, FOn⟩ := hOn.fn
  have gOn := PySem.W.mg_of X G hOn.at'
  have kOn := hOn.kp
  have bOn := FOn.binds (ps := ["most"]) fun _ _ _ _ _ _ us hl => match us, hl with | [_], _ => rfl
  obtain ⟨dIL, FIL⟩ := hIL.fn
  have gIL := PySem.W.mg_of X G hIL.at'
  have kIL := hIL.kp
  have bIL := FIL.binds (ps := ["value"]) fun _ _ _ _ _ _ us hl => match us, hl with | [_], _ => rfl
  obtain ⟨dLo, FLo⟩ := hLo.fn
  have gLo := PySem.W.mg_of X G hLo.at'
  have kLo := hLo.kp
  have bLo := FLo.binds (ps := ["letters", "most"]) fun _ _ _ _ _ _ us hl => match us, hl with | [_, _], _ => rfl
  obtain ⟨dCs, FCs⟩ := hCs.fn
  have gCs := PySem.W.mg_of X G hCs.at'
  have kCs := hCs.kp
  have bCs := FCs.binds (ps := ["series"]) fun _ _ _ _ _ _ us hl => match us, hl with | [_], _ => rfl
  obtain ⟨dSc, FSc⟩ := hSc.fn
  have gSc := PySem.W.mg_of X G hSc.at'
  have kSc := hSc.kp
  have bSc := FSc.binds (ps := ["counts"]) fun _ _ _ _ _ _ us hl => match us, hl with | [_], _ => rfl
  obtain ⟨dFr, FFr⟩ := hFr.fn
  have gFr := PySem.W.mg_of X G hFr.at'
  have kFr := hFr.kp
  have bFr := FFr.binds (ps := ["degrees", "most"]) fun _ _ _ _ _ _ us hl => match us, hl with | [_, _], _ => rfl
  obtain ⟨dPa, FPa⟩ := hPa.fn
  have gPa := PySem.W.mg_of X G hPa.at'
  have kPa := hPa.kp
  have bPa := FPa.binds (ps := ["many", "degree", "most"]) fun _ _ _ _ _ _ us hl => match us, hl with | [_, _, _], _ => rfl
  obtain ⟨dCt, FCt⟩ := hCt.fn
  have gCt := PySem.W.mg_of X G hCt.at'
  have kCt := hCt.kp
  have bCt := FCt.binds (ps := ["parts", "most"]) fun _ _ _ _ _ _ us hl => match us, hl with | [_, _], _ => rfl
  obtain ⟨dCo, FCo⟩ := hCo.fn
  have gCo := PySem.W.mg_of X G hCo.at'
  have kCo := hCo.kp
  have bCo := FCo.binds (ps := ["series"]) fun _ _ _ _ _ _ us hl => match us, hl with | [_], _ => rfl
  obtain ⟨dSe, FSe⟩ := hSe.fn
  have gSe := PySem.W.mg_of X G hSe.at'
  have kSe := hSe.kp
  have bSe := FSe.binds (ps := ["counts", "most"]) fun _ _ _ _ _ _ us hl => match us, hl with | [_, _], _ => rfl
  obtain ⟨dWF, FWF⟩ := hWF.fn
  have gWF := PySem.W.mg_of X G hWF.at'
  have kWF := hWF.kp
  have bWF := FWF.binds (ps := ["series", "size", "count"]) fun _ _ _ _ _ _ us hl => match us, hl with | [_, _, _], _ => rfl
  obtain ⟨dDi, FDi⟩ := hDi.fn
  have gDi := PySem.W.mg_of X G hDi.at'
  have kDi := hDi.kp
  have bDi := FDi.binds (ps := ["script", "spot"]) fun _ _ _ _ _ _ us hl => match us, hl with | [_, _], _ => rfl
  obtain ⟨dRo, FRo⟩ := hRo.fn
  have gRo := PySem.W.mg_of X G hRo.at'
  have kRo := hRo.kp
  have bRo := FRo.binds (ps := ["dice", "total"]) fun _ _ _ _ _ _ us hl => match us, hl with | [_, _], _ => rfl
  obtain ⟨dPi, FPi⟩ := hPi.fn
  have gPi := PySem.W.mg_of X G hPi.at'
  have kPi := hPi.kp
  have bPi := FPi.binds (ps := ["dice", "items"]) fun _ _ _ _ _ _ us hl => match us, hl with | [_, _], _ => rfl
  refine ⟨[(c1, P1), (c2, P2)], fun p hp => ?_, PySem.W.fnOf "law" "law" (defArgs sLaw) (defBody sLaw) (defScope sLaw) .none kVL docL pmL anL (.ref c2) ctL, spLaw K [(P1, qR), (P2, qW)], fun p hp => ?_, fun s u => .of_eq rfl, fun H a ns hH hS => ⟨a, ns, rfl, hS, fun p hp => ?_, fun _ => rfl⟩, fun base _ _ TB => ?_⟩
  · rcases List.mem_cons.mp hp with e | e
    · exact ⟨_, List.mem_cons_self, by rw [e]; exact tI⟩
    · exact ⟨_, List.mem_cons_of_mem _ List.mem_cons_self, by rw [List.mem_singleton.mp e]; exact tL⟩
  · rcases List.mem_cons.mp hp with e | e
    · rw [e]; exact oI
    · rw [List.mem_singleton.mp e]; exact oL
  · rcases List.mem_cons.mp hp with e | e
    · rw [e]; exact TabS.nil (hH _ List.mem_cons_self)
    · rw [List.mem_singleton.mp e]; exact TabS.nil (hH _ (List.mem_cons_of_mem _ List.mem_cons_self))
  have qWh := ok_iswhole (P := l.prog) (w := w) (base := base) FWh T 
  have qII := ok_isint FII T gWh kWh bWh qWh
  have qBe := ok_betw FBe gII kII bII qII
  have qCB := ok_chkbE FCB NT gBe kBe bBe qBe
  have qIL := ok_isletters FIL T gBe kBe bBe qBe
  have qOn := ok_one (P := l.prog) (w := w) (base := base) (mg := mg) FOn 
  have qWF := ok_wf (P := l.prog) (w := w) (base := base) FWF T 
  have qCo := ok_co FCo T gWF kWF bWF qWF
  have qSeL := ok_serL FSe T gWF kWF bWF qWF gOn kOn bOn qOn
  have qSeT := ok_serT FSe T gWF kWF bWF qWF gOn kOn bOn qOn
  have qCt := ok_cts FCt T gCo kCo bCo qCo gOn kOn bOn qOn
  have qLo := ok_loop FLo T ER gIL kIL bIL qIL gCB kCB bCB qCB gSe kSe bSe qSeL
  have qCs := ok_cos FCs T EO gII kII bII qII gCo kCo bCo qCo
  have qSc := ok_soc FSc T EO gBe kBe bBe qBe gSe kSe bSe qSeT
  have qFr := ok_free FFr T EO gBe kBe bBe qBe gCB kCB bCB qCB gCt kCt bCt qCt
  have qPa := ok_paired FPa T EO gCB kCB bCB qCB gCt kCt bCt qCt
  have qRo := ok_roll (P := l.prog) (w := w) (base := base) FRo T 
  have qDi := ok_dice (P := l.prog) (w := w) (base := base) FDi T 
  have qPi := ok_pick FPi T gRo kRo bRo qRo
  have D : Defs l.prog w K mg base CL CO CN i0 :=
    { txt := T, num := NT, cls := CS, roll := ⟨_, _, gRo, kRo, bRo, qRo⟩, pick := ⟨_, _, gPi, kPi, bPi, qPi⟩, loop := ⟨_, _, gLo, kLo, bLo, qLo⟩, cos := ⟨_, _, gCs, kCs, bCs, qCs⟩, soc := ⟨_, _, gSc, kSc, bSc, qSc⟩, free := ⟨_, _, gFr, kFr, bFr, qFr⟩, paired := ⟨_, _, gPa, kPa, bPa, qPa⟩,
      met := ⟨_, _, _, _, _, _, _, _, _, _, PySem.W.mg_of X G aF, kF, lF, cF⟩ }
  have bI : L2.Binds K (PySem.W.fnOf "_law_right" "_law_right" (defArgs sRight) (defBody sRight) (defScope sRight) .none kVR docR pmR anR (.ref c1) ctR) ["dice"] [] := .all fun us hl => match us, hl with | [_], _ => rfl
  have u1 : ∀ p ∈ ([(P1, qR), (P2, qW)] : List (Addr × Str)), p.1 = P1 → p.2 = qR := fun p hp e => by
    rcases List.mem_cons.mp hp with z | z
    · rw [z]
    · rw [List.mem_singleton.mp z] at e
      exact absurd e.symm nP
  have u2 : ∀ p ∈ ([(P1, qR), (P2, qW)] : List (Addr × Str)), p.1 = P2 → p.2 = qW := fun p hp e => by
    rcases List.mem_cons.mp hp with z | z
    · rw [z] at e
      exact absurd e nP
    · rw [List.mem_singleton.mp z]
  exact ok_law (List.mem_cons_of_mem _ List.mem_cons_self) u2 lL cL (TB _ (List.mem_cons_of_mem _ List.mem_cons_self)) D (PySem.W.mg_of X G aI) kI bI (ok_right List.mem_cons_self u1 lI cI (TB _ List.mem_cons_self) D) gDi kDi bDi qDi
end K7
open PySem PySem.W PyProof.Rows
set_option maxRecDepth 100000 in
set_option maxHeartbeats 0 in
theorem PySem.Challenge.cw_stepletters_k57_errors_of_loops_holds : PySem.Challenge.rw_stepletters_k57_errors_of_loops.Holds := by
  w_on; o_law; k_head; (case hw => w_witness2)
  k_fill
  refine K7.walk_tabs (l := PySem.Challenge.rw_stepletters_k57_errors_of_loops) (n := 63) (k := 9) (x := "script") (xs := ["_law_right", "law"]) rfl (by decide) rfl ⟨rfl, by decide, by decide⟩ (fun w h Y => PySem.W.km_in_of Y) (by rfl) ?F
  case F =>
    intro w mg fa h KX G hmg
    refine' K7.all_mk (P1 := 194) (P2 := 199) KX G hmg ?aR ?mR ?aO ?mO ?aN ?nF ?rr ?or ?oo ?nr ?no ?nn ?z_int ?z_bool ?z_tuple ?z_list ?z_isinstance ?z_len ?z_abs ?z_max ?z_min ?z_range ?z_sum ?z_all ?z_enumerate ?z_repr ?y_0 ?y_1 ?y_2 ?y_3 ?y_4 ?y_5 ?y_6 ?hWh ?hII ?hBe ?hCB ?hOn ?hIL ?hLo ?hCs ?hSc ?hFr ?hPa ?hCt ?hCo ?hSe ?hWF ?hDi ?hRo ?hPi ?aF ?lF ?cF ?kF ?aI ?lI ?cI ?kI ?tI ?oI ?aL ?lL ?cL ?tL ?oL ?nP
    (case aR => refine' K7.cl_of ?a ?k ?e ?t ?i; (case a => k_is); (case k => k_is); (case e => k_is); (case t => k_is); (case i => k_is))
    (case aO => refine' K7.cl_of ?a ?k ?e ?t ?i; (case a => k_is); (case k => k_is); (case e => k_is); (case t => k_is); (case i => k_is))
    (case aN => refine' K7.cl_of ?a ?k ?e ?t ?i; (case a => k_is); (case k => k_is); (case e => k_is); (case t => k_is); (case i => k_is))
    (case nF => refine' K7.num_of ?j ?l ?u ?m ?v ?d ?s ?g ?n ?e ?t; (case j => k_is); (case l => k_is); (case u => k_is); (case m => kernel_rfl); (case v => kernel_rfl); (case d => k_is); (case s => k_is); (case g => k_is); (case n => k_is); (case e => k_is); (case t => k_is))
    (case mR => kernel_rfl)
    (case mO => kernel_rfl)
    (case rr => first | rfl | k_is)
    (case or => first | rfl | k_is)
    (case oo => first | rfl | k_is)
    (case nr => first | rfl | k_is)
    (case no => first | rfl | k_is)
    (case nn => first | rfl | k_is)
    (case z_int => k_is)
    (case z_bool => k_is)
    (case z_tuple => k_is)
    (case z_list => k_is)
    (case z_isinstance => k_is)
    (case z_len => k_is)
    (case z_abs => k_is)
    (case z_max => k_is)
    (case z_min => k_is)
    (case z_range => k_is)
    (case z_sum => k_is)
    (case z_all => k_is)
    (case z_enumerate => k_is)
    (case z_repr => k_is)
    (case y_0 => exact ⟨_, PySem.W.mg_of KX G (by k_is)⟩)
    (case y_1 => exact ⟨_, PySem.W.mg_of KX G (by k_is)⟩)
    (case y_2 => exact ⟨_, PySem.W.mg_of KX G (by k_is)⟩)
    (case y_3 => exact ⟨_, PySem.W.mg_of KX G (by k_is)⟩)
    (case y_4 => exact ⟨_, PySem.W.mg_of KX G (by k_is)⟩)
    (case y_5 => exact ⟨_, PySem.W.mg_of KX G (by k_is)⟩)
    (case y_6 => exact ⟨_, PySem.W.mg_of KX G (by k_is)⟩)
    (case hWh => refine' K7.has_of ?a ?l ?c ?k; (case a => k_is); (case l => k_is); (case c => k_is); (case k => k_is))
    (case hII => refine' K7.has_of ?a ?l ?c ?k; (case a => k_is); (case l => k_is); (case c => k_is); (case k => k_is))
    (case hBe => refine' K7.has_of ?a ?l ?c ?k; (case a => k_is); (case l => k_is); (case c => k_is); (case k => k_is))
    (case hCB => refine' K7.has_of ?a ?l ?c ?k; (case a => k_is); (case l => k_is); (case c => k_is); (case k => k_is))
    (case hOn => refine' K7.has_of ?a ?l ?c ?k; (case a => k_is); (case l => k_is); (case c => k_is); (case k => k_is))
    (case hIL => refine' K7.has_of ?a ?l ?c ?k; (case a => k_is); (case l => k_is); (case c => k_is); (case k => k_is))
    (case hLo => refine' K7.has_of ?a ?l ?c ?k; (case a => k_is); (case l => k_is); (case c => k_is); (case k => k_is))
    (case hCs => refine' K7.has_of ?a ?l ?c ?k; (case a => k_is); (case l => k_is); (case c => k_is); (case k => k_is))
    (case hSc => refine' K7.has_of ?a ?l ?c ?k; (case a => k_is); (case l => k_is); (case c => k_is); (case k => k_is))
    (case hFr => refine' K7.has_of ?a ?l ?c ?k; (case a => k_is); (case l => k_is); (case c => k_is); (case k => k_is))
    (case hPa => refine' K7.has_of ?a ?l ?c ?k; (case a => k_is); (case l => k_is); (case c => k_is); (case k => k_is))
    (case hCt => refine' K7.has_of ?a ?l ?c ?k; (case a => k_is); (case l => k_is); (case c => k_is); (case k => k_is))
    (case hCo => refine' K7.has_of ?a ?l ?c ?k; (case a => k_is); (case l => k_is); (case c => k_is); (case k => k_is))
    (case hSe => refine' K7.has_of ?a ?l ?c ?k; (case a => k_is); (case l => k_is); (case c => k_is); (case k => k_is))
    (case hWF => refine' K7.has_of ?a ?l ?c ?k; (case a => k_is); (case l => k_is); (case c => k_is); (case k => k_is))
    (case hDi => refine' K7.has_of ?a ?l ?c ?k; (case a => k_is); (case l => k_is); (case c => k_is); (case k => k_is))
    (case hRo => refine' K7.has_of ?a ?l ?c ?k; (case a => k_is); (case l => k_is); (case c => k_is); (case k => k_is))
    (case hPi => refine' K7.has_of ?a ?l ?c ?k; (case a => k_is); (case l => k_is); (case c => k_is); (case k => k_is))
    (case aF => k_is)
    (case lF => k_is)
    (case cF => k_is)
    (case kF => k_is)
    (case aI => k_is)
    (case lI => k_is)
    (case cI => k_is)
    (case kI => k_is)
    (case tI => kernel_rfl)
    (case oI => kernel_rfl)
    (case aL => k_is)
    (case lL => k_is)
    (case cL => k_is)
    (case tL => kernel_rfl)
    (case oL => kernel_rfl)
    (case nP => decide)
