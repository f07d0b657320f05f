import PyProof.Rows.All
import Wide.All
import OpenK.AllK
import Wide.FinOn
import PyProof.EqAt
import PyProof.EqKinds
import PyProof.TupleCall
import HandS.ForMost
import HandS.ForExc
import HandS.Wide
import HandS.Gcd
import HandS.FStr
import HandS.IsInst
import HandS.Lambda
import HandS.EndTab
import HandS.CallLocal
import HandS.CallSlots
import HandS.RaiseMore
import PySem.Challenge.RW_stepletters_k55_whole_loop_series_and_co
import HandS.Zip
import HandS.NoneIn
import HandS.TupAny
import HandS.TupMul
import HandS.Walk
import HandS.Rev
import HandS.Style
import HandS.Steps
import HandS.SetFor
import HandS.TupLe
import KE.GoesMore
import KE.KTupSum
import HandS.Deep
import HandS.Conv
import HandS.RevRange
import HandS.GenBody
import HandS.GenYield
import HandS.GenCall
import HandS.GenList
import KE.KExcInit
import HandS.WordsExc
set_option Elab.async false
set_option linter.all false
set_option maxRecDepth 100000
set_option maxHeartbeats 4000000
set_option exponentiation.threshold 5000
namespace K8
/-! ### series: mathematics -/
def sg (size : Nat) : Int := if size % 2 = 1 then 1 else -1
def ex (size : Nat) (c : Int) : Int := if size % 2 = 1 then c else -c
/-- the numbers of the powers of a factor -/
def bn (s e : Int) : Nat → Int
  | 0 => 1
  | m + 1 => s * bn s e m * (e - ((m + 1 : Nat) : Int) + 1) / ((m + 1 : Nat) : Int)
/-- c times the series, pushed by off, added to found: up to the place n -/
def addUp (found series : List Int) (off : Nat) (c : Int) (n : Nat) : List Int :=
  (List.range found.length).map fun i => if off ≤ i ∧ i < n then found.getD i 0 + c * series.getD (i - off) 0 else found.getD i 0
theorem addUp_len (f s : List Int) (off : Nat) (c : Int) (n : Nat) : (addUp f s off c n).length = f.length := by
  unfold addUp
  rw [List.length_map, List.length_range]
theorem addUp_get (f s : List Int) (off : Nat) (c : Int) (n i : Nat) (h : i < f.length) : (addUp f s off c n)[i]? = some (if off ≤ i ∧ i < n then f.getD i 0 + c * s.getD (i - off) 0 else f.getD i 0) := by
  unfold addUp
  rw [List.getElem?_map, List.getElem?_range h]
  rfl
theorem addUp_start (f s : List Int) (off : Nat) (c : Int) (n : Nat) (h : n ≤ off) : addUp f s off c n = f := by
  refine List.ext_getElem? fun i => ?_
  by_cases hi : i < f.length
  · rw [addUp_get _ _ _ _ _ _ hi, if_neg (by omega), List.getElem?_eq_getElem hi, List.getD_eq_getElem?_getD, List.getElem?_eq_getElem hi]
    rfl
  · rw [List.getElem?_eq_none (by rw [addUp_len]; omega), List.getElem?_eq_none (by omega)]
theorem addUp_step (f s : List Int) (off : Nat) (c : Int) (n : Nat) (h : off ≤ n) (hn : n < f.length) : (addUp f s off c n).set n (f.getD n 0 + c * s.getD (n - off) 0) = addUp f s off c (n + 1) := by
  refine List.ext_getElem? fun i => ?_
  by_cases hi : i < f.length
  · rw [addUp_get _ _ _ _ _ _ hi, List.getElem?_set]
    by_cases e : n = i
    · subst e
      rw [if_pos rfl, if_pos (by rw [addUp_len]; exact hn), if_pos (by omega)]
    · rw [if_neg e, addUp_get _ _ _ _ _ _ hi]
      by_cases q : off ≤ i ∧ i < n
      · rw [if_pos q, if_pos (by omega)]
      · rw [if_neg q, if_neg (by omega)]
  · rw [List.getElem?_eq_none (by rw [List.length_set, addUp_len]; omega), List.getElem?_eq_none (by rw [addUp_len]; omega)]
/-- before the step at n, the place n holds what found had -/
theorem addUp_at (f s : List Int) (off : Nat) (c : Int) (n : Nat) (hn : n < f.length) : (addUp f s off c n)[n]? = some (f.getD n 0) := by
  rw [addUp_get _ _ _ _ _ _ hn, if_neg (by omega)]
def wfAt (series : List Int) (size : Nat) (s e : Int) : Nat → List Int
  | 0 => series
  | m + 1 => addUp (wfAt series size s e m) series ((m + 1) * size) (bn s e (m + 1)) series.length
theorem wfAt_len (series : List Int) (size : Nat) (s e : Int) : ∀ m, (wfAt series size s e m).length = series.length
  | 0 => rfl
  | m + 1 => by rw [wfAt, addUp_len, wfAt_len series size s e m]
def wf (series : List Int) (size : Nat) (c : Int) : List Int := wfAt series size (sg size) (ex size c) ((series.length - 1) / size)
theorem wf_len (series : List Int) (size : Nat) (c : Int) : (wf series size c).length = series.length := wfAt_len ..
def mulOk (i j : Int) : Bool := decide (i.natAbs.log2 + j.natAbs.log2 < 1000000)
/-- all products on the way stay small enough -/
def wfOk (series : List Int) (size : Nat) (c : Int) : Bool :=
  (List.range ((series.length - 1) / size)).all fun m => mulOk (sg size * bn (sg size) (ex size c) m) (ex size c - ((m + 1 : Nat) : Int) + 1) && series.all fun x => mulOk (bn (sg size) (ex size c) (m + 1)) x
theorem wfOk_num {series : List Int} {size : Nat} {c : Int} (h : wfOk series size c = true) {m : Nat} (hm : m < (series.length - 1) / size) : (sg size * bn (sg size) (ex size c) m).natAbs.log2 + (ex size c - ((m + 1 : Nat) : Int) + 1).natAbs.log2 < 1000000 := by
  have q := List.all_eq_true.mp h m (List.mem_range.mpr hm)
  rw [Bool.and_eq_true] at q
  exact of_decide_eq_true q.1
theorem wfOk_at {series : List Int} {size : Nat} {c : Int} (h : wfOk series size c = true) {m : Nat} (hm : m < (series.length - 1) / size) {x : Int} (hx : x ∈ series) : (bn (sg size) (ex size c) (m + 1)).natAbs.log2 + x.natAbs.log2 < 1000000 := by
  have q := List.all_eq_true.mp h m (List.mem_range.mpr hm)
  rw [Bool.and_eq_true] at q
  exact of_decide_eq_true (List.all_eq_true.mp q.2 x hx)
/-- the counts of a series: what is left, behind k steps -/
def coRest (series : List Int) : Nat → List Int
  | 0 => series
  | k + 1 => wf (coRest series k) (k + 1) (-((coRest series k).getD (k + 1) 0))
theorem coRest_len (series : List Int) : ∀ k, (coRest series k).length = series.length
  | 0 => rfl
  | k + 1 => by rw [coRest, wf_len, coRest_len series k]
def coAt (series : List Int) (k : Nat) : Int := (coRest series k).getD (k + 1) 0
def countsOf (series : List Int) : List Int := (List.range (series.length - 1)).map (coAt series)
def coOk : Nat → Nat → List Int → Bool
  | 0, _, _ => true
  | f + 1, k, r => wfOk r (k + 1) (-(r.getD (k + 1) 0)) && coOk f (k + 1) (wf r (k + 1) (-(r.getD (k + 1) 0)))
theorem coOk_at (series : List Int) : ∀ (f k : Nat), coOk f k (coRest series k) = true → ∀ j, k ≤ j → j < k + f → wfOk (coRest series j) (j + 1) (-(coAt series j)) = true
  | 0, _, _, _, h1, h2 => by omega
  | f + 1, k, h, j, h1, h2 => by
    rw [coOk, Bool.and_eq_true] at h
    by_cases e : k = j
    · subst e
      exact h.1
    · exact coOk_at series f (k + 1) h.2 j (by omega) (by omega)
def countsOk (series : List Int) : Bool := coOk (series.length - 1) 0 series
theorem countsOk_at {series : List Int} (h : countsOk series = true) {j : Nat} (hj : j < series.length - 1) : wfOk (coRest series j) (j + 1) (-(coAt series j)) = true := coOk_at series _ 0 h j (Nat.zero_le _) (by omega)
def one (most : Nat) : List Int := 1 :: List.replicate most 0
def serAt (counts : List Int) (most : Nat) : Nat → List Int
  | 0 => one most
  | k + 1 => wf (serAt counts most k) (k + 1) (counts.getD k 0)
theorem one_len (most : Nat) : (one most).length = most + 1 := by simp [one]
theorem serAt_len (counts : List Int) (most : Nat) : ∀ k, (serAt counts most k).length = most + 1
  | 0 => one_len most
  | k + 1 => by rw [serAt, wf_len, serAt_len counts most k]
def seriesOf (counts : List Int) (most : Nat) : List Int := serAt counts most counts.length
def seOk : List Int → Nat → List Int → Bool
  | [], _, _ => true
  | c :: cs, k, r => wfOk r (k + 1) c && seOk cs (k + 1) (wf r (k + 1) c)
theorem seOk_at (counts : List Int) (most : Nat) : ∀ (cs : List Int) (k : Nat), counts.drop k = cs → seOk cs k (serAt counts most k) = true → ∀ j, k ≤ j → j < counts.length → wfOk (serAt counts most j) (j + 1) (counts.getD j 0) = true
  | [], k, e, _, j, h1, h2 => by
    have q : counts.length ≤ k := List.drop_eq_nil_iff.mp e
    omega
  | c :: cs, k, e, h, j, h1, h2 => by
    have q : counts[k]? = some c := by
      have z : (counts.drop k)[0]? = some c := by rw [e]; rfl
      rw [List.getElem?_drop] at z
      exact z
    have g : counts.getD k 0 = c := by rw [List.getD_eq_getElem?_getD, q]; rfl
    rw [seOk, Bool.and_eq_true] at h
    by_cases ej : k = j
    · subst ej
      rw [g]
      exact h.1
    · refine seOk_at counts most cs (k + 1) ?_ ?_ j (by omega) h2
      · rw [← List.drop_drop, e]
        rfl
      · rw [serAt, g]
        exact h.2
def seriesOk (counts : List Int) (most : Nat) : Bool := seOk counts 0 (one most)
theorem seriesOk_at {counts : List Int} {most : Nat} (h : seriesOk counts most = true) {j : Nat} (hj : j < counts.length) : wfOk (serAt counts most j) (j + 1) (counts.getD j 0) = true := seOk_at counts most counts 0 rfl h j (Nat.zero_le _) hj
/-- the series 1 / (1 - s) -/
def ctRow (parts : List (Int × Int)) (series : List Int) (n : Nat) : List Int :=
  (parts.filter fun p => decide (p.1 ≤ (n : Int))).map fun p => p.2 * series.getD ((n : Int) - p.1).toNat 0
def ctAt (parts : List (Int × Int)) (most : Nat) : Nat → List Int
  | 0 => one most
  | k + 1 => (ctAt parts most k).set (k + 1) (ctRow parts (ctAt parts most k) (k + 1)).sum
theorem ctAt_len (parts : List (Int × Int)) (most : Nat) : ∀ k, (ctAt parts most k).length = most + 1
  | 0 => one_len most
  | k + 1 => by rw [ctAt, List.length_set, ctAt_len parts most k]
def ctsTo (parts : List (Int × Int)) (most : Nat) : List Int := countsOf (ctAt parts (most - 1) (most - 1))
end K8
namespace K8
/-! ### sums -/
def sm : Nat → (Nat → Int) → Int
  | 0, _ => 0
  | n + 1, F => sm n F + F n
theorem sm_congr {F G : Nat → Int} : ∀ {n : Nat}, (∀ i, i < n → F i = G i) → sm n F = sm n G
  | 0, _ => rfl
  | n + 1, h => by rw [sm, sm, sm_congr fun i hi => h i (by omega), h n (by omega)]
theorem sm_zero : ∀ n : Nat, sm n (fun _ => 0) = 0
  | 0 => rfl
  | n + 1 => by rw [sm, sm_zero n]; rfl
theorem sm_add (F G : Nat → Int) : ∀ n : Nat, sm n (fun i => F i + G i) = sm n F + sm n G
  | 0 => rfl
  | n + 1 => by rw [sm, sm, sm, sm_add F G n]; omega
theorem sm_mul (c : Int) (F : Nat → Int) : ∀ n : Nat, sm n (fun i => c * F i) = c * sm n F
  | 0 => (Int.mul_zero c).symm
  | n + 1 => by rw [sm, sm, sm_mul c F n, Int.mul_add]
theorem sm_left (F : Nat → Int) : ∀ n : Nat, sm (n + 1) F = F 0 + sm n fun i => F (i + 1)
  | 0 => by simp [sm]
  | n + 1 => by
    rw [sm, sm_left F n, sm]
    omega
theorem sm_rev (F : Nat → Int) : ∀ n : Nat, sm (n + 1) (fun i => F (n - i)) = sm (n + 1) F
  | 0 => rfl
  | n + 1 => by
    rw [sm_left]
    have e : sm (n + 1) (fun i => F (n + 1 - (i + 1))) = sm (n + 1) fun i => F (n - i) := sm_congr fun i _ => by rw [Nat.add_sub_add_right]
    rw [e, sm_rev F n, sm, Nat.sub_zero]
    show F (n + 1) + (sm n F + F n) = sm n F + F n + F (n + 1)
    omega
theorem sm_more {F : Nat → Int} {n : Nat} : ∀ m : Nat, (∀ i, n ≤ i → i < n + m → F i = 0) → sm (n + m) F = sm n F
  | 0, _ => rfl
  | m + 1, h => by
    rw [← Nat.add_assoc, sm, sm_more m (fun i h1 h2 => h i h1 (by omega)), h (n + m) (by omega) (by omega), Int.add_zero]
theorem sm_tri (h : Nat → Nat → Int) : ∀ k : Nat, sm (k + 1) (fun i => sm (k + 1 - i) fun j => h i j) = sm (k + 1) fun j => sm (k + 1 - j) fun i => h i j
  | 0 => rfl
  | k + 1 => by
    have step : ∀ g : Nat → Nat → Int, sm (k + 2) (fun i => sm (k + 2 - i) fun j => g i j) = sm (k + 1) (fun i => sm (k + 1 - i) fun j => g i j) + sm (k + 2) fun i => g i (k + 1 - i) := fun g => by
      show sm (k + 1) (fun i => sm (k + 2 - i) fun j => g i j) + sm (k + 2 - (k + 1)) (fun j => g (k + 1) j) = _ + (sm (k + 1) (fun i => g i (k + 1 - i)) + g (k + 1) (k + 1 - (k + 1)))
      have e1 : sm (k + 1) (fun i => sm (k + 2 - i) fun j => g i j) = sm (k + 1) (fun i => (sm (k + 1 - i) fun j => g i j) + g i (k + 1 - i)) := sm_congr fun i hi => by
        rw [show k + 2 - i = (k + 1 - i) + 1 by omega, sm]
      have e2 : sm (k + 2 - (k + 1)) (fun j => g (k + 1) j) = g (k + 1) (k + 1 - (k + 1)) := by
        rw [show k + 2 - (k + 1) = 0 + 1 by omega, sm, sm, Int.zero_add, show k + 1 - (k + 1) = 0 by omega]
      rw [e1, sm_add, e2]
      omega
    have s1 := step h
    have s2 := step fun j i => h i j
    have d := sm_rev (fun i => h i (k + 1 - i)) (k + 1)
    have d' : sm (k + 2) (fun j => h (k + 1 - j) j) = sm (k + 2) fun i => h i (k + 1 - i) := by
      rw [← d]
      exact sm_congr fun i hi => by rw [show k + 1 - (k + 1 - i) = i by omega]
    have ih := sm_tri h k
    show sm (k + 2) (fun i => sm (k + 2 - i) fun j => h i j) = sm (k + 2) fun j => sm (k + 2 - j) fun i => h i j
    rw [s1, s2, ih, d']
/-! ### series as functions -/
abbrev Sr := Nat → Int
def cv (f S : Sr) : Sr := fun k => sm (k + 1) fun j => f j * S (k - j)
theorem cv_comm2 (f g S : Sr) : cv g (cv f S) = cv f (cv g S) := by
  funext k
  have e : ∀ a b : Sr, cv a (cv b S) k = sm (k + 1) fun i => sm (k + 1 - i) fun j => a i * (b j * S (k - i - j)) := fun a b => sm_congr fun i hi => by
    show a i * sm (k - i + 1) (fun j => b j * S (k - i - j)) = _
    rw [← sm_mul, show k - i + 1 = k + 1 - i by omega]
  rw [e, e, sm_tri]
  refine sm_congr fun j hj => sm_congr fun i hi => ?_
  rw [show k - i - j = k - j - i by omega]
  grind
/-- the multiples of steps of p -/
def op (b : Sr) (p : Nat) (S : Sr) : Sr := fun k => sm (k / p + 1) fun m => b m * S (k - m * p)
def sp (b : Sr) (p : Nat) : Sr := fun j => if j % p = 0 then b (j / p) else 0
theorem sm_sparse {p : Nat} (hp : 0 < p) (F : Nat → Int) : ∀ n : Nat, sm n (fun j => if j % p = 0 then F j else 0) = sm ((n + p - 1) / p) fun m => F (m * p)
  | 0 => by
    rw [show (0 + p - 1) / p = 0 from Nat.div_eq_of_lt (by omega)]
    rfl
  | n + 1 => by
    rw [sm, sm_sparse hp F n]
    have q := Nat.div_add_mod n p
    have r := Nat.mod_lt n hp
    by_cases c : n % p = 0
    · rw [if_pos c]
      have e1 : (n + p - 1) / p = n / p := Nat.div_eq_of_lt_le (by rw [Nat.mul_comm]; omega) (by rw [Nat.add_mul, Nat.mul_comm, Nat.one_mul]; omega)
      have e2 : (n + 1 + p - 1) / p = n / p + 1 := Nat.div_eq_of_lt_le (by rw [Nat.add_mul, Nat.mul_comm, Nat.one_mul]; omega) (by rw [Nat.add_mul, Nat.add_mul, Nat.mul_comm, Nat.one_mul]; omega)
      rw [e1, e2, sm, show n / p * p = n by rw [Nat.mul_comm]; omega]
    · rw [if_neg c, Int.add_zero]
      have e1 : (n + p - 1) / p = n / p + 1 := Nat.div_eq_of_lt_le (by rw [Nat.add_mul, Nat.mul_comm, Nat.one_mul]; omega) (by rw [Nat.add_mul, Nat.add_mul, Nat.mul_comm, Nat.one_mul]; omega)
      have e2 : (n + 1 + p - 1) / p = n / p + 1 := Nat.div_eq_of_lt_le (by rw [Nat.add_mul, Nat.mul_comm, Nat.one_mul]; omega) (by rw [Nat.add_mul, Nat.add_mul, Nat.mul_comm, Nat.one_mul]; omega)
      rw [e1, e2]
theorem op_cv {p : Nat} (hp : 0 < p) (b S : Sr) : cv (sp b p) S = op b p S := by
  funext k
  have e : cv (sp b p) S k = sm (k + 1) fun j => if j % p = 0 then b (j / p) * S (k - j) else 0 := sm_congr fun j _ => by
    show (if j % p = 0 then b (j / p) else 0) * S (k - j) = _
    split
    · rfl
    · exact Int.zero_mul _
  rw [e, sm_sparse hp, show (k + 1 + p - 1) / p = k / p + 1 by rw [show k + 1 + p - 1 = k + p by omega, Nat.add_div_right _ hp]]
  exact sm_congr fun m _ => by rw [Nat.mul_div_cancel _ hp]
theorem op_comm {p q : Nat} (hp : 0 < p) (hq : 0 < q) (b c S : Sr) : op b p (op c q S) = op c q (op b p S) := by
  rw [← op_cv hp, ← op_cv hq, ← op_cv hp, ← op_cv hq, cv_comm2]
/-! ### binomials -/
def Good (e : Int) (c : Nat → Int) : Prop := c 0 = 1 ∧ ∀ m : Nat, ((m + 1 : Nat) : Int) * c (m + 1) = c m * (e - m)
def up (c : Nat → Int) : Nat → Int
  | 0 => 1
  | m + 1 => c (m + 1) + c m
def down (d : Nat → Int) : Nat → Int
  | 0 => 1
  | m + 1 => d (m + 1) - down d m
theorem up_mul {e : Int} {c : Nat → Int} (h : Good e c) : ∀ m : Nat, up c m * (e + 1 - m) = c m * (e + 1)
  | 0 => by rw [up, h.1]; grind
  | m + 1 => by
    have a := h.2 m
    rw [up]
    push_cast at a ⊢
    grind
theorem good_up {e : Int} {c : Nat → Int} (h : Good e c) : Good (e + 1) (up c) := by
  refine ⟨rfl, fun m => ?_⟩
  have a := h.2 m
  have b := up_mul h m
  rw [up]
  push_cast at a ⊢
  grind
theorem good_down {e : Int} {d : Nat → Int} (h : Good (e + 1) d) : Good e (down d) := by
  refine ⟨rfl, fun m => ?_⟩
  induction m with
  | zero =>
    have a := h.2 0
    rw [h.1] at a
    show ((0 + 1 : Nat) : Int) * (d (0 + 1) - 1) = 1 * (e - ((0 : Nat) : Int))
    push_cast at a ⊢
    grind
  | succ m ih =>
    have a := h.2 (m + 1)
    rw [down, down]
    rw [down] at ih
    push_cast at a ih ⊢
    grind
theorem good_all (e : Int) : ∃ c, Good e c := by
  have p : ∀ n : Nat, ∃ c, Good (n : Int) c := fun n => by
    induction n with
    | zero =>
      refine ⟨fun m => if m = 0 then 1 else 0, rfl, fun m => ?_⟩
      by_cases h : m = 0
      · subst h
        simp
      · simp [h]
    | succ n ih =>
      obtain ⟨c, hc⟩ := ih
      exact ⟨up c, by have := good_up hc; push_cast; exact this⟩
  have q : ∀ n : Nat, ∃ c, Good (-(n : Int)) c := fun n => by
    induction n with
    | zero => exact p 0
    | succ n ih =>
      obtain ⟨c, hc⟩ := ih
      refine ⟨down c, good_down ?_⟩
      rw [show -((n + 1 : Nat) : Int) + 1 = -(n : Int) by omega]
      exact hc
  rcases Int.le_total 0 e with h | h
  · have := p e.toNat
    rwa [Int.toNat_of_nonneg h] at this
  · have := q (-e).toNat
    rwa [Int.toNat_of_nonneg (by omega), Int.neg_neg] at this
theorem good_one {e : Int} {c d : Nat → Int} (hc : Good e c) (hd : Good e d) : ∀ m, c m = d m
  | 0 => by rw [hc.1, hd.1]
  | m + 1 => by
    have a := hc.2 m
    have b := hd.2 m
    rw [good_one hc hd m, ← b] at a
    exact Int.eq_of_mul_eq_mul_left (by omega) a
theorem bn_good {s e : Int} {c : Nat → Int} (h : Good e c) : ∀ m, bn s e m = s ^ m * c m
  | 0 => by rw [bn, h.1, Int.pow_zero, Int.mul_one]
  | m + 1 => by
    have a := h.2 m
    rw [bn, bn_good h m, show e - ((m + 1 : Nat) : Int) + 1 = e - m by omega, show s * (s ^ m * c m) * (e - m) = ((m + 1 : Nat) : Int) * (s ^ (m + 1) * c (m + 1)) by rw [Int.pow_succ]; grind]
    exact Int.mul_ediv_cancel_left _ (by omega)
theorem pascal (s e : Int) (m : Nat) : bn s (e + 1) (m + 1) = bn s e (m + 1) + s * bn s e m := by
  obtain ⟨c, hc⟩ := good_all e
  rw [bn_good (good_up hc), bn_good hc, bn_good hc, up, Int.pow_succ]
  grind
theorem bn_mul (s e : Int) (m : Nat) : ((m + 1 : Nat) : Int) * bn s e (m + 1) = s * bn s e m * (e - m) := by
  obtain ⟨c, hc⟩ := good_all e
  have a := hc.2 m
  rw [bn_good hc, bn_good hc, Int.pow_succ]
  grind
/-- the binomial of c + m - 1 and m, and that of - c and m -/
theorem bn_flip (c : Int) : ∀ m : Nat, bn (-1) (-c) m = bn 1 (c + m - 1) m
  | 0 => rfl
  | m + 1 => by
    obtain ⟨d, hd⟩ := good_all (c + m - 1)
    have a := bn_mul (-1) (-c) m
    rw [bn_flip c m, bn_good hd, Int.one_pow, Int.one_mul] at a
    have hu := good_up hd
    have u := up_mul hd m
    have b := hu.2 m
    rw [show c + ((m + 1 : Nat) : Int) - 1 = c + m - 1 + 1 by omega, bn_good hu, Int.one_pow, Int.one_mul]
    refine Int.eq_of_mul_eq_mul_left (a := ((m + 1 : Nat) : Int)) (by omega) ?_
    rw [a, b, u]
    grind
end K8
namespace K8
/-! ### the factors -/
def opE (s e : Int) (p : Nat) (S : Sr) : Sr := op (bn s e) p S
theorem bn0 (s e : Int) : bn s e 0 = 1 := rfl
theorem bn1 (s e : Int) : bn s e 1 = s * e := by
  have a := bn_mul s e 0
  rw [bn0] at a
  push_cast at a
  grind
theorem bn_z (s : Int) : ∀ m, bn s 0 (m + 1) = 0
  | 0 => by rw [bn1, Int.mul_zero]
  | m + 1 => by
    have a := bn_mul s 0 (m + 1)
    rw [bn_z s m, Int.mul_zero, Int.zero_mul] at a
    rcases Int.mul_eq_zero.mp a with h | h
    · omega
    · exact h
theorem opE_zero (s : Int) (p : Nat) (S : Sr) : opE s 0 p S = S := by
  funext k
  show sm (k / p + 1) (fun m => bn s 0 m * S (k - m * p)) = S k
  rw [sm_left, bn0, Int.one_mul, Nat.zero_mul, Nat.sub_zero, sm_congr (G := fun _ => 0) fun i _ => by rw [bn_z, Int.zero_mul], sm_zero, Int.add_zero]
theorem opE_up {p : Nat} (hp : 0 < p) (s e : Int) (S : Sr) (k : Nat) : opE s (e + 1) p S k = opE s e p S k + if p ≤ k then s * opE s e p S (k - p) else 0 := by
  show sm (k / p + 1) (fun m => bn s (e + 1) m * S (k - m * p)) = sm (k / p + 1) (fun m => bn s e m * S (k - m * p)) + _
  rw [sm_left, sm_left, bn0, bn0]
  have e1 : sm (k / p) (fun i => bn s (e + 1) (i + 1) * S (k - (i + 1) * p)) = sm (k / p) (fun i => bn s e (i + 1) * S (k - (i + 1) * p)) + sm (k / p) (fun i => s * (bn s e i * S (k - (i + 1) * p))) := by
    rw [← sm_add]
    refine sm_congr fun i _ => ?_
    rw [pascal]
    grind
  rw [e1]
  by_cases h : p ≤ k
  · rw [if_pos h]
    have e2 : k / p = (k - p) / p + 1 := by
      have z := Nat.add_div_right (k - p) hp
      rw [Nat.sub_add_cancel h] at z
      exact z
    have e3 : sm (k / p) (fun i => s * (bn s e i * S (k - (i + 1) * p))) = s * opE s e p S (k - p) := by
      rw [sm_mul, e2]
      show s * _ = s * sm ((k - p) / p + 1) (fun m => bn s e m * S (k - p - m * p))
      congr 1
      refine sm_congr fun i _ => ?_
      rw [show k - (i + 1) * p = k - p - i * p by rw [Nat.add_mul, Nat.one_mul]; omega]
    rw [e3]
    omega
  · rw [if_neg h, show k / p = 0 from Nat.div_eq_of_lt (by omega)]
    simp [sm]
theorem opE_one {p : Nat} (hp : 0 < p) (s : Int) (S : Sr) (k : Nat) : opE s 1 p S k = S k + if p ≤ k then s * S (k - p) else 0 := by
  have a := opE_up hp s 0 S k
  rw [opE_zero] at a
  exact a
theorem opE_comm {p q : Nat} (hp : 0 < p) (hq : 0 < q) (s e t d : Int) (S : Sr) : opE s e p (opE t d q S) = opE t d q (opE s e p S) := op_comm hp hq _ _ S
theorem opE_succ {p : Nat} (hp : 0 < p) (s e : Int) (S : Sr) : opE s (e + 1) p S = opE s 1 p (opE s e p S) := by
  funext k
  rw [opE_up hp, opE_one hp]
theorem opE_inv {p : Nat} (hp : 0 < p) (s : Int) : ∀ (n : Nat) (S : Sr), opE s (-(n : Int)) p (opE s n p S) = S
  | 0, S => by
    show opE s (-((0 : Nat) : Int)) p (opE s ((0 : Nat) : Int) p S) = S
    rw [show -((0 : Nat) : Int) = 0 by omega, show ((0 : Nat) : Int) = 0 by omega, opE_zero, opE_zero]
  | n + 1, S => by
    rw [show ((n + 1 : Nat) : Int) = (n : Int) + 1 by omega, opE_succ hp, opE_comm hp hp, ← opE_succ hp, show -((n : Int) + 1) + 1 = -(n : Int) by omega]
    exact opE_inv hp s n S
theorem opE_neg {p : Nat} (hp : 0 < p) (s e : Int) (S : Sr) : opE s (-e) p (opE s e p S) = S := by
  rcases Int.le_total 0 e with h | h
  · obtain ⟨n, rfl⟩ := Int.eq_ofNat_of_zero_le h
    exact opE_inv hp s n S
  · obtain ⟨n, hn⟩ := Int.eq_ofNat_of_zero_le (show 0 ≤ -e by omega)
    have : e = -(n : Int) := by omega
    rw [this, Int.neg_neg, opE_comm hp hp]
    exact opE_inv hp s n S
/-- times the factor of a size -/
def Fa (p : Nat) (c : Int) (S : Sr) : Sr := opE (sg p) (ex p c) p S
theorem ex_neg (p : Nat) (c : Int) : ex p (-c) = -(ex p c) := by
  unfold ex
  split <;> rfl
theorem sg_ex (p : Nat) (c : Int) : sg p * ex p c = c := by
  unfold sg ex
  split <;> omega
theorem Fa_inv {p : Nat} (hp : 0 < p) (c : Int) (S : Sr) : Fa p c (Fa p (-c) S) = S := by
  unfold Fa
  have a := opE_neg hp (sg p) (ex p (-c)) S
  rw [← ex_neg, Int.neg_neg] at a
  exact a
theorem Fa_comm {p q : Nat} (hp : 0 < p) (hq : 0 < q) (c d : Int) (S : Sr) : Fa p c (Fa q d S) = Fa q d (Fa p c S) := opE_comm hp hq _ _ _ _ S
/-- nothing below the size is changed -/
theorem Fa_low {p : Nat} (c : Int) (S : Sr) {k : Nat} (h : k < p) : Fa p c S k = S k := by
  show sm (k / p + 1) (fun m => bn _ _ m * S (k - m * p)) = S k
  rw [Nat.div_eq_of_lt h, sm_left, bn0]
  show 1 * S (k - 0 * p) + 0 = S k
  rw [Nat.zero_mul, Nat.sub_zero, Int.one_mul, Int.add_zero]
theorem Fa_at {p : Nat} (hp : 0 < p) (c : Int) (S : Sr) : Fa p c S p = S p + c * S 0 := by
  show sm (p / p + 1) (fun m => bn _ _ m * S (p - m * p)) = _
  rw [Nat.div_self hp, sm_left, bn0]
  show 1 * S (p - 0 * p) + sm (0 + 1) (fun i => bn _ _ (i + 1) * S (p - (i + 1) * p)) = _
  rw [sm_left]
  show 1 * S (p - 0 * p) + (bn (sg p) (ex p c) 1 * S (p - (0 + 1) * p) + 0) = _
  rw [bn1, sg_ex, Nat.zero_mul, Nat.sub_zero, Int.one_mul, show p - (0 + 1) * p = 0 by omega]
  omega
/-- two series that are equal up to k: so they stay, and at k + 1 their difference does -/
theorem Fa_congr {p : Nat} (c : Int) {S T : Sr} {k : Nat} (h : ∀ i, i ≤ k → S i = T i) : Fa p c S k = Fa p c T k := sm_congr fun m _ => by rw [h _ (Nat.sub_le _ _)]
theorem Fa_diff {p : Nat} (hp : 0 < p) (c : Int) {S T : Sr} {k : Nat} (h : ∀ i, i ≤ k → S i = T i) : Fa p c S (k + 1) - Fa p c T (k + 1) = S (k + 1) - T (k + 1) := by
  show sm ((k + 1) / p + 1) (fun m => bn _ _ m * S (k + 1 - m * p)) - sm ((k + 1) / p + 1) (fun m => bn _ _ m * T (k + 1 - m * p)) = _
  rw [sm_left, sm_left, bn0]
  have e : sm ((k + 1) / p) (fun i => bn (sg p) (ex p c) (i + 1) * S (k + 1 - (i + 1) * p)) = sm ((k + 1) / p) (fun i => bn (sg p) (ex p c) (i + 1) * T (k + 1 - (i + 1) * p)) := sm_congr fun i _ => by
    rw [h _ (by rw [Nat.add_mul, Nat.one_mul]; omega)]
  rw [e, Nat.zero_mul, Nat.sub_zero]
  omega
/-! ### products of factors -/
def Pr (c : Sr) : Nat → Sr → Sr
  | 0, T => T
  | k + 1, T => Fa (k + 1) (c k) (Pr c k T)
def dl : Sr := fun k => if k = 0 then 1 else 0
def Rs (S : Sr) : Nat → Sr
  | 0 => S
  | k + 1 => Fa (k + 1) (-(Rs S k (k + 1))) (Rs S k)
def cs (S : Sr) : Sr := fun k => Rs S k (k + 1)
theorem Pr_comm (c : Sr) {q : Nat} (hq : 0 < q) (d : Int) (T : Sr) : ∀ k, Pr c k (Fa q d T) = Fa q d (Pr c k T)
  | 0 => rfl
  | k + 1 => by rw [Pr, Pr, Pr_comm c hq d T k, Fa_comm (Nat.succ_pos k) hq]
theorem Rs_back (S : Sr) : ∀ k, Pr (cs S) k (Rs S k) = S
  | 0 => rfl
  | k + 1 => by
    rw [Pr, Rs, Pr_comm _ (Nat.succ_pos k)]
    show Fa (k + 1) (Rs S k (k + 1)) (Fa (k + 1) (-(Rs S k (k + 1))) _) = S
    rw [Fa_inv (Nat.succ_pos k)]
    exact Rs_back S k
theorem Rs_head {S : Sr} (h0 : S 0 = 1) : ∀ k, Rs S k 0 = 1 ∧ ∀ i, 1 ≤ i → i ≤ k → Rs S k i = 0
  | 0 => ⟨h0, fun i h1 h2 => by omega⟩
  | k + 1 => by
    obtain ⟨a, b⟩ := Rs_head h0 k
    refine ⟨by rw [Rs, Fa_low _ _ (Nat.succ_pos k), a], fun i h1 h2 => ?_⟩
    by_cases e : i = k + 1
    · subst e
      rw [Rs, Fa_at (p := k + 1) (Nat.succ_pos k), a]
      omega
    · rw [Rs, Fa_low _ _ (by omega), b i h1 (by omega)]
theorem Pr_congr (c : Sr) {T U : Sr} {k : Nat} (h : ∀ i, i ≤ k → T i = U i) : ∀ j i, i ≤ k → Pr c j T i = Pr c j U i
  | 0, i, hi => h i hi
  | j + 1, i, hi => Fa_congr _ fun m hm => Pr_congr c h j m (by omega)
theorem Pr_diff (c : Sr) {T U : Sr} {k : Nat} (h : ∀ i, i ≤ k → T i = U i) : ∀ j, Pr c j T (k + 1) - Pr c j U (k + 1) = T (k + 1) - U (k + 1)
  | 0 => rfl
  | j + 1 => by
    have a := Fa_diff (Nat.succ_pos j) (c j) (S := Pr c j T) (T := Pr c j U) (k := k) fun i hi => Pr_congr c h j i hi
    rw [Pr, Pr, a, Pr_diff c h j]
/-- one count is what the series has more than the product so far -/
theorem cs_is {S : Sr} (h0 : S 0 = 1) (k : Nat) : cs S k = S (k + 1) - Pr (cs S) k dl (k + 1) := by
  obtain ⟨a, b⟩ := Rs_head h0 k
  have d := Pr_diff (cs S) (T := Rs S k) (U := dl) (k := k) (fun i hi => by
    by_cases e : i = 0
    · rw [e, a]; rfl
    · rw [b i (by omega) hi]
      show 0 = if i = 0 then 1 else 0
      rw [if_neg e]) k
  rw [Rs_back] at d
  have z : dl (k + 1) = 0 := rfl
  rw [z] at d
  show Rs S k (k + 1) = _
  omega
theorem Pr_zero (c : Sr) : ∀ k, Pr c k dl 0 = 1
  | 0 => rfl
  | k + 1 => by rw [Pr, Fa_low _ _ (Nat.succ_pos k), Pr_zero c k]
theorem Pr_up (c : Sr) (k : Nat) : Pr c (k + 1) dl (k + 1) = Pr c k dl (k + 1) + c k := by rw [Pr, Fa_at (p := k + 1) (Nat.succ_pos k), Pr_zero, Int.mul_one]
theorem Pr_more (c : Sr) {i k : Nat} (h : i ≤ k) : ∀ m, Pr c (k + m) dl i = Pr c k dl i
  | 0 => rfl
  | m + 1 => by rw [← Nat.add_assoc, Pr, Fa_low _ _ (by omega), Pr_more c h m]
theorem Pr_same {c d : Sr} : ∀ {k : Nat} (T : Sr), (∀ i, i < k → c i = d i) → Pr c k T = Pr d k T
  | 0, _, _ => rfl
  | k + 1, T, h => by rw [Pr, Pr, h k (by omega), Pr_same T fun i hi => h i (by omega)]
/-- the product of the counts of a series is the series -/
theorem back_series {S : Sr} (h0 : S 0 = 1) {i n : Nat} (h : i ≤ n) : Pr (cs S) n dl i = S i := by
  cases i with
  | zero => rw [Pr_zero, h0]
  | succ k =>
    have a := Pr_more (cs S) (Nat.le_refl (k + 1)) (n - (k + 1))
    rw [show k + 1 + (n - (k + 1)) = n by omega] at a
    rw [a, Pr_up, cs_is h0]
    omega
/-- the counts of a product are its counts -/
theorem back_counts (c : Sr) (n : Nat) : ∀ k, k < n → cs (Pr c n dl) k = c k := by
  intro k
  induction k using Nat.strongRecOn with
  | ind k ih =>
    intro hk
    have a := cs_is (S := Pr c n dl) (Pr_zero c n) k
    rw [Pr_same (c := cs (Pr c n dl)) (d := c) dl fun i hi => ih i hi (by omega)] at a
    have b := Pr_more c (Nat.le_refl (k + 1)) (n - (k + 1))
    rw [show k + 1 + (n - (k + 1)) = n by omega, Pr_up] at b
    omega
end K8
namespace K8
/-! ### checking with the steps left out that change nothing -/
theorem ex_zero (size : Nat) : ex size 0 = 0 := by
  unfold ex
  split <;> rfl
theorem bn_zero (s : Int) : ∀ m, bn s 0 (m + 1) = 0
  | 0 => by
    rw [bn, bn, show (0 : Int) - ((0 + 1 : Nat) : Int) + 1 = 0 by omega, Int.mul_zero, Int.zero_ediv]
  | m + 1 => by rw [bn, bn_zero s m, Int.mul_zero, Int.zero_mul, Int.zero_ediv]
theorem addUp_zero (f s : List Int) (off n : Nat) : addUp f s off 0 n = f := by
  refine List.ext_getElem? fun i => ?_
  by_cases hi : i < f.length
  · rw [addUp_get _ _ _ _ _ _ hi, Int.zero_mul, Int.add_zero, ite_self, List.getElem?_eq_getElem hi, List.getD_eq_getElem?_getD, List.getElem?_eq_getElem hi]
    rfl
  · rw [List.getElem?_eq_none (by rw [addUp_len]; omega), List.getElem?_eq_none (by omega)]
theorem wfAt_zero (series : List Int) (size : Nat) (s : Int) : ∀ m, wfAt series size s 0 m = series
  | 0 => rfl
  | m + 1 => by rw [wfAt, bn_zero, addUp_zero, wfAt_zero series size s m]
theorem wf_zero (series : List Int) (size : Nat) : wf series size 0 = series := by rw [wf, ex_zero, wfAt_zero]
def smallAll (series : List Int) : Bool := series.all fun x => decide (x.natAbs.log2 < 900000)
theorem wfOk_zero {series : List Int} {size : Nat} (h : smallAll series = true) (l : series.length ≤ 1000) : wfOk series size 0 = true := by
  unfold wfOk
  rw [ex_zero, List.all_eq_true]
  intro m hm
  have m1 : m < 1000 := by
    have a := List.mem_range.mp hm
    have b := Nat.div_le_self (series.length - 1) size
    omega
  rw [Bool.and_eq_true]
  refine ⟨decide_eq_true ?_, ?_⟩
  · cases m with
    | zero =>
      rw [show (0 : Int) - ((0 + 1 : Nat) : Int) + 1 = 0 by omega, bn, Int.mul_one]
      unfold sg
      split <;> decide
    | succ m =>
      rw [bn_zero, Int.mul_zero]
      have a := Nat.log2_le_self ((0 : Int) - ((m + 1 + 1 : Nat) : Int) + 1).natAbs
      have b : ((0 : Int) - ((m + 1 + 1 : Nat) : Int) + 1).natAbs = m + 1 := by omega
      rw [b] at a ⊢
      show Nat.log2 0 + _ < _
      have z : Nat.log2 0 = 0 := by decide
      omega
  · rw [List.all_eq_true]
    intro x hx
    refine decide_eq_true ?_
    rw [bn_zero]
    have a : x.natAbs.log2 < 900000 := of_decide_eq_true (List.all_eq_true.mp h x hx)
    show Nat.log2 0 + _ < _
    have z : Nat.log2 0 = 0 := by decide
    omega
def coOkF : Nat → Nat → List Int → Bool
  | 0, _, _ => true
  | f + 1, k, r => if r.getD (k + 1) 0 = 0 then smallAll r && coOkF f (k + 1) r else wfOk r (k + 1) (-(r.getD (k + 1) 0)) && coOkF f (k + 1) (wf r (k + 1) (-(r.getD (k + 1) 0)))
theorem coOkF_ok : ∀ (f k : Nat) (r : List Int), r.length ≤ 1000 → coOkF f k r = true → coOk f k r = true
  | 0, _, _, _, _ => rfl
  | f + 1, k, r, l, h => by
    rw [coOkF] at h
    rw [coOk, Bool.and_eq_true]
    by_cases e : r.getD (k + 1) 0 = 0
    · rw [if_pos e, Bool.and_eq_true] at h
      rw [e, Int.neg_zero, wf_zero]
      exact ⟨wfOk_zero h.1 l, coOkF_ok f (k + 1) r l h.2⟩
    · rw [if_neg e, Bool.and_eq_true] at h
      exact ⟨h.1, coOkF_ok f (k + 1) _ (by rw [wf_len]; exact l) h.2⟩
def seOkF : List Int → Nat → List Int → Bool
  | [], _, _ => true
  | c :: cs, k, r => if c = 0 then smallAll r && seOkF cs (k + 1) r else wfOk r (k + 1) c && seOkF cs (k + 1) (wf r (k + 1) c)
theorem seOkF_ok : ∀ (cs : List Int) (k : Nat) (r : List Int), r.length ≤ 1000 → seOkF cs k r = true → seOk cs k r = true
  | [], _, _, _, _ => rfl
  | c :: cs, k, r, l, h => by
    rw [seOkF] at h
    rw [seOk, Bool.and_eq_true]
    by_cases e : c = 0
    · rw [if_pos e, Bool.and_eq_true] at h
      subst e
      rw [wf_zero]
      exact ⟨wfOk_zero h.1 l, seOkF_ok cs (k + 1) r l h.2⟩
    · rw [if_neg e, Bool.and_eq_true] at h
      exact ⟨h.1, seOkF_ok cs (k + 1) _ (by rw [wf_len]; exact l) h.2⟩
theorem countsOk_of {S : List Int} (l : S.length ≤ 1000) (h : coOkF (S.length - 1) 0 S = true) : countsOk S = true := coOkF_ok _ _ _ l h
theorem seriesOk_of {C : List Int} {N : Nat} (l : N ≤ 900) (h : seOkF C 0 (one N) = true) : seriesOk C N = true := seOkF_ok _ _ _ (by rw [one_len]; omega) h
end K8
namespace K8
/-! ### lists and series -/
def cf (L : List Int) : Sr := fun k => L.getD k 0
theorem cf_at {L : List Int} {i : Nat} (h : i < L.length) : L[i]? = some (cf L i) := by
  unfold cf
  rw [List.getD_eq_getElem?_getD, List.getElem?_eq_getElem h]
  rfl
theorem cf_out {L : List Int} {i : Nat} (h : L.length ≤ i) : cf L i = 0 := by
  unfold cf
  rw [List.getD_eq_getElem?_getD, List.getElem?_eq_none h]
  rfl
theorem cf_of {L : List Int} {i : Nat} {x : Int} (h : L[i]? = some x) : cf L i = x := by
  unfold cf
  rw [List.getD_eq_getElem?_getD, h]
  rfl
theorem cf_map {n i : Nat} (f : Nat → Int) (h : i < n) : cf ((List.range n).map f) i = f i := by
  refine cf_of ?_
  rw [List.getElem?_map, List.getElem?_range h]
  rfl
theorem list_eq {L M : List Int} (hl : L.length = M.length) (h : ∀ i, i < L.length → cf L i = cf M i) : L = M := by
  refine List.ext_getElem? fun i => ?_
  by_cases c : i < L.length
  · rw [cf_at c, cf_at (by omega), h i c]
  · rw [List.getElem?_eq_none (by omega), List.getElem?_eq_none (by omega)]
theorem wfAt_cf (L : List Int) (size : Nat) (s e : Int) {i : Nat} (hi : i < L.length) : ∀ m, cf (wfAt L size s e m) i = sm (m + 1) fun j => if j * size ≤ i then bn s e j * cf L (i - j * size) else 0
  | 0 => by
    show cf L i = 0 + if 0 * size ≤ i then bn s e 0 * cf L (i - 0 * size) else 0
    rw [Nat.zero_mul, if_pos (Nat.zero_le _), Nat.sub_zero, bn0, Int.one_mul, Int.zero_add]
  | m + 1 => by
    have ih := wfAt_cf L size s e hi m
    have a := addUp_get (wfAt L size s e m) L ((m + 1) * size) (bn s e (m + 1)) L.length i (by rw [wfAt_len]; exact hi)
    show cf (addUp (wfAt L size s e m) L ((m + 1) * size) (bn s e (m + 1)) L.length) i = sm (m + 1) _ + (if (m + 1) * size ≤ i then bn s e (m + 1) * cf L (i - (m + 1) * size) else 0)
    rw [cf_of a, ← ih]
    by_cases c : (m + 1) * size ≤ i
    · rw [if_pos ⟨c, hi⟩, if_pos c]
      rfl
    · rw [if_neg (fun z => c z.1), if_neg c, Int.add_zero]
      rfl
theorem wf_cf {L : List Int} {size : Nat} (c : Int) (hs : 0 < size) {i : Nat} (hi : i < L.length) : cf (wf L size c) i = Fa size c (cf L) i := by
  unfold wf
  rw [wfAt_cf L size _ _ hi]
  have h1 : i / size ≤ (L.length - 1) / size := Nat.div_le_div_right (by omega)
  have e : (L.length - 1) / size + 1 = i / size + 1 + ((L.length - 1) / size - i / size) := by omega
  rw [e, sm_more]
  · refine sm_congr fun j hj => ?_
    rw [if_pos ((Nat.le_div_iff_mul_le hs).mp (by omega))]
  · intro j h1 h2
    rw [if_neg fun z => ?_]
    have := (Nat.le_div_iff_mul_le hs).mpr z
    omega
theorem one_cf (N i : Nat) : cf (one N) i = dl i := by
  by_cases h : i < (one N).length
  · refine cf_of ?_
    cases i with
    | zero => rfl
    | succ i =>
      rw [one_len] at h
      show (List.replicate N (0 : Int))[i]? = some 0
      rw [List.getElem?_replicate, if_pos (by omega)]
  · rw [cf_out (by omega)]
    rw [one_len] at h
    show 0 = if i = 0 then (1 : Int) else 0
    rw [if_neg (by omega)]
theorem serAt_cf (C : List Int) (N : Nat) : ∀ k i, i ≤ N → cf (serAt C N k) i = Pr (cf C) k dl i
  | 0, i, _ => one_cf N i
  | k + 1, i, hi => by
    rw [serAt, wf_cf _ (Nat.succ_pos k) (by rw [serAt_len]; omega), Pr]
    exact Fa_congr _ fun j hj => serAt_cf C N k j (by omega)
theorem coRest_cf (L : List Int) : ∀ k i, k + 1 ≤ L.length → i < L.length → cf (coRest L k) i = Rs (cf L) k i
  | 0, _, _, _ => rfl
  | k + 1, i, hk, hi => by
    have e : (coRest L k).getD (k + 1) 0 = Rs (cf L) k (k + 1) := coRest_cf L k (k + 1) (by omega) (by omega)
    rw [coRest, e, wf_cf _ (Nat.succ_pos k) (by rw [coRest_len]; exact hi), Rs]
    exact Fa_congr _ fun j hj => coRest_cf L k j (by omega) (by omega)
theorem coAt_cs (L : List Int) {k : Nat} (h : k + 1 < L.length) : coAt L k = cs (cf L) k := coRest_cf L k (k + 1) (by omega) h
theorem countsOf_len (L : List Int) : (countsOf L).length = L.length - 1 := by rw [countsOf, List.length_map, List.length_range]
theorem countsOf_cf (L : List Int) {k : Nat} (h : k + 1 < L.length) : cf (countsOf L) k = cs (cf L) k := by rw [countsOf, cf_map _ (by omega), coAt_cs L h]
theorem Rs_congr {S T : Sr} {n : Nat} (h : ∀ i, i ≤ n → S i = T i) : ∀ k, k ≤ n → ∀ i, i ≤ n → Rs S k i = Rs T k i
  | 0, _, i, hi => h i hi
  | k + 1, hk, i, hi => by
    rw [Rs, Rs, Rs_congr h k (by omega) (k + 1) hk]
    exact Fa_congr _ fun j hj => Rs_congr h k (by omega) j (by omega)
/-- the series of the counts of a series is the series -/
theorem ser_counts {L : List Int} {n : Nat} (hl : L.length = n + 1) (h0 : cf L 0 = 1) : seriesOf (countsOf L) n = L := by
  have l1 := countsOf_len L
  refine list_eq (by rw [seriesOf, serAt_len]; omega) fun i hi => ?_
  rw [seriesOf, serAt_len] at hi
  rw [seriesOf, serAt_cf _ _ _ _ (by omega), Pr_same (d := cs (cf L)) dl fun j hj => countsOf_cf L (by omega), l1, hl]
  exact back_series h0 (by omega)
/-- the counts of the series of some counts are these -/
theorem counts_ser {C : List Int} {N : Nat} (hl : C.length = N) : countsOf (seriesOf C N) = C := by
  have ls : (seriesOf C N).length = N + 1 := serAt_len _ _ _
  refine list_eq (by rw [countsOf_len, ls]; omega) fun i hi => ?_
  rw [countsOf_len, ls] at hi
  rw [countsOf_cf _ (by omega)]
  have a : ∀ j, j ≤ N → cf (seriesOf C N) j = Pr (cf C) N dl j := fun j hj => by rw [seriesOf, serAt_cf _ _ _ _ hj, hl]
  show Rs (cf (seriesOf C N)) i (i + 1) = _
  rw [Rs_congr a i (by omega) (i + 1) (by omega)]
  exact back_counts (cf C) N i (by omega)
theorem ser_head {C : List Int} {N : Nat} : cf (seriesOf C N) 0 = 1 := by rw [seriesOf, serAt_cf _ _ _ _ (Nat.zero_le _), Pr_zero]
/-! ### the law's own ways -/
def ac (n : Int) : Nat → Int
  | 0 => 1
  | k + 1 => ac n k * (n - (k : Int)) / ((k : Int) + 1)
theorem ac_bn (n : Int) : ∀ k, ac n k = bn 1 n k
  | 0 => rfl
  | k + 1 => by
    rw [ac, bn, ac_bn n k, Int.one_mul, show n - ((k + 1 : Nat) : Int) + 1 = n - k by omega]
    rfl
/-- the entries of the loop series of so many letters of a degree -/
def lfc (degree : Nat) (many : Int) (j : Nat) : Int :=
  if j % (degree - 1) = 0 then (if degree % 2 = 0 then ac many (j / (degree - 1)) else ac (many + (j / (degree - 1) : Nat) - 1) (j / (degree - 1))) else 0
def lfac (degree : Nat) (many : Int) (size : Nat) : List Int := (List.range size).map (lfc degree many)
def tmL (a b : List Int) : List Int := (List.range a.length).map fun k => sm (k + 1) fun i => cf a i * cf b (k - i)
theorem tmL_len (a b : List Int) : (tmL a b).length = a.length := by rw [tmL, List.length_map, List.length_range]
theorem lfc_sp (p : Nat) (c : Int) (j : Nat) : lfc (p + 1) c j = sp (bn (sg p) (ex p c)) p j := by
  unfold lfc sp
  rw [Nat.add_sub_cancel]
  split
  · unfold sg ex
    by_cases h : p % 2 = 1
    · rw [if_pos (by omega), if_pos h, if_pos h, ac_bn]
    · rw [if_neg (by omega), if_neg h, if_neg h, ac_bn, bn_flip]
  · rfl
theorem tm_wf {a : List Int} {p : Nat} (c : Int) (hp : 0 < p) : tmL a (lfac (p + 1) c a.length) = wf a p c := by
  refine list_eq (by rw [tmL_len, wf_len]) fun k hk => ?_
  rw [tmL_len] at hk
  rw [wf_cf c hp hk, tmL, cf_map _ hk]
  show _ = op (bn (sg p) (ex p c)) p (cf a) k
  rw [← op_cv hp]
  show _ = sm (k + 1) fun j => sp (bn (sg p) (ex p c)) p j * cf a (k - j)
  rw [← sm_rev]
  refine sm_congr fun i hi => ?_
  rw [lfac, cf_map _ (by omega), lfc_sp, show k - (k - i) = i by omega, Int.mul_comm]
theorem wf_far {a : List Int} {p : Nat} (c : Int) (h : a.length ≤ p) : wf a p c = a := by
  unfold wf
  by_cases z : a.length = 0
  · rw [z]
    have : (0 - 1) / p = 0 := by rw [Nat.zero_sub, Nat.zero_div]
    rw [this]
    rfl
  · rw [Nat.div_eq_of_lt (by omega)]
    rfl
def ctdAt (C : List Int) (size : Nat) : Nat → List Int
  | 0 => one (size - 1)
  | k + 1 => if cf C k ≠ 0 ∧ k + 1 < size then tmL (ctdAt C size k) (lfac (k + 2) (cf C k) size) else ctdAt C size k
theorem ctdAt_ser (C : List Int) {size : Nat} (hs : 0 < size) : ∀ k, ctdAt C size k = serAt C (size - 1) k
  | 0 => rfl
  | k + 1 => by
    have l : (serAt C (size - 1) k).length = size := by rw [serAt_len]; omega
    rw [ctdAt, serAt, ctdAt_ser C hs k]
    show _ = wf (serAt C (size - 1) k) (k + 1) (cf C k)
    by_cases h0 : cf C k = 0
    · rw [if_neg (fun z => z.1 h0), h0, wf_zero]
    · by_cases h1 : k + 1 < size
      · rw [if_pos ⟨h0, h1⟩]
        have a := tm_wf (a := serAt C (size - 1) k) (p := k + 1) (cf C k) (Nat.succ_pos k)
        rw [l] at a
        exact a
      · rw [if_neg (fun z => h1 z.2), wf_far _ (by omega)]
def ctd (C : List Int) (size : Nat) : List Int := ctdAt C size C.length
theorem ctd_ser (C : List Int) {size : Nat} (hs : 0 < size) : ctd C size = seriesOf C (size - 1) := ctdAt_ser C hs _
def lscAt (L : List Int) : Nat → List Int
  | 0 => []
  | k + 1 => lscAt L k ++ [cf L (k + 1) - cf (ctd (lscAt L k) (k + 2)) (k + 1)]
theorem lscAt_is {L : List Int} (h0 : cf L 0 = 1) : ∀ k, k + 1 ≤ L.length → lscAt L k = (List.range k).map (coAt L)
  | 0, _ => rfl
  | k + 1, h => by
    have ih := lscAt_is h0 k (by omega)
    have lk : (lscAt L k).length = k := by rw [ih, List.length_map, List.length_range]
    rw [lscAt, List.range_succ, List.map_append, ← ih, ctd_ser _ (by omega), seriesOf, serAt_cf _ _ _ _ (by omega), lk]
    congr 1
    show [_] = [_]
    congr 1
    rw [coAt_cs L (by omega), cs_is h0, Pr_same (d := cs (cf L)) dl fun j hj => by rw [ih, cf_map _ hj, coAt_cs L (by omega)]]
theorem lsc_counts {L : List Int} (h0 : cf L 0 = 1) (hl : 1 ≤ L.length) : lscAt L (L.length - 1) = countsOf L := lscAt_is h0 _ (by omega)
end K8
namespace K8
/-! ### how great the numbers get -/
def Bd (a : Nat) (L : List Int) : Prop := ∀ x ∈ L, x.natAbs < 2 ^ a
theorem log_le {x : Int} {a : Nat} (h : x.natAbs ≤ 2 ^ a) : x.natAbs.log2 ≤ a := by
  by_cases z : x.natAbs = 0
  · rw [z]
    have : Nat.log2 0 = 0 := by decide
    omega
  · have q : x.natAbs < 2 ^ (a + 1) := by rw [Nat.pow_succ]; have := Nat.two_pow_pos a; omega
    have := (Nat.log2_lt z).mpr q
    omega
theorem log_lt {x : Int} {a : Nat} (h : x.natAbs < 2 ^ a) : x.natAbs.log2 ≤ a := log_le (Nat.le_of_lt h)
theorem Bd.mono {a b : Nat} {L : List Int} (h : Bd a L) (hb : a ≤ b) : Bd b L := fun x hx => Nat.lt_of_lt_of_le (h x hx) (Nat.pow_le_pow_right (by decide) hb)
theorem Bd.cf {a : Nat} {L : List Int} (h : Bd a L) (i : Nat) : (K8.cf L i).natAbs < 2 ^ a := by
  by_cases c : i < L.length
  · exact h _ (List.mem_of_getElem? (cf_at c))
  · rw [cf_out (by omega)]
    exact Nat.two_pow_pos a
theorem Bd.of_cf {a : Nat} {L : List Int} (h : ∀ i, i < L.length → (K8.cf L i).natAbs < 2 ^ a) : Bd a L := fun x hx => by
  obtain ⟨i, hi, e⟩ := List.getElem_of_mem hx
  have z := h i hi
  rw [cf_of (x := x) (by rw [List.getElem?_eq_getElem hi, e])] at z
  exact z
theorem e_bd {e : Int} {q m : Nat} (he : e.natAbs < 2 ^ q) (hq : 6 ≤ q) (hm : m ≤ 64) : (e - (m : Int)).natAbs ≤ 2 ^ (q + 1) := by
  have a := Int.natAbs_sub_le e (m : Int)
  have b : 2 ^ 6 ≤ 2 ^ q := Nat.pow_le_pow_right (by decide) hq
  rw [Nat.pow_succ]
  have c : ((m : Int)).natAbs = m := Int.natAbs_natCast m
  omega
theorem bn_bd {s e : Int} {q : Nat} (hs : s.natAbs ≤ 1) (he : e.natAbs < 2 ^ q) (hq : 6 ≤ q) : ∀ m, m ≤ 64 → (bn s e m).natAbs ≤ 2 ^ ((q + 1) * m)
  | 0, _ => by rw [bn0, Nat.mul_zero]; decide
  | m + 1, h => by
    have ih := bn_bd hs he hq m (by omega)
    rw [bn, show e - ((m + 1 : Nat) : Int) + 1 = e - m by omega]
    refine Nat.le_trans (Int.natAbs_ediv_le_natAbs _ _) ?_
    rw [Int.natAbs_mul, Int.natAbs_mul, Nat.mul_add, Nat.mul_one, Nat.pow_add]
    refine Nat.mul_le_mul ?_ (e_bd he hq (by omega))
    have := Nat.mul_le_mul hs ih
    rw [Nat.one_mul] at this
    exact this
theorem sg_abs (p : Nat) : (sg p).natAbs ≤ 1 := by
  unfold sg
  split <;> decide
theorem ex_abs (p : Nat) (c : Int) : (ex p c).natAbs = c.natAbs := by
  unfold ex
  split
  · rfl
  · exact Int.natAbs_neg c
theorem sm_bd {F : Nat → Int} {B : Nat} : ∀ n, (∀ i, i < n → (F i).natAbs ≤ B) → (sm n F).natAbs ≤ n * B
  | 0, _ => Nat.zero_le _
  | n + 1, h => by
    have a := sm_bd n fun i hi => h i (by omega)
    have b := h n (by omega)
    have c := Int.natAbs_add_le (sm n F) (F n)
    rw [sm, Nat.add_mul, Nat.one_mul]
    omega
/-- one factor -/
theorem wf_step {L : List Int} {size a q N : Nat} {c : Int} (hs : 0 < size) (hL : Bd a L) (hc : c.natAbs < 2 ^ q) (hq : 6 ≤ q) (hl : L.length ≤ 64) (hN : (q + 1) * ((L.length - 1) / size) + a + 7 ≤ N) (h4 : N ≤ 400000) : wfOk L size c = true ∧ Bd N (wf L size c) := by
  have hM : (L.length - 1) / size ≤ 63 := Nat.le_trans (Nat.div_le_self _ _) (by omega)
  have he : (ex size c).natAbs < 2 ^ q := by rw [ex_abs]; exact hc
  generalize hMe : (L.length - 1) / size = M at *
  constructor
  · unfold wfOk
    rw [hMe, List.all_eq_true]
    intro m hm
    have hm := List.mem_range.mp hm
    have b0 := bn_bd (sg_abs size) he hq m (by omega)
    have b1 := bn_bd (sg_abs size) he hq (m + 1) (by omega)
    have m1 : (q + 1) * (m + 1) ≤ (q + 1) * M := Nat.mul_le_mul_left _ hm
    rw [Bool.and_eq_true]
    refine ⟨decide_eq_true ?_, ?_⟩
    · have x1 : (sg size * bn (sg size) (ex size c) m).natAbs ≤ 2 ^ ((q + 1) * m) := by
        rw [Int.natAbs_mul]
        have := Nat.mul_le_mul (sg_abs size) b0
        rw [Nat.one_mul] at this
        exact this
      have x2 := log_le x1
      have x3 := log_le (e_bd he hq (show m ≤ 64 by omega))
      rw [show ex size c - ((m + 1 : Nat) : Int) + 1 = ex size c - m by omega]
      rw [Nat.mul_add, Nat.mul_one] at m1
      omega
    · rw [List.all_eq_true]
      intro x hx
      refine decide_eq_true ?_
      have x1 := log_le b1
      have x2 := log_lt (hL x hx)
      omega
  · refine Bd.of_cf fun i hi => ?_
    rw [wf_len] at hi
    rw [wf_cf c hs hi]
    have hi2 : i / size ≤ M := by rw [← hMe]; exact Nat.div_le_div_right (by omega)
    have b := sm_bd (F := fun m => bn (sg size) (ex size c) m * cf L (i - m * size)) (B := 2 ^ ((q + 1) * M) * 2 ^ a) (i / size + 1) fun m hm => by
      rw [Int.natAbs_mul]
      refine Nat.mul_le_mul ?_ (Nat.le_of_lt (hL.cf _))
      exact Nat.le_trans (bn_bd (sg_abs size) he hq m (by omega)) (Nat.pow_le_pow_right (by decide) (Nat.mul_le_mul_left _ (by omega)))
    refine Nat.lt_of_le_of_lt b ?_
    have p : 0 < 2 ^ ((q + 1) * M) * 2 ^ a := Nat.mul_pos (Nat.two_pow_pos _) (Nat.two_pow_pos _)
    have r : (i / size + 1) * (2 ^ ((q + 1) * M) * 2 ^ a) < 2 ^ 7 * (2 ^ ((q + 1) * M) * 2 ^ a) := Nat.mul_lt_mul_of_pos_right (by omega) p
    refine Nat.lt_of_lt_of_le r ?_
    rw [← Nat.pow_add, ← Nat.pow_add]
    exact Nat.pow_le_pow_right (by decide) (by omega)
/-- the products of factors, one behind the other -/
theorem ser_bd {C : List Int} {N : Nat} {q b : Nat → Nat} (hN : N + 1 ≤ 64) (h0 : 1 ≤ b 0) (hq : ∀ k, k < C.length → 6 ≤ q k ∧ (cf C k).natAbs < 2 ^ q k) (hb : ∀ k, k < C.length → (q k + 1) * (N / (k + 1)) + b k + 7 ≤ b (k + 1) ∧ b (k + 1) ≤ 400000) :
    ∀ k, k ≤ C.length → Bd (b k) (serAt C N k) ∧ ∀ j, j < k → wfOk (serAt C N j) (j + 1) (cf C j) = true
  | 0, _ => ⟨fun x hx => by
      have z : x = 1 ∨ x = 0 := by
        rcases List.mem_cons.mp hx with e | e
        · exact .inl e
        · exact .inr (List.eq_of_mem_replicate e)
      have p : 2 ^ 1 ≤ 2 ^ b 0 := Nat.pow_le_pow_right (by decide) h0
      rcases z with e | e <;> rw [e] <;> simp <;> omega, fun j hj => by omega⟩
  | k + 1, h => by
    obtain ⟨i1, i2⟩ := ser_bd hN h0 hq hb k (by omega)
    have a := hq k (by omega)
    have c := hb k (by omega)
    have l := serAt_len C N k
    have st := wf_step (L := serAt C N k) (size := k + 1) (c := cf C k) (Nat.succ_pos k) i1 a.2 a.1 (by omega) (by rw [l]; exact c.1) c.2
    refine ⟨st.2, fun j hj => ?_⟩
    by_cases e : j = k
    · rw [e]; exact st.1
    · exact i2 j (by omega)
theorem seOk_of (C : List Int) (N : Nat) (h : ∀ j, j < C.length → wfOk (serAt C N j) (j + 1) (cf C j) = true) : ∀ (cs' : List Int) (k : Nat), C.drop k = cs' → seOk cs' k (serAt C N k) = true
  | [], _, _ => rfl
  | c :: cs', k, e => by
    have hk : k < C.length := by
      have : C.drop k ≠ [] := by rw [e]; exact fun z => nomatch z
      rcases Nat.lt_or_ge k C.length with z | z
      · exact z
      · exact absurd (List.drop_eq_nil_iff.mpr z) this
    have g : cf C k = c := cf_of (by
      have z : (C.drop k)[0]? = some c := by rw [e]; rfl
      rw [List.getElem?_drop] at z
      exact z)
    rw [seOk, Bool.and_eq_true]
    refine ⟨by rw [← g]; exact h k hk, ?_⟩
    have n := seOk_of C N h cs' (k + 1) (by rw [← List.drop_drop, e]; rfl)
    have s : serAt C N (k + 1) = wf (serAt C N k) (k + 1) c := by
      show wf (serAt C N k) (k + 1) (cf C k) = _
      rw [g]
    rw [s] at n
    exact n
theorem seriesOk_by {C : List Int} {N : Nat} (h : ∀ j, j < C.length → wfOk (serAt C N j) (j + 1) (cf C j) = true) : seriesOk C N = true := seOk_of C N h C 0 rfl
theorem coOk_of (L : List Int) : ∀ (f k : Nat), (∀ j, k ≤ j → j < k + f → wfOk (coRest L j) (j + 1) (-(coAt L j)) = true) → coOk f k (coRest L k) = true
  | 0, _, _ => rfl
  | f + 1, k, h => by
    rw [coOk, Bool.and_eq_true]
    exact ⟨h k (Nat.le_refl k) (by omega), coOk_of L f (k + 1) fun j h1 h2 => h j (by omega) (by omega)⟩
theorem countsOk_by {L : List Int} (h : ∀ j, j < L.length - 1 → wfOk (coRest L j) (j + 1) (-(coAt L j)) = true) : countsOk L = true := coOk_of L _ 0 fun j _ h2 => h j (by omega)
theorem co_bd {L : List Int} {q b : Nat → Nat} (hl : L.length ≤ 64) (h0 : Bd (b 0) L) (hq : ∀ k, k + 1 < L.length → 6 ≤ q k ∧ (Bd (b k) (coRest L k) → (coAt L k).natAbs < 2 ^ q k)) (hb : ∀ k, k + 1 < L.length → (q k + 1) * ((L.length - 1) / (k + 1)) + b k + 7 ≤ b (k + 1) ∧ b (k + 1) ≤ 400000) :
    ∀ k, k + 1 ≤ L.length → Bd (b k) (coRest L k) ∧ ∀ j, j < k → wfOk (coRest L j) (j + 1) (-(coAt L j)) = true ∧ (coAt L j).natAbs < 2 ^ q j
  | 0, _ => ⟨h0, fun j hj => by omega⟩
  | k + 1, h => by
    obtain ⟨i1, i2⟩ := co_bd hl h0 hq hb k (by omega)
    have a := hq k (by omega)
    have c := hb k (by omega)
    have l := coRest_len L k
    have ca := a.2 i1
    have st := wf_step (L := coRest L k) (size := k + 1) (c := -(coAt L k)) (Nat.succ_pos k) i1 (by rw [Int.natAbs_neg]; exact ca) a.1 (by omega) (by rw [l]; exact c.1) c.2
    refine ⟨st.2, fun j hj => ?_⟩
    by_cases e : j = k
    · rw [e]; exact ⟨st.1, ca⟩
    · exact i2 j (by omega)
/-! ### small counts -/
theorem small_ser {C : List Int} {N : Nat} (hC : C.length ≤ 42) (hN : N ≤ 42) (hc : ∀ k, (cf C k).natAbs < 2 ^ 11) : seriesOk C N = true ∧ Bd (1 + 600 * C.length) (seriesOf C N) := by
  have a := ser_bd (C := C) (N := N) (q := fun _ => 11) (b := fun k => 1 + 600 * k) (by omega) (by omega) (fun k _ => ⟨by decide, hc k⟩) (fun k hk => by
    have d : N / (k + 1) ≤ 42 := Nat.le_trans (Nat.div_le_self _ _) hN
    constructor
    · show (11 + 1) * (N / (k + 1)) + (1 + 600 * k) + 7 ≤ 1 + 600 * (k + 1)
      omega
    · show 1 + 600 * (k + 1) ≤ 400000
      omega) C.length (Nat.le_refl _)
  exact ⟨seriesOk_by a.2, a.1⟩
theorem small_back {C : List Int} {N : Nat} (hC : C.length = N) (hN : N ≤ 42) (hc : ∀ k, (cf C k).natAbs < 2 ^ 11) : countsOk (seriesOf C N) = true := by
  have s := small_ser (C := C) (N := N) (by omega) hN hc
  have ls : (seriesOf C N).length = N + 1 := serAt_len _ _ _
  have cc : ∀ k, k + 1 < (seriesOf C N).length → coAt (seriesOf C N) k = cf C k := fun k hk => by
    rw [coAt_cs _ hk, ← countsOf_cf _ hk, counts_ser hC]
  have a := co_bd (L := seriesOf C N) (q := fun _ => 11) (b := fun k => 1 + 600 * C.length + 600 * k) (by omega) s.2 (fun k hk => ⟨by decide, fun _ => by rw [cc k hk]; exact hc k⟩) (fun k hk => by
    have d : ((seriesOf C N).length - 1) / (k + 1) ≤ 42 := Nat.le_trans (Nat.div_le_self _ _) (by omega)
    constructor
    · show (11 + 1) * (((seriesOf C N).length - 1) / (k + 1)) + (1 + 600 * C.length + 600 * k) + 7 ≤ 1 + 600 * C.length + 600 * (k + 1)
      omega
    · show 1 + 600 * C.length + 600 * (k + 1) ≤ 400000
      omega) N (by omega)
  exact countsOk_by fun j hj => (a.2 j (by omega)).1
/-! ### short series -/
/-- bits of what is left of a short series, and of the products of its counts -/
def bA : Nat → Nat
  | 0 => 135
  | k + 1 => (bA k + 1) * (7 / (k + 1)) + bA k + 7
def bB : Nat → Nat
  | 0 => 1
  | k + 1 => (bA k + 1) * (7 / (k + 1)) + bB k + 7
theorem bA_ok : ∀ k, k < 7 → bA (k + 1) ≤ 400000 ∧ 6 ≤ bA k := by decide
theorem bB_ok : ∀ k, k < 7 → bB (k + 1) ≤ 400000 := by decide
theorem short_co {L : List Int} (hl : L.length ≤ 8) (h1 : 1 ≤ L.length) (h0 : Bd 135 L) : countsOk L = true ∧ ∀ j, j + 1 < L.length → (coAt L j).natAbs < 2 ^ bA j := by
  have a := co_bd (L := L) (q := bA) (b := bA) (by omega) h0 (fun k hk => ⟨(bA_ok k (by omega)).2, fun h => h.cf (k + 1)⟩) (fun k hk => by
    refine ⟨?_, (bA_ok k (by omega)).1⟩
    show _ ≤ (bA k + 1) * (7 / (k + 1)) + bA k + 7
    have d : (L.length - 1) / (k + 1) ≤ 7 / (k + 1) := Nat.div_le_div_right (by omega)
    have := Nat.mul_le_mul_left (bA k + 1) d
    omega) (L.length - 1) (by omega)
  exact ⟨countsOk_by fun j hj => (a.2 j hj).1, fun j hj => (a.2 j (by omega)).2⟩
theorem short_ser {C : List Int} {N : Nat} (hC : C.length ≤ 7) (hN : N ≤ 7) (hc : ∀ k, k < C.length → (cf C k).natAbs < 2 ^ bA k) : seriesOk C N = true ∧ ∀ k, k ≤ C.length → Bd (bB k) (serAt C N k) := by
  have a := fun k => ser_bd (C := C) (N := N) (q := bA) (b := bB) (by omega) (by decide) (fun k hk => ⟨(bA_ok k (by omega)).2, hc k hk⟩) (fun k hk => by
    refine ⟨?_, bB_ok k (by omega)⟩
    show _ ≤ (bA k + 1) * (7 / (k + 1)) + bB k + 7
    have d : N / (k + 1) ≤ 7 / (k + 1) := Nat.div_le_div_right hN
    have := Nat.mul_le_mul_left (bA k + 1) d
    omega) k
  exact ⟨seriesOk_by (a C.length (Nat.le_refl _)).2, fun k hk => (a k hk).1⟩
end K8
namespace K8
/-! ### how fast series grow -/
theorem bn_small {s : Int} (hs : s.natAbs ≤ 1) : ∀ (m n : Nat) (e : Int), e.natAbs = n → (bn s e m).natAbs ≤ 2 ^ (n + m)
  | 0, n, e, _ => by
    rw [bn0]
    exact Nat.one_le_two_pow
  | m + 1, n, e, he => by
    have im := bn_small hs m
    have sx : ∀ x : Int, (s * x).natAbs ≤ x.natAbs := fun x => by
      rw [Int.natAbs_mul]
      exact Nat.le_trans (Nat.mul_le_mul_right _ hs) (by omega)
    induction n generalizing e with
    | zero =>
      obtain rfl : e = 0 := by omega
      rw [bn_z]
      exact Nat.zero_le _
    | succ n ih =>
      have d1 : 2 ^ (n + 1 + (m + 1)) = 2 ^ (n + (m + 1)) + 2 ^ (n + 1 + m) := by
        rw [show n + 1 + m = n + (m + 1) by omega, show n + 1 + (m + 1) = n + (m + 1) + 1 by omega, Nat.pow_succ]
        omega
      by_cases h : 0 ≤ e
      · have p := pascal s (e - 1) m
        rw [Int.sub_add_cancel] at p
        have a := ih (e - 1) (by omega)
        have b := Nat.le_trans (sx (bn s (e - 1) m)) (im n (e - 1) (by omega))
        have c : 2 ^ (n + m) ≤ 2 ^ (n + 1 + m) := Nat.pow_le_pow_right (by decide) (by omega)
        rw [p]
        omega
      · have p := pascal s e m
        have a := ih (e + 1) (by omega)
        have b := Nat.le_trans (sx (bn s e m)) (im (n + 1) e he)
        omega
theorem Fa_grow {p n u v w a t : Nat} {c : Int} {S : Sr} (hp : 0 < p) (hv : v ≤ w) (ht : n + 1 ≤ 2 ^ t) (hb : ∀ m, m ≤ n → (bn (sg p) (ex p c) m).natAbs ≤ 2 ^ (u + v * m)) (hS : ∀ i, i ≤ n → (S i).natAbs ≤ 2 ^ (a + w * i)) (i : Nat) (hi : i ≤ n) : (Fa p c S i).natAbs ≤ 2 ^ (a + u + t + w * i) := by
  have q := sm_bd (F := fun m => bn (sg p) (ex p c) m * S (i - m * p)) (B := 2 ^ (a + u + w * i)) (i / p + 1) (fun m hm => by
    have h1 : m ≤ i / p := by omega
    have h2 : m * p ≤ i := (Nat.le_div_iff_mul_le hp).mp h1
    have h3 : m ≤ m * p := Nat.le_mul_of_pos_right m hp
    rw [Int.natAbs_mul]
    refine Nat.le_trans (Nat.mul_le_mul (hb m (by omega)) (hS (i - m * p) (by omega))) ?_
    rw [← Nat.pow_add]
    refine Nat.pow_le_pow_right (by decide) ?_
    have e1 : w * (i - m * p) + w * (m * p) = w * i := by rw [← Nat.mul_add]; congr 1; omega
    have e2 : v * m ≤ w * (m * p) := Nat.mul_le_mul hv h3
    omega)
  refine Nat.le_trans q ?_
  have e : a + u + t + w * i = t + (a + u + w * i) := by omega
  rw [e, Nat.pow_add 2 t]
  refine Nat.mul_le_mul_right _ (Nat.le_trans ?_ ht)
  have := Nat.div_le_self i p
  omega
theorem Fa_zero (p : Nat) (S : Sr) : Fa p 0 S = S := by
  unfold Fa
  have e : ex p 0 = 0 := by
    have := ex_abs p 0
    omega
  rw [e, opE_zero]
theorem Pr_grow {c : Sr} {n w t N : Nat} {A : Nat → Nat} (ht : n + 1 ≤ 2 ^ t) (hA : ∀ k, k < N → (c k = 0 ∧ A k ≤ A (k + 1)) ∨ ∃ u v, v ≤ w ∧ A k + u + t ≤ A (k + 1) ∧ ∀ m, m ≤ n → (bn (sg (k + 1)) (ex (k + 1) (c k)) m).natAbs ≤ 2 ^ (u + v * m)) :
    ∀ k, k ≤ N → ∀ i, i ≤ n → (Pr c k dl i).natAbs ≤ 2 ^ (A k + w * i)
  | 0, _, i, _ => by
    rw [Pr, dl]
    split
    · exact Nat.one_le_two_pow
    · exact Nat.zero_le _
  | k + 1, hk, i, hi => by
    have ih := Pr_grow ht hA k (by omega)
    rw [Pr]
    rcases hA k (by omega) with ⟨h0, h1⟩ | ⟨u, v, hv, h1, hb⟩
    · rw [h0, Fa_zero]
      exact Nat.le_trans (ih i hi) (Nat.pow_le_pow_right (by decide) (by omega))
    · exact Nat.le_trans (Fa_grow (Nat.succ_pos k) hv ht hb ih i hi) (Nat.pow_le_pow_right (by decide) (by omega))
theorem big60 {x : Int} {b : Nat} (h : x.natAbs ≤ 2 ^ b) (hb : b ≤ 199) : -(10 ^ 60) < x ∧ x < 10 ^ 60 := by
  have a : 2 ^ b ≤ 2 ^ 199 := Nat.pow_le_pow_right (by decide) hb
  have c : (2 : Nat) ^ 199 < 10 ^ 60 := by decide
  omega
theorem mem_cf {L : List Int} {x : Int} (h : x ∈ L) : ∃ i, i < L.length ∧ cf L i = x := by
  obtain ⟨i, h1, h2⟩ := List.mem_iff_getElem.mp h
  exact ⟨i, h1, cf_of (List.getElem?_eq_some_iff.mpr ⟨h1, h2⟩)⟩
theorem cf_all {L : List Int} {p : Int → Prop} (h0 : p 0) (h : ∀ x ∈ L, p x) (k : Nat) : p (cf L k) := by
  by_cases c : k < L.length
  · exact h _ (List.mem_of_getElem? (cf_at c))
  · rw [cf_out (by omega)]
    exact h0
theorem counts_i60 {C : List Int} (hC : C.length ≤ 11) (hc : ∀ k, (cf C k).natAbs ≤ 1000) : ∀ x ∈ seriesOf C C.length, -(10 ^ 60) < x ∧ x < 10 ^ 60 := fun x hx => by
  obtain ⟨i, h1, rfl⟩ := mem_cf hx
  have l : (seriesOf C C.length).length = C.length + 1 := serAt_len _ _ _
  rw [seriesOf, serAt_cf _ _ _ _ (by omega)]
  have q := Pr_grow (c := cf C) (n := 11) (w := 11) (t := 4) (N := C.length) (A := fun k => 4 * k) (by decide) (fun k _ => .inr ⟨0, 11, Nat.le_refl _, by omega, fun m hm => by
    have := bn_bd (s := sg (k + 1)) (e := ex (k + 1) (cf C k)) (q := 10) (sg_abs _) (by rw [ex_abs]; exact Nat.lt_of_le_of_lt (hc k) (by decide)) (by decide) m (by omega)
    rw [Nat.zero_add]
    exact this⟩) C.length (Nat.le_refl _) i (by omega)
  exact big60 q (by show 4 * C.length + 11 * i ≤ 199; omega)
/-! ### the numbers of letters -/
def cM (S : List Int) (M : Nat) : List Int := (List.range M).map fun n : Nat => ((S.count (2 + (n : Int)) : Nat) : Int)
def gS (S : List Int) : Sr := fun n => ((S.count (2 + (n : Int)) : Nat) : Int)
theorem cM_cf (S : List Int) {M k : Nat} (h : k < M) : cf (cM S M) k = gS S k := cf_map _ h
theorem cM_len (S : List Int) (M : Nat) : (cM S M).length = M := by rw [cM, List.length_map, List.length_range]
theorem gS_zero {S : List Int} (h : ∀ d ∈ S, d ≤ 40) {k : Nat} (hk : 39 ≤ k) : gS S k = 0 := by
  have : S.count (2 + (k : Int)) = 0 := List.count_eq_zero.mpr fun z => by
    have := h _ z
    omega
  rw [gS, this]
  rfl
theorem Pr_stop {c : Sr} {k : Nat} (T : Sr) (h : ∀ j, k ≤ j → c j = 0) : ∀ m, Pr c (k + m) T = Pr c k T
  | 0 => rfl
  | m + 1 => by
    rw [← Nat.add_assoc, Pr, h _ (by omega), Fa_zero, Pr_stop T h m]
theorem same_ser {S : List Int} (h : ∀ d ∈ S, d ≤ 40) (M : Nat) : seriesOf (cM S 39) M = seriesOf (cM S M) M := by
  have l : ∀ C : List Int, (seriesOf C M).length = M + 1 := fun C => serAt_len _ _ _
  refine list_eq (by rw [l, l]) fun i hi => ?_
  rw [l] at hi
  rw [seriesOf, seriesOf, serAt_cf _ _ _ _ (by omega), serAt_cf _ _ _ _ (by omega), cM_len, cM_len, Pr_same (d := gS S) dl fun j hj => cM_cf S hj, Pr_same (c := cf (cM S M)) (d := gS S) dl fun j hj => cM_cf S hj]
  by_cases c : M ≤ 39
  · obtain ⟨m, hm⟩ : ∃ m, 39 = M + m := ⟨39 - M, by omega⟩
    rw [hm]
    exact Pr_more (gS S) (by omega) m
  · obtain ⟨m, rfl⟩ : ∃ m, M = 39 + m := ⟨M - 39, by omega⟩
    rw [Pr_stop dl (k := 39) (fun j hj => gS_zero h hj) m]
def tot (f : Nat → Nat) : Nat → Nat
  | 0 => 0
  | n + 1 => tot f n + f n
theorem tot_one (d : Int) : ∀ n, tot (fun j => if d = 2 + (j : Int) then 1 else 0) n ≤ 1 ∧ ((d < 2 ∨ 2 + (n : Int) ≤ d) → tot (fun j => if d = 2 + (j : Int) then 1 else 0) n = 0)
  | 0 => ⟨Nat.zero_le _, fun _ => rfl⟩
  | n + 1 => by
    obtain ⟨a, b⟩ := tot_one d n
    rw [tot]
    by_cases c : d = 2 + (n : Int)
    · rw [if_pos c, b (.inr (by omega))]
      exact ⟨Nat.le_refl _, fun z => by omega⟩
    · rw [if_neg c]
      exact ⟨a, fun z => b (by omega)⟩
theorem tot_add (f g : Nat → Nat) : ∀ n, tot (fun j => f j + g j) n = tot f n + tot g n
  | 0 => rfl
  | n + 1 => by
    rw [tot, tot, tot, tot_add f g n]
    omega
theorem tot_count : ∀ (S : List Int) (n : Nat), tot (fun j => S.count (2 + (j : Int))) n ≤ S.length
  | [], n => by
    have : ∀ n, tot (fun j => ([] : List Int).count (2 + (j : Int))) n = 0 := fun n => by
      induction n with
      | zero => rfl
      | succ n ih => rw [tot, ih, List.count_nil]
    rw [this]
    exact Nat.zero_le _
  | d :: S, n => by
    have e : (fun j : Nat => (d :: S).count (2 + (j : Int))) = fun j : Nat => S.count (2 + (j : Int)) + (if d = 2 + (j : Int) then 1 else 0) := by
      funext j
      rw [List.count_cons]
      congr 1
      by_cases c : d = 2 + (j : Int)
      · rw [if_pos c, c, if_pos (by simp)]
      · rw [if_neg c, if_neg (by simpa using c)]
    rw [e, tot_add]
    have a := tot_count S n
    have b := (tot_one d n).1
    rw [List.length_cons]
    omega
theorem letters_i60 {S : List Int} (hS : S.length ≤ 6) {M : Nat} (hM : M ≤ 41) : ∀ x ∈ seriesOf (cM S M) M, -(10 ^ 60) < x ∧ x < 10 ^ 60 := fun x hx => by
  obtain ⟨i, h1, rfl⟩ := mem_cf hx
  have l : (seriesOf (cM S M) M).length = M + 1 := serAt_len _ _ _
  rw [seriesOf, serAt_cf _ _ _ _ (by omega), cM_len, Pr_same (d := gS S) dl fun j hj => cM_cf S hj]
  have q := Pr_grow (c := gS S) (n := 41) (w := 1) (t := 6) (N := M) (A := fun k => 7 * tot (fun j => S.count (2 + (j : Int))) k) (by decide) (fun k _ => by
    by_cases c : S.count (2 + (k : Int)) = 0
    · refine .inl ⟨?_, ?_⟩
      · rw [gS, c]
        rfl
      · show _ ≤ 7 * (tot _ k + S.count (2 + (k : Int)))
        omega
    · refine .inr ⟨S.count (2 + (k : Int)), 1, Nat.le_refl _, ?_, fun m _ => ?_⟩
      · show _ ≤ 7 * (tot _ k + S.count (2 + (k : Int)))
        omega
      · have := bn_small (sg_abs (k + 1)) m (S.count (2 + (k : Int))) (ex (k + 1) (gS S k)) (by rw [ex_abs]; rfl)
        rw [Nat.one_mul]
        exact this) M (Nat.le_refl _) i (by omega)
  have := tot_count S M
  exact big60 q (by show 7 * tot _ M + 1 * i ≤ 199; omega)
theorem gS_small {S : List Int} (hS : S.length ≤ 6) (k : Nat) : 0 ≤ gS S k ∧ gS S k ≤ 6 := by
  have : S.count (2 + (k : Int)) ≤ S.length := List.count_le_length
  unfold gS
  omega
theorem cM_small {S : List Int} (hS : S.length ≤ 6) (M : Nat) : ∀ x ∈ cM S M, 0 ≤ x ∧ x ≤ 6 := fun x hx => by
  obtain ⟨n, _, rfl⟩ := List.mem_map.mp hx
  exact gS_small hS n
end K8
namespace K8
open PySem PySem.Spec PyProof.Rows L2
/-! ### the text -/
def topS (i : Nat) : Stmt := PySem.Challenge.pw_stepletters_k55_whole_loop_series_and_co.main.body.getD i (.Pass ⟨0, 0, 0, 0⟩)
abbrev sIsWhole : Stmt := topS 1
abbrev sIsInt : Stmt := topS 9
abbrev sBetween : Stmt := topS 10
abbrev sChkB : Stmt := topS 11
abbrev sOne : Stmt := topS 13
abbrev sIsLetters : Stmt := topS 17
abbrev sLoop : Stmt := topS 22
abbrev sCoS : Stmt := topS 23
abbrev sSoC : Stmt := topS 24
abbrev sCtsOf : Stmt := topS 25
abbrev sSerOf : Stmt := topS 26
abbrev sWF : Stmt := topS 27
abbrev sDice : Stmt := topS 29
abbrev sRoll : Stmt := topS 30
abbrev sPick : Stmt := topS 31
abbrev sNear : Stmt := topS 32
abbrev sChoose : Stmt := topS 33
abbrev sFactor : Stmt := topS 34
abbrev sTimes : Stmt := topS 35
abbrev sCounted : Stmt := topS 36
abbrev sSCounts : Stmt := topS 37
abbrev sLetR : Stmt := topS 38
abbrev sSerR : Stmt := topS 39
abbrev sCntR : Stmt := topS 40
abbrev sLaw : Stmt := topS 41
/-- what the top has written -/
structure Txt (K : PySem.W.Frag) (mg : Str → Option Value) : Prop where
  int : mg "int" = none
  bool : mg "bool" = none
  tuple : mg "tuple" = none
  list : mg "list" = none
  isi : mg "isinstance" = none
  len : mg "len" = none
  abs : mg "abs" = none
  max : mg "max" = none
  min : mg "min" = none
  range : mg "range" = none
  sum : mg "sum" = none
  all : mg "all" = none
  enumerate : mg "enumerate" = none
  repr : mg "repr" = none
  cLIMIT : ∃ t, mg "_LIMIT" = some (.int (10 ^ 60) t)
  cMAXLETTERS : ∃ t, mg "MAX_LETTERS" = some (.int (24) t)
  cMAXLETTER : ∃ t, mg "MAX_LETTER" = some (.int (40) t)
  cLOOP : ∃ t, mg "MOST_LOOP" = some (.int (60) t)
  cLEAST : ∃ t, mg "_LEAST_DEGREE" = some (.int (2) t)
  cCOUNT : ∃ t, mg "_MOST_COUNT" = some (.int (1000) t)
/-! ### the dice -/
/-- a list of three ints, the first one at least 0 -/
def DiceL (L : List V) : Prop := ∃ a b c : Int, L = [.int a, .int b, .int c] ∧ 0 ≤ a
def spRoll : Sp := fun vs H Q _ => ∃ (d : Addr) (n : Int) (L : List V), vs = [.ref d, .int n] ∧ 0 < n ∧ n.natAbs < 2 ^ 500 ∧ H d = some (.lst L) ∧ DiceL L ∧
  ∀ (i : Int) (L' : List V), 0 ≤ i → i < n → DiceL L' → Q (.int i) (upd H d (.lst L'))
theorem scRoll : FnScope ["dice", "total", "found", "one", "two"] ["dice", "total"] (defScope sRoll) := ⟨rfl, rfl, rfl, by decide +kernel, rfl, by decide +kernel, by decide +kernel⟩
theorem bootInt : bootBuiltins "int" = some (.type "int") := by decide +kernel
section
variable {P : Program} {w : World} {K : PySem.W.Frag} {mg : Str → Option Value} {base : Heap}
theorem ok_roll {f : Addr} {fd : FuncData} (F : Fun K "_law_roll" "_law_roll" sRoll f fd) (T : Txt K mg) : FnOk P w K mg base CX0 1 f fd ["dice", "total"] spRoll := by
  refine F.ok scRoll (fun vs H Q E h => ?_) (fun cdv A outer s H vs Q E hr h => ?_)
  · obtain ⟨d, n, L, rfl, _⟩ := h; rfl
  obtain ⟨d, n, L, rfl, hn, hb, hd, ⟨a, b, c, rfl, ha⟩, k⟩ := h
  refine ⟨_, pss_cons (ps_if (pt_cmpR op_gt (pe_ix ix_list (pv 0) pe_int (fun _ _ => rfl)) pe_int (nomark _))
      (pss_cons (ps_set (i := 2) scRoll.nd rfl (.inl rfl) (pe_op op_mod (pe_callTy call_int1 (by rfl) T.int bootInt (pa_cons (pe_ix ix_list (pv 0) pe_int (fun _ _ => rfl)) pa_nil)) (pv 1)))
      (pss_cons (ps_asg (pe_op op_fdivW (pe_ix ix_list (pv 0) pe_int (fun _ _ => rfl)) (pv 1)) (pg_sub (pv 0) pe_int set_list))
      (pss_one (ps_ret (pv 2))))) pss_nil)
    (pss_cons (ps_asg (pe_op op_add (pe_ix ix_list (pv 0) pe_int (fun _ _ => rfl)) pe_int) (pg_sub (pv 0) pe_int set_list))
    (pss_cons (ps_set (i := 3) scRoll.nd rfl (.inl rfl) (pe_op op_mod (pe_callTy call_int1 (by rfl) T.int bootInt (pa_cons (pe_op op_add (pe_ix ix_list (pv 0) pe_int (fun _ _ => rfl)) (pe_op op_mul pe_int (pe_ix ix_list (pv 0) pe_int (fun _ _ => rfl)))) pa_nil)) pe_int))
    (pss_cons (ps_set (i := 4) scRoll.nd rfl (.inl rfl) (pe_op op_add (pe_op op_mul (pe_op op_mod (pe_callTy call_int1 (by rfl) T.int bootInt (pa_cons (pe_op op_add (pe_op op_mul (pv 3) (pv 3)) (pe_op op_mul pe_int (pe_ix ix_list (pv 0) pe_int (fun _ _ => rfl)))) pa_nil)) pe_int) pe_int) (pv 3)))
    (pss_one (ps_ret (pe_op op_mod (pe_callTy call_int1 (by rfl) T.int bootInt (pa_cons (pe_op op_fdiv (pv 4) pe_int) pa_nil)) (pv 1))))))), ?_⟩
  have S := SqL.of (K := K) hd
  refine ⟨_, rfl, d, _, _, _, rfl, rfl, S, rfl, _, _, rfl, rfl, _, rfl, ?_⟩
  refine ite2 (fun c0 => ?_) (fun c0 => ?_)
  · refine ⟨_, rfl, d, _, _, _, rfl, rfl, S, rfl, .inl ⟨_, rfl, _, rfl, _, _, rfl, rfl, hn, ?_⟩⟩
    refine ⟨_, rfl, d, _, _, _, rfl, rfl, S, rfl, _, rfl, _, _, rfl, rfl, wide_div hn hb (by decide) (by decide), _, rfl, d, _, _, 0, rfl, rfl, hd, rfl, _, rfl, ?_⟩
    refine k _ _ (Int.emod_nonneg _ (by omega)) (Int.emod_lt_of_pos _ hn) ⟨_, _, _, rfl, ?_⟩
    exact Int.ediv_nonneg ha (by omega)
  · refine ⟨_, rfl, d, _, _, _, rfl, rfl, S, rfl, _, _, rfl, rfl, _, rfl, d, _, _, 2, rfl, rfl, hd, rfl, ?_⟩
    have S2 := SqL.of (K := K) (upd_same (H := H) (a := d) (o := .lst [.int a, .int b, .int (c + 1)]))
    refine ⟨_, rfl, d, _, _, _, rfl, rfl, S2, rfl, _, rfl, d, _, _, _, rfl, rfl, S2, rfl, _, _, rfl, rfl, .inl ⟨by decide, by decide⟩, _, _, rfl, rfl, .inl ⟨_, rfl, _, _, rfl, rfl, (by show (0 : Int) < 2305843009213693723; decide), ?_⟩⟩
    have m1 := Int.emod_lt_of_pos (b + 67867979 * (c + 1)) (show (0 : Int) < 2305843009213693723 by decide)
    have m0 := Int.emod_nonneg (b + 67867979 * (c + 1)) (show (2305843009213693723 : Int) ≠ 0 by decide)
    generalize ez : (b + 67867979 * (c + 1)) % 2305843009213693723 = z at *
    refine ⟨_, rfl, _, rfl, _, _, rfl, rfl, .inl ⟨by omega, by omega⟩, _, rfl, d, _, _, _, rfl, rfl, S2, rfl, _, _, rfl, rfl, .inl ⟨by decide, by decide⟩, _, _, rfl, rfl, .inl ⟨_, rfl, _, _, rfl, rfl, (by show (0 : Int) < 2305843009213693549; decide), ?_⟩⟩
    have y1 := Int.emod_lt_of_pos (z * z + 103 * (c + 1)) (show (0 : Int) < 2305843009213693549 by decide)
    have y0 := Int.emod_nonneg (z * z + 103 * (c + 1)) (show (2305843009213693549 : Int) ≠ 0 by decide)
    generalize ey : (z * z + 103 * (c + 1)) % 2305843009213693549 = y at *
    refine ⟨_, _, rfl, rfl, .inl ⟨by omega, by omega⟩, _, rfl, _, _, rfl, rfl, ?_⟩
    refine ⟨_, rfl, _, _, rfl, rfl, ⟨by decide, by decide⟩, .inl ⟨_, rfl, _, rfl, _, _, rfl, rfl, hn, ?_⟩⟩
    exact k _ _ (Int.emod_nonneg _ (by omega)) (Int.emod_lt_of_pos _ hn) ⟨_, _, _, rfl, ha⟩
end

theorem bootMax : bootBuiltins "max" = some (.builtin "max") := by decide +kernel
theorem bootAbs : bootBuiltins "abs" = some (.builtin "abs") := by decide +kernel
theorem bootStr : bootBuiltins "str" = some (.type "str") := by decide +kernel
/-! ### making, picking, near -/
def spDice (K : PySem.W.Frag) : Sp := fun vs H Q _ => ∃ (a : Addr) (i : Int) (ns : List Int), vs = [.ref a, .int i] ∧ SqL K H a (ns.map V.int) ∧ 0 ≤ i ∧
  ∀ (L : List V) (p : Addr), DiceL L → H p = none → Q (.ref p) (upd H p (.lst L))
def spPick : Sp := fun vs H Q _ => ∃ (d l : Addr) (xs L : List V), vs = [.ref d, .ref l] ∧ H d = some (.lst L) ∧ DiceL L ∧ H l = some (.lst xs) ∧ l ≠ d ∧ xs ≠ [] ∧ xs.length < 1000 ∧
  ∀ (x : V) (L' : List V), x ∈ xs → DiceL L' → Q x (upd H d (.lst L'))
theorem scDice : FnScope ["script", "spot", "cell", "left"] ["script", "spot"] (defScope sDice) := ⟨rfl, rfl, rfl, by decide +kernel, rfl, by decide +kernel, by decide +kernel⟩
theorem scPick : FnScope ["dice", "items"] ["dice", "items"] (defScope sPick) := ⟨rfl, rfl, rfl, by decide +kernel, rfl, by decide +kernel, by decide +kernel⟩
section
variable {P : Program} {w : World} {K : PySem.W.Frag} {mg : Str → Option Value} {base : Heap}
theorem ok_dice {f : Addr} {fd : FuncData} (F : Fun K "_law_dice" "_law_dice" sDice f fd) (T : Txt K mg) : FnOk P w K mg base CX0 1 f fd ["script", "spot"] (spDice K) := by
  refine F.ok scDice (fun vs H Q E h => ?_) (fun cdv A outer s H vs Q E hr h => ?_)
  · obtain ⟨d, n, L, rfl, _⟩ := h; rfl
  obtain ⟨a, i, ns, rfl, hS, hi, k⟩ := h
  refine ⟨_, pss_cons (ps_set (i := 2) scDice.nd rfl (.inl rfl) (pe_ifExp (pt_cmpR op_lt (pv 1) (pe_callB call_len_seq (by rfl) T.len PySem.boot_len (pa_cons (pv 0) pa_nil)) (nomark _))
      (pe_callTy call_int1 (by rfl) T.int bootInt (pa_cons (pe_ix ix_list (pv 0) (pv 1) (fun _ _ => rfl)) pa_nil)) (pe_op op_add (pe_op op_mul pe_int (pv 1)) pe_int)))
    (pss_cons (ps_set (i := 3) scDice.nd rfl (.inl rfl) (pe_op op_mod (pe_callB (call_max2 rfl) (by rfl) T.max bootMax (pa_cons pe_int (pa_cons (pe_op op_sub (pe_callB call_abs (by rfl) T.abs bootAbs (pa_cons (pv 2) pa_nil)) (pe_op op_pow pe_int pe_int)) pa_nil)))
        (pe_op op_mulW (pe_op op_pow pe_int pe_int) (pe_op op_pow pe_int pe_int))))
    (pss_one (ps_ret (pe_lst (pa_cons (pv 3) (pa_cons (pe_op op_add (pe_op op_add (pe_op op_add (pe_op op_mul (pe_op op_mod (pe_callB call_abs (by rfl) T.abs bootAbs (pa_cons (pv 2) pa_nil)) pe_int) pe_int) (pe_op op_mul pe_int (pv 1)))
        (pe_op op_mul pe_int (pe_callTy call_int1 (by rfl) T.int bootInt (pa_cons (pe_cmpR op_lt (pv 2) pe_int (nomark _)) pa_nil)))) pe_int) (pa_cons pe_int pa_nil))))))), ?_⟩
  have rest : ∀ (c : Int), tSeq (tAsg (tOp (rI (fun _ j => 0 < j) fun i j => .int (i % j)) (tCB (fun xs H Q => ∃ i j, xs = [.int i, .int j] ∧ Q (.int (if j > i then j else i)) H) (tCons (tC (.int 0)) (tCons (tOp (rI0 fun i j => .int (i - j)) (tCB (fun xs H Q => ∃ i, xs = [.int i] ∧ Q (.int (if i < 0 then -i else i)) H) (tCons (tVar 2) tNil)) (tOp (rI CPow fun i j => .int (i ^ j.toNat)) (tC (.int 10)) (tC (.int 17)))) tNil)))
        (tOp (rI CMulW fun i j => .int (i * j)) (tOp (rI CPow fun i j => .int (i ^ j.toNat)) (tC (.int 10)) (tC (.int 58))) (tOp (rI CPow fun i j => .int (i ^ j.toNat)) (tC (.int 10)) (tC (.int 60))))) (gName 3))
      (tRet (tLst (tCons (tVar 3) (tCons (tOp (rI0 fun i j => .int (i + j)) (tOp (rI0 fun i j => .int (i + j)) (tOp (rI0 fun i j => .int (i + j)) (tOp (rI CMul fun i j => .int (i * j)) (tOp (rI (fun _ j => 0 < j) fun i j => .int (i % j)) (tCB (fun xs H Q => ∃ i, xs = [.int i] ∧ Q (.int (if i < 0 then -i else i)) H) (tCons (tVar 2) tNil)) (tC (.int 1152921504606846883))) (tC (.int 67))) (tOp (rI CMul fun i j => .int (i * j)) (tC (.int 937)) (tVar 1)))
        (tOp (rI CMul fun i j => .int (i * j)) (tC (.int 37)) (tCB (fun xs H Q => (∃ i, xs = [.int i] ∧ Q (.int i) H) ∨ ∃ k, xs = [.bl k] ∧ Q (.int (if k then 1 else 0)) H) (tCons (tOp (rI0 fun i j => .bl (decide (i < j))) (tVar 2) (tC (.int 0))) tNil)))) (tC (.int 29))) (tCons (tC (.int 0)) tNil)))))
      { nx := fun _ H' => Q .non H', rt := Q } [some (.ref a), some (.int i), some (.int c), none] H := fun c => by
    have pw : ∀ k : Int, 0 ≤ k → k ≤ 1000000 → CPow 10 k := fun k h1 h2 => ⟨h1, h2, by decide⟩
    refine ⟨_, rfl, _, rfl, _, _, rfl, rfl, pw _ (by decide) (by decide), _, _, rfl, rfl, _, _, rfl, _, _, rfl, rfl, pw _ (by decide) (by decide), _, _, rfl, rfl, pw _ (by decide) (by decide), _, _, rfl, rfl,
      wide_mul (i := 10 ^ (58 : Int).toNat) (j := 10 ^ (60 : Int).toNat) (a := 300) (b := 300) (by decide +kernel) (by decide +kernel) (by decide) (by decide) (by decide), _, _, rfl, rfl, (by show (0 : Int) < 10 ^ (58 : Int).toNat * 10 ^ (60 : Int).toNat; decide +kernel), ?_⟩
    have nn := Int.emod_nonneg (if (if c < 0 then -c else c) - 10 ^ (17 : Int).toNat > 0 then (if c < 0 then -c else c) - 10 ^ (17 : Int).toNat else 0) (show (10 : Int) ^ (58 : Int).toNat * 10 ^ (60 : Int).toNat ≠ 0 by decide +kernel)
    have m1 := Int.emod_lt_of_pos (if c < 0 then -c else c) (show (0 : Int) < 1152921504606846883 by decide)
    have m0 := Int.emod_nonneg (if c < 0 then -c else c) (show (1152921504606846883 : Int) ≠ 0 by decide)
    refine ⟨_, rfl, _, rfl, _, rfl, _, _, rfl, rfl, (by show (0 : Int) < 1152921504606846883; decide), _, _, rfl, rfl, .inr ⟨by decide, by decide⟩, _, rfl, _, _, rfl, rfl, .inl ⟨by decide, by decide⟩, _, _, rfl, rfl, _, rfl, _, _, rfl, rfl, .inr ⟨_, rfl, _, _, rfl, rfl, .inl ⟨by decide, by decide⟩, _, _, rfl, rfl, _, _, rfl, rfl, ?_⟩⟩
    exact ⟨by show 3 ≤ sizeLine; decide, fun p hp => k _ p ⟨_, _, _, rfl, nn⟩ hp⟩
  refine ⟨_, rfl, _, rfl, a, _, rfl, .inl hS, _, _, rfl, rfl, _, rfl, ?_⟩
  refine ite2 (fun c0 => ?_) (fun c0 => ?_)
  · have c1 : i < ((ns.map V.int).length : Int) := of_decide_eq_true c0
    rw [List.length_map] at c1
    have c2 : i.toNat < ns.length := by omega
    have e : (ns.map V.int)[i.toNat]? = some (.int ns[i.toNat]) := by rw [List.getElem?_map, List.getElem?_eq_getElem c2]; rfl
    exact ⟨_, rfl, _, rfl, a, _, _, _, rfl, rfl, hS, at_of (by omega) e, .inl ⟨_, rfl, rest _⟩⟩
  · exact ⟨_, rfl, _, _, rfl, rfl, .inl ⟨by decide, by decide⟩, _, _, rfl, rfl, rest _⟩
theorem ok_pick {f fR : Addr} {fd fdR : FuncData} (F : Fun K "_law_pick" "_law_pick" sPick f fd) (T : Txt K mg) (gR : mg "_law_roll" = some (.ref fR)) (kR : PySem.W.keepIn K (.ref fR) = true) (bR : Binds K fdR ["dice", "total"] [])
    (R : FnOk P w K mg base CX0 1 fR fdR ["dice", "total"] spRoll) : FnOk P w K mg base CX0 2 f fd ["dice", "items"] spPick := by
  refine F.ok scPick (fun vs H Q E h => ?_) (fun cdv A outer s H vs Q E hr h => ?_)
  · obtain ⟨d, n, L, M, rfl, _⟩ := h; rfl
  obtain ⟨d, l, xs, L, rfl, hd, hL, hl, ne, h0, hz, k⟩ := h
  refine ⟨_, pss_one (ps_ret (pe_ix ix_list (pv 1) (pe_call R hr (by rfl) gR kR bR .nil pass0 (pa_cons (pv 0) (pa_cons (pe_callB call_len_seq (by rfl) T.len PySem.boot_len (pa_cons (pv 1) pa_nil)) pa_nil))) (fun _ _ => rfl))), ?_⟩
  have hp : 0 < xs.length := List.length_pos_iff.mpr h0
  refine ⟨_, rfl, _, rfl, _, rfl, l, _, rfl, .inl (SqL.of hl), d, (xs.length : Int), L, rfl, by omega, Nat.lt_trans (by omega : (xs.length : Int).natAbs < 1000) (by decide), hd, hL, fun i L' i0 i1 hL' => ?_⟩
  have hx : xs[i.toNat]? = some xs[i.toNat] := List.getElem?_eq_getElem (by omega)
  exact ⟨l, _, _, _, rfl, rfl, SqL.of (by rw [upd_ne ne]; exact hl), at_of (by omega) hx, k _ L' (List.getElem_mem _) hL'⟩

end
end K8
namespace K8
open PySem PySem.Spec PyProof.Rows L2
/-! ### values of any kind -/
inductive Vk (K : PySem.W.Frag) (H : Hp) : V → Prop
  | non : Vk K H .non
  | bl (b : Bool) : Vk K H (.bl b)
  | int (i : Int) : Vk K H (.int i)
  | str (z : Str) : Vk K H (.str z)
  | tup {a : Addr} {xs : List V} (h : SqT K H a xs) : Vk K H (.ref a)
  | lst {a : Addr} {xs : List V} (h : H a = some (.lst xs)) : Vk K H (.ref a)
  | dic {a : Addr} {kvs : List (Key × V)} (h : H a = some (.dK kvs)) : Vk K H (.ref a)
def isI : V → Bool
  | .int _ => true
  | _ => false
theorem tyT {K : PySem.W.Frag} {H : Hp} {a : Addr} {xs : List V} (h : SqT K H a xs) : TyX K H (.ref a) (.type "tuple") := by
  rcases h with (h | ⟨o, h⟩) | ⟨o, its, n, h1, h2, _⟩
  · exact .base (.tup h)
  · exact .fTuple h
  · exact .kTuple h1 h2
/-- the name of the type, and what isinstance says of int, bool and tuple -/
def isT : V → Bool
  | .ref _ => true
  | _ => false
theorem vk_ty {K : PySem.W.Frag} {H : Hp} {x : V} (h : Vk K H x) : ∃ T : String, TyX K H x (.type T) ∧ ∃ bi bb : Bool, kitB T "int" = some bi ∧ kitB T "bool" = some bb ∧ (bi && !bb) = isI x := by
  cases h with
  | non => exact ⟨"NoneType", .base .non, false, false, by decide +kernel, by decide +kernel, rfl⟩
  | bl b => exact ⟨"bool", .base (.bl _), true, true, by decide +kernel, by decide +kernel, rfl⟩
  | int i => exact ⟨"int", .base (.int _), true, false, by decide +kernel, by decide +kernel, rfl⟩
  | str z => exact ⟨"str", .base (.str _), false, false, by decide +kernel, by decide +kernel, rfl⟩
  | tup h => exact ⟨"tuple", tyT h, false, false, by decide +kernel, by decide +kernel, rfl⟩
  | lst h => exact ⟨"list", .base (.lst h), false, false, by decide +kernel, by decide +kernel, rfl⟩
  | dic h => exact ⟨"dict", .base (.dK h), false, false, by decide +kernel, by decide +kernel, rfl⟩
/-- integers of at most sixty digits -/
def i60 : V → Bool
  | .int i => decide (-(10 ^ 60) < i) && decide (i < 10 ^ 60)
  | _ => false
def spIsWhole (K : PySem.W.Frag) : Sp := fun vs H Q _ => ∃ x : V, vs = [x] ∧ Vk K H x ∧ Q (.bl (isI x)) H
def spIsInt (K : PySem.W.Frag) : Sp := fun vs H Q _ => ∃ x : V, vs = [x] ∧ Vk K H x ∧ Q (.bl (i60 x)) H
theorem scIsWhole : FnScope ["value"] ["value"] (defScope sIsWhole) := ⟨rfl, rfl, rfl, by decide +kernel, rfl, by decide +kernel, by decide +kernel⟩
theorem scIsInt : FnScope ["value"] ["value"] (defScope sIsInt) := ⟨rfl, rfl, rfl, by decide +kernel, rfl, by decide +kernel, by decide +kernel⟩
theorem bootIsi : bootBuiltins "isinstance" = some (.builtin "isinstance") := by decide +kernel
theorem bootBool : bootBuiltins "bool" = some (.type "bool") := by decide +kernel
theorem bootTuple : bootBuiltins "tuple" = some (.type "tuple") := by decide +kernel
def betw (x : V) (a b : Int) : Bool := match x with
  | .int i => i60 (.int i) && (decide (a ≤ i) && decide (i ≤ b))
  | _ => false
def spBetw (K : PySem.W.Frag) : Sp := fun vs H Q _ => ∃ (x : V) (a b : Int), vs = [x, .int a, .int b] ∧ Vk K H x ∧ Q (.bl (betw x a b)) H
theorem scBetw : FnScope ["value", "least", "most"] ["value", "least", "most"] (defScope sBetween) := ⟨rfl, rfl, rfl, by decide +kernel, rfl, by decide +kernel, by decide +kernel⟩
section
variable {P : Program} {w : World} {K : PySem.W.Frag} {mg : Str → Option Value} {base : Heap}
theorem ok_iswhole {f : Addr} {fd : FuncData} (F : Fun K "is_whole" "is_whole" sIsWhole f fd) (T : Txt K mg) : FnOk P w K mg base CX0 1 f fd ["value"] (spIsWhole K) := by
  refine F.ok scIsWhole (fun vs H Q E h => ?_) (fun cdv A outer s H vs Q E hr h => ?_)
  · obtain ⟨a, rfl, _⟩ := h; rfl
  obtain ⟨x, rfl, hx, k⟩ := h
  refine ⟨_, pss_one (ps_ret (pe_and (pe_callB call_isi (by rfl) T.isi bootIsi (pa_cons (pv 0) (pa_cons (pe_bltn (v := .ty "int") (by rfl) T.int bootInt rfl) pa_nil)))
    (pe_one (pe_not (pe_callB call_isi (by rfl) T.isi bootIsi (pa_cons (pv 0) (pa_cons (pe_bltn (v := .ty "bool") (by rfl) T.bool bootBool rfl) pa_nil))))))), ?_⟩
  obtain ⟨Ty, ty, bi, bb, e1, e2, e3⟩ := vk_ty hx
  refine ⟨_, rfl, x, _, _, _, bi, rfl, .ty "int", ty, kit_ty e1, _, rfl, ?_⟩
  cases bi with
  | false =>
    refine iteF ?_
    have e4 : isI x = false := by rw [← e3]; rfl
    rw [← e4]
    exact k
  | true =>
    refine iteT ⟨_, rfl, x, _, _, _, bb, rfl, .ty "bool", ty, kit_ty e2, _, rfl, ?_⟩
    have e4 : isI x = !bb := by rw [← e3]; rfl
    rw [← e4]
    exact k
theorem ok_isint {f fW : Addr} {fd fdW : FuncData} (F : Fun K "is_integer" "is_integer" sIsInt f fd) (T : Txt K mg) (gW : mg "is_whole" = some (.ref fW)) (kW : PySem.W.keepIn K (.ref fW) = true) (bW : Binds K fdW ["value"] [])
    (W : FnOk P w K mg base CX0 1 fW fdW ["value"] (spIsWhole K)) : FnOk P w K mg base CX0 2 f fd ["value"] (spIsInt K) := by
  refine F.ok scIsInt (fun vs H Q E h => ?_) (fun cdv A outer s H vs Q E hr h => ?_)
  · obtain ⟨a, rfl, _⟩ := h; rfl
  obtain ⟨x, rfl, hx, k⟩ := h
  obtain ⟨t, hB⟩ := T.cLIMIT
  refine ⟨_, pss_one (ps_ret (pe_and (pe_call W hr (by rfl) gW kW bW .nil pass0 (pa_cons (pv 0) pa_nil))
    (pe_one (pe_chain op_lt op_lt (pe_un un_neg (pe_glob (v := .int (10 ^ 60)) (by rfl) hB ⟨_, rfl⟩)) (pv 0) (pe_glob (v := .int (10 ^ 60)) (by rfl) hB ⟨_, rfl⟩))))), ?_⟩
  refine ⟨_, rfl, x, rfl, hx, _, rfl, ?_⟩
  cases x with
  | int i =>
    refine iteT ⟨_, rfl, _, rfl, _, _, rfl, rfl, _, rfl, ?_⟩
    have q : Q (.bl (decide (-(10 ^ 60) < i) && decide (i < 10 ^ 60))) H := k
    by_cases c : -(10 ^ 60 : Int) < i
    · rw [decide_eq_true c] at q ⊢
      exact iteT ⟨_, _, rfl, rfl, q⟩
    · rw [decide_eq_false c] at q ⊢
      exact iteF q
  | non => exact iteF k
  | bl b => exact iteF k
  | str z => exact iteF k
  | byt z => exact iteF k
  | flt z => exact iteF k
  | ref a => exact iteF k
  | ty n => exact iteF k
theorem ok_betw {f fW : Addr} {fd fdW : FuncData} (F : Fun K "is_between" "is_between" sBetween f fd) (gW : mg "is_integer" = some (.ref fW)) (kW : PySem.W.keepIn K (.ref fW) = true) (bW : Binds K fdW ["value"] [])
    (W : FnOk P w K mg base CX0 2 fW fdW ["value"] (spIsInt K)) : FnOk P w K mg base CX0 3 f fd ["value", "least", "most"] (spBetw K) := by
  refine F.ok scBetw (fun vs H Q E h => ?_) (fun cdv A outer s H vs Q E hr h => ?_)
  · obtain ⟨a, b, c, rfl, _⟩ := h; rfl
  obtain ⟨x, a, b, rfl, hx, k⟩ := h
  refine ⟨_, pss_one (ps_ret (pe_and (pe_call W hr (by rfl) gW kW bW .nil pass0 (pa_cons (pv 0) pa_nil)) (pe_one (pe_chain op_le op_le (pv 1) (pv 0) (pv 2))))), ?_⟩
  refine ⟨_, rfl, x, rfl, hx, _, rfl, ?_⟩
  cases x with
  | int i =>
    have q : Q (.bl (i60 (.int i) && (decide (a ≤ i) && decide (i ≤ b)))) H := k
    cases c0 : i60 (.int i) with
    | false =>
      rw [c0] at q
      exact iteF q
    | true =>
      rw [c0] at q
      refine iteT ⟨_, rfl, _, rfl, _, _, rfl, rfl, _, rfl, ?_⟩
      by_cases c : a ≤ i
      · rw [decide_eq_true c] at q ⊢
        exact iteT ⟨_, rfl, _, _, rfl, rfl, q⟩
      · rw [decide_eq_false c] at q ⊢
        exact iteF q
  | non => exact iteF k
  | bl b => exact iteF k
  | str z => exact iteF k
  | byt z => exact iteF k
  | flt z => exact iteF k
  | ref a => exact iteF k
  | ty n => exact iteF k
end
end K8
namespace K8
open PySem PySem.Spec PyProof.Rows L2
theorem _root_.L2.Same.new {H : Hp} {p : Addr} {o : HO} (h : H p = none) : Same H (upd H p o) := fun b u e => by
  rw [upd_ne (ne_of_none e h)]
  exact e
theorem Vk.mono {K : PySem.W.Frag} {H H' : Hp} {x : V} (h : Vk K H x) (s : Same H H') : Vk K H' x := by
  cases h with
  | non => exact .non
  | bl b => exact .bl b
  | int i => exact .int i
  | str z => exact .str z
  | tup h =>
    rcases h with (h | ⟨o, h⟩) | h
    · exact .tup (.inl (.inl (s _ _ h)))
    · exact .tup (.inl (.inr ⟨o, s _ _ h⟩))
    · exact .tup (.inr h)
  | lst h => exact .lst (s _ _ h)
  | dic h => exact .dic (s _ _ h)
theorem tupSame {K : PySem.W.Frag} {H H' : Hp} {a : Addr} {xs : List V} (s : Same H H') (h : SqT K H a xs) : SqT K H' a xs := by
  rcases h with (h | ⟨o, h⟩) | h
  · exact .inl (.inl (s _ _ h))
  · exact .inl (.inr ⟨o, s _ _ h⟩)
  · exact .inr h
theorem bootAll : bootBuiltins "all" = some (.builtin "all") := by decide +kernel
theorem bootSum : bootBuiltins "sum" = some (.builtin "sum") := by decide +kernel
theorem bootList : bootBuiltins "list" = some (.type "list") := by decide +kernel
theorem bootMin : bootBuiltins "min" = some (.builtin "min") := by decide +kernel
/-- what is_letters says -/
inductive LetIs (K : PySem.W.Frag) (H : Hp) : V → Bool → Prop
  | non : LetIs K H .non false
  | bl (b : Bool) : LetIs K H (.bl b) false
  | int (i : Int) : LetIs K H (.int i) false
  | str (z : Str) : LetIs K H (.str z) false
  | lst {a : Addr} {xs : List V} (h : H a = some (.lst xs)) : LetIs K H (.ref a) false
  | dic {a : Addr} {kvs : List (Key × V)} (h : H a = some (.dK kvs)) : LetIs K H (.ref a) false
  | long {a : Addr} {xs : List V} (h : SqT K H a xs) (n : 24 < xs.length) : LetIs K H (.ref a) false
  | tup {a : Addr} {xs : List V} (h : SqT K H a xs) (n : xs.length ≤ 24) (v : ∀ x ∈ xs, Vk K H x) : LetIs K H (.ref a) (xs.all fun x => betw x 1 40)
def spIsLet (K : PySem.W.Frag) : Sp := fun vs H Q _ => ∃ (x : V) (b : Bool), vs = [x] ∧ LetIs K H x b ∧ ∀ H', Same H H' → Q (.bl b) H'
theorem scIsLet : FnScope ["value", "degree"] ["value"] (defScope sIsLetters) := ⟨rfl, rfl, rfl, by decide +kernel, rfl, by decide +kernel, by decide +kernel⟩
/-- the list that a comprehension of booleans makes, behind i turns -/
def blT (f : V → Bool) (xs : List V) : HO := .lst (xs.map fun x => V.bl (f x))
theorem take_snoc {α : Type} {xs : List α} {i : Nat} {x : α} (h : xs[i]? = some x) : xs.take (i + 1) = xs.take i ++ [x] := by
  rw [List.take_add_one, h]
  rfl
section
variable {P : Program} {w : World} {K : PySem.W.Frag} {mg : Str → Option Value} {base : Heap}
theorem ok_isletters {f fB : Addr} {fd fdB : FuncData} (F : Fun K "is_letters" "is_letters" sIsLetters f fd) (T : Txt K mg) (gB : mg "is_between" = some (.ref fB)) (kB : PySem.W.keepIn K (.ref fB) = true) (bB : Binds K fdB ["value", "least", "most"] [])
    (B : FnOk P w K mg base CX0 3 fB fdB ["value", "least", "most"] (spBetw K)) : FnOk P w K mg base CX0 4 f fd ["value"] (spIsLet K) := by
  refine F.ok scIsLet (fun vs H Q E h => ?_) (fun cdv A outer s H vs Q E hr h => ?_)
  · obtain ⟨a, b, rfl, _⟩ := h; rfl
  obtain ⟨x, b, rfl, hx, k⟩ := h
  obtain ⟨t1, m1⟩ := T.cMAXLETTERS
  obtain ⟨t2, m2⟩ := T.cMAXLETTER
  refine ⟨_, pss_cons (ps_if (PW.pt (pw_or (pt_not (pt_val (pe_callB call_isi (by rfl) T.isi bootIsi (pa_cons (pv 0) (pa_cons (pe_bltn (v := .ty "tuple") (by rfl) T.tuple bootTuple rfl) pa_nil)))))
        (pw_or1 (pt_cmpR op_gt (pe_callB call_len_seq (by rfl) T.len PySem.boot_len (pa_cons (pv 0) pa_nil)) (pe_glob (v := .int 24) (by rfl) m1 ⟨_, rfl⟩) (nomark _))))) (pss_one (ps_ret pe_bl)) pss_nil)
    (pss_one (ps_ret (pe_callB (cr_all rfl) (by rfl) T.all bootAll (pa_cons (pe_lc (own := [("degree", 1)]) (g := gName 1) rfl scIsLet.nd (pi_tup (pv 0)) (blkOk_by (N := ["value", "degree"]) (sc := defScope sIsLetters) (by decide +kernel)) (fun _ _ _ _ _ => pg_name (i := 1) scIsLet.nd rfl (Or.inl rfl)) (fun _ _ _ _ _ => pts_nil)
      (fun _ _ _ _ _ => pe_call B hr (by rfl) gB kB bB .nil pass0 (by exact (pa_cons (pv 1) (pa_cons pe_int (pa_cons (pe_glob (v := .int 40) (by rfl) m2 ⟨_, rfl⟩) pa_nil)))))) pa_nil)))), ?_⟩
  have no := k H (Same.refl H)
  cases hx with
  | non => exact ⟨_, rfl, _, _, _, _, false, rfl, .ty "tuple", .base .non, kit_ty (by decide +kernel), _, rfl, iteT (iteT no)⟩
  | bl b => exact ⟨_, rfl, _, _, _, _, false, rfl, .ty "tuple", .base (.bl _), kit_ty (by decide +kernel), _, rfl, iteT (iteT no)⟩
  | int i => exact ⟨_, rfl, _, _, _, _, false, rfl, .ty "tuple", .base (.int _), kit_ty (by decide +kernel), _, rfl, iteT (iteT no)⟩
  | str z => exact ⟨_, rfl, _, _, _, _, false, rfl, .ty "tuple", .base (.str _), kit_ty (by decide +kernel), _, rfl, iteT (iteT no)⟩
  | lst h => exact ⟨_, rfl, _, _, _, _, false, rfl, .ty "tuple", .base (.lst h), kit_ty (by decide +kernel), _, rfl, iteT (iteT no)⟩
  | dic h => exact ⟨_, rfl, _, _, _, _, false, rfl, .ty "tuple", .base (.dK h), kit_ty (by decide +kernel), _, rfl, iteT (iteT no)⟩
  | long h n =>
    refine ⟨_, rfl, _, _, _, _, true, rfl, .ty "tuple", tyT h, kit_ty (by decide +kernel), _, rfl, iteF ⟨_, rfl, _, _, rfl, .inr h, _, _, rfl, rfl, _, rfl, ?_⟩⟩
    rw [decide_eq_true (by omega)]
    exact iteT no
  | @tup a xs h n v =>
    refine ⟨_, rfl, _, _, _, _, true, rfl, .ty "tuple", tyT h, kit_ty (by decide +kernel), _, rfl, iteF ⟨_, rfl, _, _, rfl, .inr h, _, _, rfl, rfl, _, rfl, ?_⟩⟩
    rw [decide_eq_false (by omega)]
    refine iteF ⟨_, rfl, a, rfl, ⟨_, h⟩, fun D hD => lc_tup (K := K) (a := a) (xs := xs) (fun i H' => H' = upd H D (blT (fun x => betw x 1 40) (xs.take i))) rfl ?_ ?_ ?_⟩
    · rintro i H' _ rfl
      exact tupSame (Same.new hD) h
    · rintro i x H' hx rfl
      have vx := (v x (List.mem_of_getElem? hx)).mono (Same.new (o := blT (fun x => betw x 1 40) (xs.take i)) hD)
      have il := (List.getElem?_eq_some_iff.mp hx).1
      refine ⟨rfl, iteT (B := True) ⟨_, rfl, x, 1, 40, rfl, vx, xs.take i |>.map fun x => V.bl (betw x 1 40), upd_same, small1000 (by rw [List.length_map, List.length_take]; omega), ?_⟩⟩
      show upd _ D (.lst ((xs.take i |>.map fun x => V.bl (betw x 1 40)) ++ [.bl (betw x 1 40)])) = _
      rw [upd_upd, take_snoc hx]
      unfold blT
      rw [List.map_append]
      rfl
    rintro H' rfl
    refine ⟨D, xs.map fun x => betw x 1 40, rfl, SqL.of ?_, ?_⟩
    · rw [upd_same, List.take_length]
      unfold blT
      rw [List.map_map]
      rfl
    · have q := k _ (Same.new (o := blT (fun x => betw x 1 40) (xs.take xs.length)) hD)
      rw [List.all_map]
      exact q
end
end K8
namespace K8
open PySem PySem.Spec PyProof.Rows L2 RZ
/-! ### enumerate(tuple) -/
set_option maxHeartbeats 4000000 in
theorem meets_enumT (l : Addr) (items : Array Value) :
    Meets (Builtin.«enumerate.__new__» ⟨[.type "enumerate", .ref l], []⟩) (fun _ R s => s.heap.IsTuple l items ∧
      R (.ok (.ret (.ref (s.heap.push { cls := .type "tuple_iterator", data := .fields #[.ref l, .int 0 0] }).objs.size)))
        { s with heap := (s.heap.push { cls := .type "tuple_iterator", data := .fields #[.ref l, .int 0 0] }).push { cls := .type "enumerate", data := .fields #[.none, .bool false, .ref s.heap.objs.size, rawInt 0, .none, .none] } }) :=
  .of_wp fun prog w A R s h => by
    obtain ⟨hp, g, d, tk, os⟩ := s
    obtain ⟨hl, h⟩ := h
    have sub := sub_enumerate
    have it : ∀ {A' : Around} {E : Value → Shared → Prop} {Q : Value → Shared → Prop}, Q (.ref hp.objs.size) ⟨hp.push { cls := .type "tuple_iterator", data := .fields #[.ref l, .int 0 0] }, g, d, tk, os⟩ → wpAny (model prog w) A' (pyIter (.ref l)) Q E ⟨hp, g, d, tk, os⟩ :=
      fun q => wpAny_pyIter_tuple (s := ⟨hp, g, d, tk, os⟩) hl q
    wp_walk using it
    refine wpAny_stack_any fun _ => wpAny_pure ?_
    split
    · rename_i c _ _ _ _ _
      cases (c == Value.type "enumerate") <;> (wp_walk using it; exact ⟨_, rfl, h⟩)
    · wp_walk using it
      exact ⟨_, rfl, h⟩
section
variable {prog : Program} {w : World} {A : Around} {E : Value → Shared → Prop} {s : Shared}
theorem call_enumT {l : Addr} {items : Array Value} {Q : Value → Shared → Prop} (hL : s.heap.IsTuple l items)
    (h : ∀ h', IsEnum h' (s.heap.objs.size + 1) s.heap.objs.size 0 .none → h'.IsTupleIter s.heap.objs.size l 0 → h'.objs.size = s.heap.objs.size + 2 → (∀ b o, s.heap.get? b = some o → h'.get? b = some o) → Q (.ref (s.heap.objs.size + 1)) { s with heap := h' }) :
    wpAny (model prog w) A (call (.type "enumerate") [.ref l]) Q E s := by
  refine callType_new F.called_enumerate (by decide) (F.typeCall_enumerate_1 _) (F.newCall_enumerate_1 _) (fun obj => F.args_object_init_2 obj _) F.entry_enumerate_new (meets_enumT l items) ⟨hL, ?_⟩
  show _ ∧ _
  have z1 : (s.heap.push { cls := .type "tuple_iterator", data := .fields #[.ref l, .int 0 0] }).objs.size = s.heap.objs.size + 1 := Heap.size_push ..
  have he := Heap.get?_push_size (s.heap.push { cls := .type "tuple_iterator", data := .fields #[.ref l, .int 0 0] }) (o := { cls := .type "enumerate", data := .fields #[.none, .bool false, .ref s.heap.objs.size, rawInt 0, .none, .none] }) rfl
  rw [z1] at he ⊢
  refine ⟨⟨_, he, rfl⟩, h _ he ⟨_, Heap.get?_push_of_some _ (Heap.get?_push_size _ rfl), rfl, rfl⟩ ?_ fun b o x => Heap.get?_push_of_some _ (Heap.get?_push_of_some _ x)⟩
  rw [Heap.size_push, z1]
end
section
variable {prog : Program} {w : World} {A : Around} {E : Value → Shared → Prop} {s : Shared}
theorem enum_endT {e it l : Addr} {i : Nat} {k : Int} {items : Array Value} {old : Value} {Q : Option Value → Shared → Prop} (hh : A.handled = none) (he : IsEnum s.heap e it k old) (hit : s.heap.IsTupleIter it l i) (hl : s.heap.IsTuple l items) (hx : items[i]? = none)
    (q : ∀ h', Heap.ExtBut it s.heap h' → Q none { s with heap := h' }) : wpAny (model prog w) A (pyNext (.ref e)) Q E s := by
  have ty : s.TypeIs (.ref e) "enumerate" := ⟨_, he, rfl⟩
  unfold pyNext
  refine wpAny_bind (wpAny_attempt (wpAny_callSpecial?_slot (name := Str.ofString "__next__") ty F.slot_enumerate_next (wpAny_call_entry F.slot_enumerate_next ty F.entry_enumerate_next ?_ (F.args_enumerate_next_1 _))))
  show wpAny _ _ (field (.ref e) 2 >>= _) _ _ s
  refine wpAny_bind (wpAny_field he rfl (x := .ref it) rfl (wpAny_bind (nextOf_tuple_end hh hit hl hx fun h' x eb sx => ?_)))
  obtain ⟨o, go, co⟩ := sx
  exact wpAny_bind (wpAny_isInstance (T := "StopIteration") (b := true) ⟨o, go, co⟩ isSubtype_stop (wpAny_pure (q _ eb)))
end
/-- the tuple at a, each item in a new pair behind its index -/
def IteT (K : PySem.W.Frag) (a : Addr) : It :=
  ⟨fun i H => ∃ (xs : List V) (x : V), SqT K H a xs ∧ xs[i]? = some x, fun i H v H' => ∃ T x, v = .ref T ∧ H T = none ∧ H' = upd H T (.tup [.int (i : Nat), x]) ∧ ∀ xs, SqT K H a xs → xs[i]? = some x, fun i H => ∃ xs : List V, SqT K H a xs ∧ xs.length ≤ i⟩
theorem turn_enumT {P : Program} {w : World} {K : PySem.W.Frag} {elts : List Expr} {kk : Nat} {tpos : Pos} (a e it : Addr) :
    Turn P w K (.Tuple elts kk tpos) (IteT K a) [e, it] e (fun i h => (∃ old, IsEnum h e it ((i : Nat) : Int) old) ∧ h.IsTupleIter it a i ∧ e ≠ it ∧ a ≠ it ∧ a ≠ e) where
  mem := by simp
  obj := fun i h st b hb => by
    obtain ⟨⟨old, he⟩, ⟨o, ho, hc, hd⟩, _⟩ := st
    rcases List.mem_cons.mp hb with z | z
    · rw [z]
      exact ⟨_, he, fun v q => nomatch q⟩
    · rw [List.mem_singleton.mp z]
      exact ⟨o, ho, fun v q => by rw [hd] at q; cases q⟩
  keep := fun i h h' st k => by
    obtain ⟨⟨old, he⟩, hi, r⟩ := st
    exact ⟨⟨old, k e (by simp) _ he⟩, hi.at fun o q => k it (by simp) o q, r⟩
  item := by
    intro X hP hw hK hc i pins s σ H E I hf st hg
    subst hP hw hK
    obtain ⟨⟨old, he⟩, hit, hne, nai, nae⟩ := st
    obtain ⟨xs, x, hq, hx⟩ := hg
    obtain ⟨its, rv, p, hz⟩ := I.tuple hq
    have ht : s.heap.IsTuple a its.toArray := p
    obtain ⟨u, hu, ru⟩ := rv.get hx
    have hel : e < s.heap.objs.size := Heap.lt_size he
    have hil : it < s.heap.objs.size := by
      obtain ⟨_, q, _⟩ := hit
      exact Heap.lt_size q
    have hu2 : its.toArray[i]? = some u := by simpa using hu
    have hlt : i < its.toArray.size := (Array.getElem?_eq_some_iff.mp hu2).1
    refine wpAny_pyNext_enum_itemD (Draws.tuple (A := X.A.in1) (I.ok.hd hc) it a nai its.toArray) he ⟨hit, ht⟩ hlt hne (by simp only [List.mem_cons, List.not_mem_nil, or_false, not_or]; exact ⟨hne, fun z => nae z.symm⟩) fun y h' tk hP ho st' hT hsz hk => ?_
    have ey : y = u := by
      have hP' : its.toArray[i]? = some y := hP
      rw [hu2] at hP'
      exact (Option.some.inj hP').symm
    subst ey
    refine ⟨_, rfl, wpAny_letOwnedTupleGo_enum (s := { s with heap := h', toks := tk + 1 }) ho fun h'' he' sb => ?_⟩
    have hT2 : h''.get? s.heap.objs.size = some { cls := .type "tuple", data := .seq #[.int i tk, y] } := (sb.2 _ (Nat.ne_of_gt hel)).trans hT
    have new : ObjOk X.prog X.w (upd H s.heap.objs.size (.tup [.int (i : Nat), x])) h'' s.heap.objs.size (.tup [.int (i : Nat), x]) := ⟨by show 2 ≤ sizeLine; decide, [.int i tk, y], .cons ⟨_, rfl⟩ (.cons ru .nil), ⟨_, hT2, rfl, _, rfl⟩⟩
    have I1 : Inv X pins σ (upd H s.heap.objs.size (.tup [.int (i : Nat), x])) { s with heap := h'', toks := tk + 1 } :=
      I.turnedNew (t' := tk + 1) (ch := [e, it]) (fun b ob hb q => (sb.2 b (fun z => hb (by simp [z]))).trans (hk b ob (fun z => hb (by simp [z])) (fun z => hb (by simp [z])) q)) hf (Nat.le_refl _) new
    refine ⟨.ref s.heap.objs.size, _, I1, rfl, ⟨_, x, rfl, I.hok.fresh (Nat.le_refl _), rfl, fun ys hy => by rw [I.tuple_inj hy hq]; exact hx⟩, ⟨⟨y, ?_⟩, st'.1.at fun o q => (sb.2 it (Ne.symm hne)).trans q, hne, nai, nae⟩, fun b hb => ?_⟩
    · have e1 : ((i + 1 : Nat) : Int) = (i : Int) + 1 := by omega
      rw [e1]
      exact he'
    · have hb' : b < s.heap.objs.size := by
        rcases List.mem_cons.mp hb with z | z
        · rw [z]
          exact hel
        · rw [List.mem_singleton.mp z]
          exact hil
      rw [upd_ne (Nat.ne_of_lt hb')]
      exact (hf b hb).1
  done := by
    intro X hP hw hK hc i pins s σ H E I hf st hg
    subst hP hw hK
    obtain ⟨⟨old, he⟩, hit, hne, nai, nae⟩ := st
    obtain ⟨xs, hq, hx⟩ := hg
    obtain ⟨its, rv, p, hz⟩ := I.tuple hq
    have ht : s.heap.IsTuple a its.toArray := p
    have hl := rv.length
    have none' : its.toArray[i]? = none := by
      rw [Array.getElem?_eq_none_iff, List.size_toArray]
      omega
    refine enum_endT (I.ok.hd hc) he hit ht none' fun h' eb => ⟨rfl, I.turnedL (t' := s.toks) (ch := [e, it]) (fun b o hb q => eb b o (fun z => hb (by simp [z])) q) hf⟩
  self := fun A i s Q E st h => by
    obtain ⟨⟨_, he⟩, _⟩ := st
    exact wpAny_pyIter_enum he h
def iEnumT (K : PySem.W.Frag) (ta : TA) : TI := fun σ H R => ta σ H fun vs H1 => ∃ a xs, vs = [.ref a] ∧ SqT K H1 a xs ∧ R (IteT K a) H1
theorem pi_enumT {X : Cx} {e : Expr} {ta : TA} {p pos tpos : Pos} {elts : List Expr} {kk : Nat} (hg : Gl X "enumerate") (hm : X.mg "enumerate" = none) (ha : PA X [e] ta) (hs : starEach [e] X.env = [(false, eval e X.env)] := by rfl) :
    PI X (.Tuple elts kk tpos) (.Call (.Name "enumerate" p) [e] [] pos) (iEnumT X.K ta) := by
  refine ⟨fun pins s σ H R I h => Call_ (ld_blt I hg hm boot_enumerate (PyProof.Rows.callWith_type1 (thn (ha.run pos pins s σ H _ I h) fun us s1 ⟨vs, H1, I1, r1, q1⟩ => ?_) hs rfl))⟩
  obtain ⟨a, xs, rfl, hq, q⟩ := q1
  rw [Vals.ref1 r1]
  obtain ⟨its, rv, p', hz⟩ := I1.tuple hq
  have ht : s1.heap.IsTuple a its.toArray := p'
  have al : a < s1.heap.objs.size := by
    obtain ⟨o, ho, _⟩ := ht
    exact Heap.lt_size ho
  refine call_enumT ht fun h' he hit hsz hk => wpAny_pyIter_enum he ?_
  refine ⟨s1.heap.objs.size + 1, [s1.heap.objs.size + 1, s1.heap.objs.size], _, _, H1, rfl, I1.kept (t' := s1.toks) hk, turn_enumT a (s1.heap.objs.size + 1) s1.heap.objs.size, ⟨⟨.none, he⟩, hit, Nat.succ_ne_self _, Nat.ne_of_lt al, Nat.ne_of_lt (Nat.lt_succ_of_lt al)⟩, fun b hb => ?_, q⟩
  have hle : s1.heap.objs.size ≤ b := by
    rcases List.mem_cons.mp hb with z | z
    · rw [z]
      exact Nat.le_add_right _ _
    · rw [List.mem_singleton.mp z]
      exact Nat.le_refl _
  exact I1.fpOk hle (I1.hok.fresh hle)
theorem walk_enumT {K : PySem.W.Frag} {a : Addr} {xs : List V} : Walk (IteT K a) xs.length (fun H => SqT K H a xs) (YPair (fun i => some (.int (i : Nat))) (fun i => xs[i]?)) := by
  refine ⟨fun i _ hi q => ⟨xs, xs[i], q, by simp [hi]⟩, fun _ q => ⟨xs, q, Nat.le_refl _⟩, fun i H v H' _ q y => ?_⟩
  obtain ⟨T, x, h1, h2, h3, h4⟩ := y
  exact ⟨T, _, x, h1, h2, h3, rfl, h4 xs q⟩
theorem walk_zipT {K : PySem.W.Frag} {a b : Addr} {xs ys : List V} {n : Nat} (hn : n = min xs.length ys.length) : Walk (ItzT K a b) n (fun H => SqT K H a xs ∧ SqT K H b ys) (YPair (fun i => xs[i]?) (fun i => ys[i]?)) := by
  subst hn
  refine ⟨fun i _ hi q => ?_, fun _ q => ⟨xs, ys, q.1, q.2, by omega⟩, fun i H v H' _ q y => ?_⟩
  · have h1 : i < xs.length := by omega
    have h2 : i < ys.length := by omega
    exact ⟨xs, ys, xs[i], ys[i], q.1, q.2, by simp [h1], by simp [h2]⟩
  · obtain ⟨T, x, z, h1, h2, h3, h4, h5⟩ := y
    exact ⟨T, x, z, h1, h2, h3, h4 xs q.1, h5 ys q.2⟩
/-! ### sum(tuple) -/
def rSumT (K : PySem.W.Frag) : List V → Hp → VK → Prop := fun vs H Q => ∃ (a : Addr) (ns : List Int), vs = [V.ref a] ∧ SqT K H a (ns.map V.int) ∧ Q (.int ns.sum) H
theorem cr_sumT {X : Cx} (hc : X.calm = true) : CallR X (.builtin "sum") (rSumT X.K) := by
  intro pins s σ H vs us Q I r h
  obtain ⟨a, ns, rfl, hs, q⟩ := h
  obtain ⟨its, rv, p, _⟩ := I.tuple hs
  rw [Vals.ref1 r]
  have hl : s.heap.IsTuple a its.toArray := p
  obtain ⟨xs, hx⟩ := rv.ints.allInts.items
  have hn : numsOf its.toArray.toList = ns := by rw [show its.toArray.toList = its from rfl, rv.ints.numsOf]
  rw [hx] at hl hn
  rw [nums_intItems] at hn
  refine PySem.W.ktm_sumG (I.ok.hd hc) hl fun h' tk t' hk => ?_
  rw [preSum_eq, List.take_of_length_le (by simp), hn]
  exact ⟨.int _, H, I.kept hk, ⟨_, rfl⟩, q⟩
end K8
namespace K8
open PySem PySem.Spec PyProof.Rows L2
/-! ### tuple * int, also 0 and 1 times -/
theorem tup_times1 (l : Addr) (items : Array Value) (n : Nat) (dd : Option Addr) (sl : Array (Option Value)) (u : Tok) :
    Meets (Builtin.«tuple.__mul__» ⟨[.ref l, .int 1 u], []⟩) (fun _ R s => s.heap.get? l = some { cls := .type "tuple", dict := dd, data := .seq items n, slots := sl } ∧ R (.ok (.ret (Value.ref l))) s) :=
  .of_wp fun prog w A R s h => by
    obtain ⟨hp, g, d, tk, os⟩ := s
    obtain ⟨hl, h⟩ := h
    have f1 := AutoSeq1.idx_int
    have c1 : (items.isEmpty || (1 : Int) == 1) = true := by simp
    wp_walk using wpAny_loadPart' hl
    repeat (first
      | (refine wpAny_ite_true (decide_eq_true (by rw [c1])) ?_; wp_walk using wpAny_loadPart' hl)
      | (refine wpAny_ite_false (decide_eq_false (by decide)) ?_; wp_walk using wpAny_loadPart' hl))
    all_goals exact ⟨_, rfl, h⟩
theorem tup_times0 (l : Addr) (items : Array Value) (n : Nat) (dd : Option Addr) (sl : Array (Option Value)) (u : Tok) (c1 : (items.isEmpty || (0 : Int) == 1) = false) :
    Meets (Builtin.«tuple.__mul__» ⟨[.ref l, .int 0 u], []⟩) (fun _ R s => s.heap.get? l = some { cls := .type "tuple", dict := dd, data := .seq items n, slots := sl } ∧
      R (.ok (.ret (Value.ref s.heap.objs.size))) { s with heap := s.heap.push { cls := Value.type "tuple", data := Data.seq #[] }, toks := s.toks }) :=
  .of_wp fun prog w A R s h => by
    obtain ⟨hp, g, d, tk, os⟩ := s
    obtain ⟨hl, h⟩ := h
    have f1 := AutoSeq1.idx_int
    wp_walk using wpAny_loadPart' hl
    repeat (first
      | (refine wpAny_ite_false (decide_eq_false (by rw [c1]; exact Bool.false_ne_true)) ?_; wp_walk using wpAny_loadPart' hl)
      | (refine wpAny_ite_true (decide_eq_true (by rfl)) ?_; wp_walk using wpAny_loadPart' hl)
      | (refine wpAny_ite_false (decide_eq_false (by decide)) ?_; wp_walk using wpAny_loadPart' hl))
    all_goals exact ⟨_, rfl, h⟩
def rMulT (K : PySem.W.Frag) : R2 := fun x y H Q => ∃ l k xs, x = .ref l ∧ y = .int k ∧ SqT K H l xs ∧ xs ≠ [] ∧ 0 ≤ k ∧ k ≤ 1000 ∧ xs.length ≤ 1000 ∧ (k = 1 → Q (.ref l) H) ∧ (k ≠ 1 → ∀ p, H p = none → Q (.ref p) (upd H p (.tup (List.replicate k.toNat xs).flatten)))
theorem op_mulT {X : Cx} : OpR X (binaryOp .Mult) (rMulT X.K) := by
  intro pins s σ H x y v u Q I rx ry h
  obtain ⟨l, k, xs, rfl, rfl, hT, hne, h0, h2, hz, q1, q2⟩ := h
  by_cases k2 : 2 ≤ k
  · exact op_repT pins s σ H _ _ v u Q I rx ry ⟨l, k, xs, rfl, rfl, hT, hne, k2, h2, hz, q2 (by omega)⟩
  cases rx
  obtain ⟨t, rfl⟩ := ry
  obtain ⟨its, r, ⟨⟨cls, dd, data, sl⟩, ho, hc, n, hd⟩, hs⟩ := I.tuple hT
  simp only at hc hd
  subst hc hd
  by_cases k1 : k = 1
  · subst k1
    exact wpAny_binaryOp_repeat_ref (T := "tuple") (U := "int") (by decide) ⟨_, ho, rfl⟩ (fun s' => typeIs_int s' 1 t) noFill_tuple_mul F.fills_int_mul F.slot_int_rmul repeat_tuple F.slot_int_index.lookup
      (call_meets F.slot_int_rmul (typeIs_int s 1 t) F.entry_int_rmul (F.args_int_rmul_2 _ _) (int_rmul_tuple 1 t l its.toArray n dd sl)
        ⟨ho, rfl, ⟨_, ho, rfl⟩, call_meets F.slot_tuple_mul ⟨_, ho, rfl⟩ F.entry_tuple_mul (F.args_tuple_mul_2 _ _) (tup_times1 l its.toArray n dd sl t) ⟨ho, ⟨.ref l, H, I, rfl, q1 rfl⟩⟩⟩)
  · have k0 : k = 0 := by omega
    subst k0
    have hle : its.length = xs.length := r.length.symm
    have hi : (its.toArray.isEmpty || (0 : Int) == 1) = false := by
      cases its with
      | nil =>
        rw [List.length_nil] at hle
        exact absurd (List.eq_nil_of_length_eq_zero hle.symm) hne
      | cons a b => rfl
    exact wpAny_binaryOp_repeat_ref (T := "tuple") (U := "int") (by decide) ⟨_, ho, rfl⟩ (fun s' => typeIs_int s' 0 t) noFill_tuple_mul F.fills_int_mul F.slot_int_rmul repeat_tuple F.slot_int_index.lookup
      (call_meets F.slot_int_rmul (typeIs_int s 0 t) F.entry_int_rmul (F.args_int_rmul_2 _ _) (int_rmul_tuple 0 t l its.toArray n dd sl)
        ⟨ho, rfl, ⟨_, ho, rfl⟩, call_meets F.slot_tuple_mul ⟨_, ho, rfl⟩ F.entry_tuple_mul (F.args_tuple_mul_2 _ _) (tup_times0 l its.toArray n dd sl t hi)
          ⟨ho, ⟨.ref s.heap.objs.size, _, I.laid (t' := s.toks) (o := .tup []) (fun b ob q => Heap.get?_push_of_some _ q) (Nat.le_refl _) ⟨by show 0 ≤ sizeLine; decide, [], .nil, IsTup.new _ _⟩, rfl, q2 (by decide) _ (I.hok.fresh (Nat.le_refl _))⟩⟩⟩)
end K8
namespace K8
open PySem PySem.Spec PyProof.Rows L2 RZ
abbrev iV (L : List Int) : List V := L.map V.int
/-- what a comprehension's walk asks -/
abbrev LcW (J : It) (g : TG) (tt : TT) (te : TE) (vs : List Nat) (σ : L2.St) (H : Hp) (D : Addr) (Qd : Hp → Prop) : Prop :=
  ∃ W : Nat → Nat → Hp → Prop, (∃ m, W 0 m (upd H D (.lst []))) ∧ ∀ i m H1, W i m H1 → (J.stop i H1 ∧ Qd H1) ∨ (J.go i H1 ∧ ∃ Nx : Hp → Prop, (∀ H', Nx H' → ∃ m', m' < m ∧ W (i + 1) m' H') ∧
    ∀ x H', J.yld i H1 x H' → g x (wipe σ vs) H' fun σ2 H2 => wipe σ2 vs = wipe σ vs ∧ tt σ2 H2 fun b H3 => if b = true then te σ2 H3 fun y H4 => ∃ acc, H4 D = some (.lst acc) ∧ acc.length < sizeLine ∧ Nx (upd H4 D (.lst (acc ++ [y]))) else Nx H3)
theorem take_more {α : Type} {xs : List α} {i : Nat} {x : α} (h : xs[i]? = some x) : xs.take (i + 1) = xs.take i ++ [x] := by
  rw [List.take_add_one, h]
  rfl
theorem Same.back {H H1 : Hp} {D : Addr} {o : HO} (s : Same H H1) (hD : H D = none) : Same H (upd H1 D o) := fun b u e => by
  rw [upd_ne (ne_of_none e hD)]
  exact s b u e
/-- over zip of two tuples of ints -/
theorem lc_zip2 {K : PySem.W.Frag} {a b : Addr} {L W : List Int} {i j : Nat} {te : TE} {vs : List Nat} {σ : L2.St} {H : Hp} {D : Addr} {Qd : Hp → Prop} (f : Int → Int → V) (hD : H D = none) (ha : SqT K H a (iV L)) (hb : SqT K H b (iV W)) (ln : L.length ≤ 1000)
    (hw : ∀ x y : V, wipe (((wipe σ vs).set i (some x)).set j (some y)) vs = wipe σ vs)
    (he : ∀ (n : Nat) (d e : Int) (H1 : Hp) (Q : VK), L[n]? = some d → W[n]? = some e → Same H H1 → (∀ H2, Same H1 H2 → Q (f d e) H2) → te (((wipe σ vs).set i (some (.int d))).set j (some (.int e))) H1 Q)
    (hd : ∀ H', Same H H' → H' D = some (.lst (List.zipWith f L W)) → Qd H') : LcW (ItzT K a b) (gTup K 2 (gCons (gName i) (gCons (gName j) gNil))) tYes te vs σ H D Qd := by
  have zl : (List.zipWith f L W).length = min L.length W.length := List.length_zipWith
  refine lc_it (walk_zipT (xs := iV L) (ys := iV W) rfl) (fun n H' => Same H H' ∧ H' D = some (.lst ((List.zipWith f L W).take n))) ⟨Same.new hD, upd_same⟩ (fun _ H' _ p => ⟨tupSame p.1 ha, tupSame p.1 hb⟩) (fun n x H1 H2 hn p y => ?_) fun H' p => ?_
  · obtain ⟨T, u, v, rfl, hT, rfl, hu, hv⟩ := y
    have hu : (iV L)[n]? = some u := hu
    have hv : (iV W)[n]? = some v := hv
    rw [List.getElem?_map] at hu hv
    obtain ⟨d, hd1, rfl⟩ := Option.map_eq_some_iff.mp hu
    obtain ⟨e, he1, rfl⟩ := Option.map_eq_some_iff.mp hv
    have s1 : Same H1 (upd H1 T (.tup [.int d, .int e])) := Same.new hT
    refine ⟨T, [.int d, .int e], rfl, SqT.of upd_same, rfl, .int d, [.int e], rfl, .int e, [], rfl, rfl, hw _ _, iteT (B := True) (he n d e _ _ hd1 he1 (p.1.trans s1) fun H2 s2 => ?_)⟩
    have zg : (List.zipWith f L W)[n]? = some (f d e) := by
      rw [List.getElem?_zipWith, hd1, he1]
    refine ⟨(List.zipWith f L W).take n, (s1.trans s2) _ _ p.2, small1000 (by rw [List.length_take]; omega), Same.back (p.1.trans (s1.trans s2)) hD, ?_⟩
    rw [upd_same, take_more zg]
  · refine hd H' p.1 ?_
    rw [p.2, List.take_of_length_le (by rw [zl, List.length_map, List.length_map]; omega)]
/-- over a tuple -/
theorem lc_tup1 {K : PySem.W.Frag} {a : Addr} {xs : List V} {i : Nat} {te : TE} {vs : List Nat} {σ : L2.St} {H : Hp} {D : Addr} {Qd : Hp → Prop} (f : V → V) (hD : H D = none) (ha : SqT K H a xs) (ln : xs.length ≤ 1000)
    (hw : ∀ x : V, wipe ((wipe σ vs).set i (some x)) vs = wipe σ vs)
    (he : ∀ (n : Nat) (x : V) (H1 : Hp) (Q : VK), xs[n]? = some x → Same H H1 → (∀ H2, Same H1 H2 → Q (f x) H2) → te ((wipe σ vs).set i (some x)) H1 Q)
    (hd : ∀ H', Same H H' → H' D = some (.lst (xs.map f)) → Qd H') : LcW (Itt K a) (gName i) tYes te vs σ H D Qd := by
  refine lc_it (walk_tup (xs := xs)) (fun n H' => Same H H' ∧ H' D = some (.lst ((xs.take n).map f))) ⟨Same.new hD, upd_same⟩ (fun _ H' _ p => tupSame p.1 ha) (fun n x H1 H2 hn p y => ?_) fun H' p => ?_
  · obtain ⟨rfl, hx⟩ := y
    refine ⟨hw _, iteT (B := True) (he n x _ _ hx p.1 fun H2 s2 => ?_)⟩
    refine ⟨(xs.take n).map f, s2 _ _ p.2, small1000 (by rw [List.length_map, List.length_take]; omega), Same.back (p.1.trans s2) hD, ?_⟩
    rw [upd_same, take_more hx, List.map_append]
    rfl
  · refine hd H' p.1 ?_
    rw [p.2, List.take_length]
/-- over range(n) -/
theorem lc_range1 {lo : Int} {N i : Nat} {te : TE} {vs : List Nat} {σ : L2.St} {H : Hp} {D : Addr} {Qd : Hp → Prop} (f : Int → V) (hD : H D = none) (ln : N ≤ 1000)
    (hw : ∀ x : V, wipe ((wipe σ vs).set i (some x)) vs = wipe σ vs)
    (he : ∀ (n : Nat) (H1 : Hp) (Q : VK), n < N → Same H H1 → (∀ H2, Same H1 H2 → Q (f (lo + n)) H2) → te ((wipe σ vs).set i (some (.int (lo + n)))) H1 Q)
    (hd : ∀ H', Same H H' → H' D = some (.lst ((List.range N).map fun n : Nat => f (lo + n))) → Qd H') : LcW (Itr lo N) (gName i) tYes te vs σ H D Qd := by
  refine lc_it (walk_range (lo := lo) (n := N)) (fun n H' => Same H H' ∧ H' D = some (.lst ((List.range n).map fun n : Nat => f (lo + n)))) ⟨Same.new hD, upd_same⟩ (fun _ H' _ p => trivial) (fun n x H1 H2 hn p y => ?_) fun H' p => ?_
  · obtain ⟨rfl, rfl⟩ := y
    refine ⟨hw _, iteT (B := True) (he n _ _ hn p.1 fun H2 s2 => ?_)⟩
    refine ⟨(List.range n).map fun n : Nat => f (lo + n), s2 _ _ p.2, small1000 (by rw [List.length_map, List.length_range]; omega), Same.back (p.1.trans s2) hD, ?_⟩
    rw [upd_same, List.range_succ, List.map_append]
    rfl
  · exact hd H' p.1 p.2
/-- the indices of the odd ones, from k on -/
def od (k : Int) : List Int → List Int
  | [] => []
  | d :: L => if d % 2 = 1 then k :: od (k + 1) L else od (k + 1) L
theorem od_append : ∀ (L M : List Int) (k : Int), od k (L ++ M) = od k L ++ od (k + L.length) M
  | [], M, k => by
    show od k M = [] ++ od (k + 0) M
    rw [Int.add_zero, List.nil_append]
  | d :: L, M, k => by
    have ih := od_append L M (k + 1)
    have e : k + 1 + (L.length : Int) = k + ((d :: L).length : Int) := by
      rw [List.length_cons]
      omega
    rw [e] at ih
    show (if d % 2 = 1 then k :: od (k + 1) (L ++ M) else od (k + 1) (L ++ M)) = (if d % 2 = 1 then k :: od (k + 1) L else od (k + 1) L) ++ _
    split
    · rw [ih]
      rfl
    · rw [ih]
theorem od_len : ∀ (L : List Int) (k : Int), (od k L).length ≤ L.length
  | [], _ => Nat.le_refl _
  | d :: L, k => by
    have := od_len L (k + 1)
    show (if d % 2 = 1 then k :: od (k + 1) L else od (k + 1) L).length ≤ _
    split
    · rw [List.length_cons, List.length_cons]
      omega
    · rw [List.length_cons]
      omega
/-- the indices of odd letters, over enumerate -/
theorem lc_odds {K : PySem.W.Frag} {a : Addr} {L : List Int} {i j : Nat} {tt : TT} {te : TE} {vs : List Nat} {σ : L2.St} {H : Hp} {D : Addr} {Qd : Hp → Prop} (hD : H D = none) (ha : SqT K H a (iV L)) (ln : L.length ≤ 1000)
    (hw : ∀ x y : V, wipe (((wipe σ vs).set i (some x)).set j (some y)) vs = wipe σ vs)
    (ht : ∀ (n : Nat) (d : Int) (H1 : Hp) (Q : Bool → Hp → Prop), Q (decide (d % 2 = 1)) H1 → tt (((wipe σ vs).set i (some (.int n))).set j (some (.int d))) H1 Q)
    (he : ∀ (n : Nat) (d : Int) (H1 : Hp) (Q : VK), Q (.int n) H1 → te (((wipe σ vs).set i (some (.int n))).set j (some (.int d))) H1 Q)
    (hd : ∀ H', Same H H' → H' D = some (.lst (iV (od 0 L))) → Qd H') : LcW (IteT K a) (gTup K 2 (gCons (gName i) (gCons (gName j) gNil))) tt te vs σ H D Qd := by
  refine lc_it (walk_enumT (xs := iV L)) (fun n H' => Same H H' ∧ H' D = some (.lst (iV (od 0 (L.take n))))) ⟨Same.new hD, upd_same⟩ (fun _ H' _ p => tupSame p.1 ha) (fun n x H1 H2 hn p y => ?_) fun H' p => ?_
  · obtain ⟨T, u, v, rfl, hT, rfl, hu, hv⟩ := y
    have hu : some (V.int (n : Nat)) = some u := hu
    have hv : (iV L)[n]? = some v := hv
    cases hu
    rw [List.getElem?_map] at hv
    obtain ⟨d, hd1, rfl⟩ := Option.map_eq_some_iff.mp hv
    have s1 : Same H1 (upd H1 T (.tup [.int (n : Nat), .int d])) := Same.new hT
    have nl := (List.getElem?_eq_some_iff.mp hd1).1
    have e1 : od 0 (L.take (n + 1)) = od 0 (L.take n) ++ (if d % 2 = 1 then [(n : Int)] else []) := by
      rw [take_more hd1, od_append, List.length_take, Nat.min_eq_left (Nat.le_of_lt nl), Int.zero_add]
      rfl
    refine ⟨T, [.int (n : Nat), .int d], rfl, SqT.of upd_same, rfl, .int (n : Nat), [.int d], rfl, .int d, [], rfl, rfl, hw _ _, ht n d _ _ ?_⟩
    by_cases c : d % 2 = 1
    · rw [decide_eq_true c]
      refine iteT (he n d _ _ ?_)
      have ol := od_len (L.take n) 0
      rw [List.length_take] at ol
      refine ⟨iV (od 0 (L.take n)), s1 _ _ p.2, small1000 (by rw [List.length_map]; omega), Same.back (p.1.trans s1) hD, ?_⟩
      rw [upd_same, e1, if_pos c]
      show _ = some (HO.lst (List.map V.int _))
      rw [List.map_append]
      rfl
    · rw [decide_eq_false c]
      refine iteF ⟨p.1.trans s1, ?_⟩
      rw [e1, if_neg c, List.append_nil]
      exact s1 _ _ p.2
  · refine hd H' p.1 ?_
    rw [p.2, List.length_map, List.take_length]
end K8
namespace K8X
open PySem PySem.W PySem.Calls PyProof.Rows PySem.HandSPX PySem.Builtin PySem.Builtin.ObjectAttr
/-! ### InvalidNumber(given), a class over IndexError with an __init__ of its own -/
abbrev ieB : List Value := [.type "IndexError", .type "LookupError", .type "Exception", .type "BaseException", .type "object"]
def nuA (r1 r2 : Pos) : Arguments :=
  { posonlyargs := [], args := [{ arg := "self", annotation := none, pos := r1 }, { arg := "given", annotation := none, pos := r2 }], vararg := none, kwonlyargs := [], kw_defaults := [], kwarg := none, defaults := [] }
def nuB (r1 r2 r3 r4 : Pos) : List Stmt := [.Assign [.Attribute (.Name "self" r1) "given" r2] (.Name "given" r3) r4]
def nuS : Scope :=
  { kind := .function, names := [(PySem.Str.ofString "self", .local), (PySem.Str.ofString "given", .local)], isGenerator := false, isCoroutine := false, more := [] }
/-- what the written part says of the class at C and of its __init__ at i0 -/
structure NumTxt (K : Frag) (mg : Str → Option Value) (C i0 : Addr) : Prop where
  named : mg "InvalidNumber" = some (.ref C)
  made : excInitIn K C ieB "IndexError.__new__" = true
  over : excOver K C ieB = true
  dict : hasDictIn K C = true
  stores : findIn K (.ref C) "__setattr__" = some (some (.builtin "object.__setattr__"))
  reads : findIn K (.ref C) "__getattribute__" = some (some (.builtin "BaseException.__getattribute__"))
  reads2 : findIn K (.ref C) "__getattr__" = some none
  noGiven : findIn K (.ref C) "given" = some none
  inits : findIn K (.ref C) "__init__" = some (some (.ref i0))
  isdef : typeIn K (.ref i0) = some (.type "function")
  keepC : keepIn K (.ref C) = true
  isExc : subIn K (.ref C) (.type "BaseException") = some true
  isCls : typeIn K (.ref C) = some (.type "type")
  self1 : exmOne K (.ref C) (.ref C) = some true
  text : ∃ (oc : Value) (od : Option Addr) (doc pm : Value) (an : Option Addr) (cdv ct : Value) (osl : Array (Option Value)) (r1 r2 r3 r4 r5 r6 : Pos),
    K.lookup i0 = some ⟨oc, od, .func (fnOf "__init__" "InvalidNumber.__init__" (nuA r1 r2) (nuB r3 r4 r5 r6) nuS .none .none doc pm an cdv ct), osl⟩ ∧ codeIn K cdv "InvalidNumber.__init__" = true
/-- the object of an exception that holds its arguments alone -/
abbrev bareX (C t : Addr) : Obj := { cls := .ref C, data := .fields #[.ref t, .none, .none, .none, .bool false, .none] }
abbrev withX (C t dx : Addr) : Obj := { cls := .ref C, dict := some dx, data := .fields #[.ref t, .none, .none, .none, .bool false, .none] }
theorem one_fits (v : Value) : [v].length ≤ sizeLine := by
  rw [sizeLine_eq]
  show 1 ≤ 16777216
  decide
section
variable {prog : Program} {w : World} {A : Around} {E : Value → Shared → Prop} {R : Result → Shared → Prop} {K : Frag} {mg : Str → Option Value} {C i0 : Addr}
/-- object.__setattr__ on such an object that has no dict yet -/
theorem num_store {hp : Heap} {g : Array GenState} {d : Drawn} {t : Nat} {os : OsState} {name : Str} {tk : Tok} {v : Value} {x t0 : Addr} (X : K.In hp) (gx : hp.get? x = some (bareX C t0)) (ov : excOver K C ieB = true) (hh : hasDictIn K C = true)
    (nn : findIn K (.ref C) name = some none)
    (go : ∀ h' tk' dx, (∀ b o, b ≠ x → hp.get? b = some o → h'.get? b = some o) → hp.objs.size ≤ dx → dx ≠ x → h'.get? x = some (withX C t0 dx) → h'.Ns1 dx (fun y => if y = name then some v else none) → R (.ok (.ret .none)) ⟨h', g, d, tk', os⟩) :
    codeAny (model prog w) A (.call (.builtin "object.__setattr__") ⟨[.ref x, .str name tk, v], []⟩) R ⟨hp, g, d, t, os⟩ := by
  refine osa_openX (s := ⟨hp, g, d, t, os⟩) (ox := bareX C t0) (od := none) PySem.F.store_IndexError X ⟨gx, rfl, rfl, trivial⟩ ov (L2.NoAttr.taker nn) fun b => ?_
  obtain ⟨cd, hc, hd'⟩ := any_some hh
  have nx : x ≠ hp.objs.size := Nat.ne_of_lt (Heap.lt_size gx)
  refine wpAny_bind (wpAny_pure (wpAny_bind (instanceDict_exc (s := ⟨hp, g, d, t, os⟩) (c2 := .none) (t := t0) gx (looks_clsIn X hc) hd' ?_)))
  show wpAny _ _ (storeInDict hp.objs.size (.str name tk) name v) _ _ _
  refine store_in_new (hp := (hp.push (dictOf [] 0)).update x fun o => { o with dict := some hp.objs.size }) ?_ fun h' tk' hn' hs => ?_
  · exact ⟨_, #[], _, (Heap.get?_update_ne _ _ _ _ nx.symm).trans (Heap.get?_push_at rfl rfl), rfl, fun e he => absurd he (by simp), fun _ => rfl⟩
  · have gx1 : (hp.push (dictOf [] 0)).get? x = some (bareX C t0) := Heap.get?_push_of_some _ gx
    refine go h' tk' hp.objs.size (fun b o hb ho => ?_) (Nat.le_refl _) nx.symm ?_ hn'
    · exact (hs.2 b (Nat.ne_of_lt (Heap.lt_size ho))).trans ((Heap.get?_update_ne _ _ _ _ hb).trans (Heap.get?_push_of_some _ ho))
    · exact (hs.2 x nx).trans (Heap.get?_update_self _ gx1 rfl)
theorem localC {M : Model} {s : Shared} {name : Str} {scope : Scope} {L a : Addr} {cd : Value} {m : Str → Option Value} {x : Str} {pos : Pos} {v : Value} {Q : Value → Shared → Prop} (ns : s.heap.Ns L m) (e : m x = some v) (q : Q v s)
    (k1 : scope.kind = .function := by rfl) (k2 : (envOfC name scope L a cd).kindOf x = some .local := by rfl) (k3 : (x == ("__debug__" : Str)) = false := by decide) :
    wpAny M A (eval (.Name x pos) (envOfC name scope L a cd)) Q E s :=
  wpAny_Name (wpAny_loadName_local k1 k2 ns e q) k3
/-- __init__ on a fresh object at x -/
theorem num_init {s : Shared} (T : NumTxt K mg C i0) {x t0 : Addr} {v : Value} (X : K.In s.heap) (lim : s.heap.NoLimit) (gx : s.heap.get? x = some (bareX C t0)) (room : A.depth < recursionLimit)
    (go : ∀ h' tk dx, (∀ b o, b ≠ x → s.heap.get? b = some o → h'.get? b = some o) → h'.get? x = some (withX C t0 dx) → s.heap.objs.size ≤ dx → dx ≠ x → h'.Ns1 dx (fun y => if y = "given" then some v else none) →
      R (.ok (.ret .none)) { s with heap := h', toks := tk }) :
    codeAny (model prog w) A (.call (.ref i0) ⟨[.ref x, v], []⟩) R s := by
  obtain ⟨oc, od, doc, pm, an, cdv, ct, osl, r1, r2, r3, r4, r5, r6, lk, cdk⟩ := T.text
  refine Att.call_fn (binds := [("self", .ref x), ("given", v)]) X lim lk cdk room (BindsTo.of_eq (by first | rfl | with_unfolding_all rfl)) (by first | rfl | decide | with_unfolding_all rfl) (fun s1 IC => ?_) rfl rfl rfl
  obtain ⟨h1, tk1, rfl⟩ := IC.toInCall.same
  have kp : ∀ b o, s.heap.get? b = some o → h1.get? b = some o := IC.toInCall.keep
  have ns := IC.toInCall.ns
  have X1 : K.In h1 := X.keeps kp
  have gx1 := kp _ _ gx
  show wpAny _ _ (execs _ _) _ _ _
  refine wpAny_execs_cons (plainObj_wpAny_Assign_Attribute ?_)
  refine localC (v := v) ns (by first | rfl | with_unfolding_all rfl | kernel_rfl) (localC (v := .ref x) ns (by first | rfl | with_unfolding_all rfl | kernel_rfl) ?_)
  refine set_plain X1 (ox := bareX C t0) (od := none) ⟨gx1, rfl, rfl, trivial⟩ T.stores ?_
  refine num_store X1 gx1 T.over T.dict T.noGiven (fun h3 tk3 dx k3 dn dne gx3 ns3 => ?_)
  show wpAny _ _ (execs _ _) _ _ _
  have z : s.heap.objs.size < h1.objs.size := ns.lt
  exact wpAny_execs_nil (go h3 tk3 dx (fun b o hb e => k3 b o hb (kp b o e)) gx3 (Nat.le_of_lt (Nat.lt_of_lt_of_le z dn)) dne ns3)
/-- InvalidNumber(v) -/
theorem num_call {s : Shared} (T : NumTxt K mg C i0) {v : Value} (X : K.In s.heap) (lim : s.heap.NoLimit) (room : A.depth + 1 < recursionLimit)
    (go : ∀ h' tk e d oe, (∀ b o, s.heap.get? b = some o → h'.get? b = some o) → s.heap.objs.size ≤ e → h'.get? e = some oe → (∃ t0, oe = withX C t0 d) → s.heap.objs.size ≤ d → d ≠ e →
      h'.Ns1 d (fun y => if y = "given" then some v else none) → R (.ok (.ret (.ref e))) { s with heap := h', toks := tk }) :
    codeAny (model prog w) A (.call (.ref C) ⟨[v], []⟩) R s := by
  obtain ⟨nm, N', qn, bs, bm, hdct, sn, sub, ab, col, dd, k0, k1, k2, k3, k5, hC, hT⟩ := excInit_of X T.made
  obtain ⟨hp, g, dr, tk, os⟩ := s
  have kp : ∀ b o, hp.get? b = some o → ((hp.push (kdv_tup [v])).push (excO C hp.objs.size)).get? b = some o := fun b o e => Heap.get?_push_of_some _ (Heap.get?_push_of_some _ e)
  have get1 : ((hp.push (kdv_tup [v])).push (excO C hp.objs.size)).get? (hp.objs.size + 1) = some (bareX C hp.objs.size) := by heap_get
  refine call_own F.excBase_IndexError hT hC (looks_findIn X T.inits) (fun self => bind_fn X self T.isdef) (one_fits v) ?_
  refine num_init (s := ⟨(hp.push (kdv_tup [v])).push (excO C hp.objs.size), g, dr, tk, os⟩) T (X.keeps kp) (lim.keeps kp) get1 ?_ fun h' tk' dx k' gx dn dne ns => ?_
  · show A.depth + 1 < recursionLimit
    exact room
  · have old : ∀ b o, hp.get? b = some o → h'.get? b = some o := fun b o e => k' b o (Nat.ne_of_lt (Nat.lt_succ_of_lt (Heap.lt_size e))) (kp b o e)
    have z : hp.objs.size + 1 + 1 ≤ dx := by
      have q := dn
      rw [Heap.size_push, Heap.size_push] at q
      exact q
    exact ⟨rfl, go h' tk' (hp.objs.size + 1) dx _ old (Nat.le_succ _) gx ⟨_, rfl⟩ (Nat.le_trans (Nat.le_trans (Nat.le_succ _) (Nat.le_succ _)) z) dne ns⟩
end
end K8X
namespace K8
open PySem PySem.Spec PyProof.Rows L2
theorem relO_given {v : V} {u : Value} (r : RelV v u) (f : Str) : RelO (List.lookup f [(("given" : Str), v)]) (if f = "given" then some u else none) := by
  by_cases hf : f = "given"
  · subst hf
    rw [if_pos rfl, show List.lookup ("given" : Str) [(("given" : Str), v)] = some v by simp [List.lookup]]
    exact r
  · have e : (f == ("given" : Str)) = false := by simpa using hf
    rw [if_neg hf, show List.lookup f [(("given" : Str), v)] = none by simp [List.lookup, e]]
    trivial
section
variable {X : Cx} {C i0 : Addr}
/-- what is asked of InvalidNumber(e) -/
def tMkNum (C : Addr) (ta : TA) : L2.St → Hp → XK → Prop := fun σ H Q => ta σ H fun vs H1 => ∃ v, vs = [v] ∧ ∀ d, H1 d = none → Q (.ref C) (some d) (upd H1 d (.xd [(("given" : Str), v)]))
theorem pmk_num {a : Expr} {ta : TA} {p pos : Pos} {k : Nat} (T : K8X.NumTxt X.K X.mg C i0) (hr : Room k X.A) (ha : PA X [a] ta) (hg : Gl X "InvalidNumber" := by rfl)
    (he : starEach (a :: []) X.env = (false, eval a X.env) :: starEach [] X.env := by rfl) (hpl : (backTo pos (starEach [] X.env)).any (·.1) = false := by rfl) :
    PMk X (.Call (.Name "InvalidNumber" p) [a] [] pos) (tMkNum C ta) := by
  intro pins s σ H Q I h
  refine wpAny_Call_Name_kw (ld_glob I hg T.named ?_)
  refine PySem.W.callWith_K (h₀ := X.base) I.ok.mod.kin T.keepC (thn (ha.run pos pins s σ H _ I h) fun us s1 hh => ?_) he hpl
  obtain ⟨vs, H1, I1, r1, v, rfl, q1⟩ := hh
  refine ⟨I1.kIn, ?_⟩
  obtain ⟨v', rfl, rv⟩ := Vals.one r1
  show wpAny _ _ (call (.ref C) [v']) _ _ _
  have lim := I1.nolimit
  obtain ⟨hp, g, dr, tk, os⟩ := s1
  refine wpAny_call (K8X.num_call T I1.kIn lim (by have := hr.dp; omega) fun h' tk' e d oe kp en ge ho dn de ns => ?_)
  show MkP X pins σ Q (.ref e) ⟨h', g, dr, tk', os⟩
  obtain ⟨t0, rfl⟩ := ho
  obtain ⟨G, g1, g2⟩ := restrict h' fun b => decide (b ≠ e)
  have gk : ∀ b, b ≠ e → G.get? b = h'.get? b := fun b hb => g1 b (decide_eq_true hb)
  have g0 : G.get? e = none := g2 e (by simp)
  have old : ∀ b o, hp.get? b = some o → G.get? b = some o := fun b o q => (gk b (Nat.ne_of_lt (Nat.lt_of_lt_of_le (Heap.lt_size q) en))).trans (kp b o q)
  have ob : ObjOk X.prog X.w (upd H1 d (.xd [(("given" : Str), v)])) G d (.xd [(("given" : Str), v)]) := ⟨_, ns.at (fun o q => (gk d de).trans q), fun f => relO_given rv f⟩
  have J : Inv X pins σ (upd H1 d (.xd [(("given" : Str), v)])) ⟨G, g, dr, tk', os⟩ := I1.laid (t' := tk') old dn ob
  refine ⟨e, _, _, ⟨G, g, dr, tk', os⟩, _, .ref C, some d, rfl, J, fun b o q => ?_, g0, ge, ⟨rfl, rfl⟩, rfl, rfl, ?_, rfl, I1.bare, raises_own T.isExc T.isCls, q1 d (I1.hok.fresh dn)⟩
  · by_cases hb : b = e
    · have q' : G.get? b = some o := q
      rw [hb, g0] at q'; cases q'
    · exact (gk b hb).symm.trans q
  · rw [upd_ne (Ne.symm de)]
    exact I1.hok.fresh en
/-- raise InvalidNumber(e) -/
theorem ps_raiseNum {a : Expr} {ta : TA} {W : WX} {p pos pos2 : Pos} {k : Nat} (hc : X.calm = true) (T : K8X.NumTxt X.K X.mg C i0) (hr : Room k X.A) (tk : Takes X W) (ha : PA X [a] ta) (hg : Gl X "InvalidNumber" := by rfl)
    (he : starEach (a :: []) X.env = (false, eval a X.env) :: starEach [] X.env := by rfl) (hpl : (backTo pos (starEach [] X.env)).any (·.1) = false := by rfl) :
    PS X (.Raise (some (.Call (.Name "InvalidNumber" p) [a] [] pos)) none pos2) (fun _ σ H => tMkNum C ta σ H fun cls d H' => W cls d σ H') := ps_raise hc tk (pmk_num T hr ha hg he hpl)
/-- error.given, within the suite of the error at a -/
def tGiven (C a : Addr) (cls : Value) (d : Option Addr) (te : TE) : TE := fun σ H Q => te σ H fun x H1 => x = .ref a ∧ cls = .ref C ∧ ∃ (dd : Addr) (v : V), d = some dd ∧ H1 dd = some (.xd [(("given" : Str), v)]) ∧ Q v H1
theorem pe_given {a : Addr} {oe : Obj} {cls : Value} {d : Option Addr} {pn : List (Addr × Obj)} {e : Expr} {te : TE} {pos : Pos} (T : K8X.NumTxt X.K X.mg C i0) (hz : Zc cls d oe) (hf : ∃ vs, oe.data = .fields vs) (he : PE (X.suite a ((a, oe) :: pn)) e te)
    (hb : attributeBase e "given" X.env (eval e X.env) = eval e X.env := by rfl) : PE (X.suite a ((a, oe) :: pn)) (.Attribute e "given" pos) (tGiven C a cls d te) := by
  refine ⟨fun pins s σ H Q I h => ?_⟩
  refine attr_of hb (thn (he.run pins s σ H _ I h) fun u s1 hh => ?_)
  obtain ⟨x, H1, I1, rx, rfl, rfl, dd, v, rfl, ea, q⟩ := hh
  obtain rfl : u = Value.ref a := rx
  obtain ⟨ga, _⟩ := I1.pin (a, oe) (List.mem_append_left _ List.mem_cons_self)
  obtain ⟨vs, hd⟩ := hf
  obtain ⟨mA, hns, rel⟩ := (show ObjOk X.prog X.w H1 s1.heap dd (.xd [(("given" : Str), v)]) from I1.hok dd _ ea)
  obtain ⟨od, ho, hl⟩ := lookIn_ns hns
  have l : List.lookup ("given" : Str) [(("given" : Str), v)] = some v := by simp [List.lookup]
  obtain ⟨u, hu, ru⟩ := RelO.some_of (v := v) (o := mA "given") (by rw [← l]; exact rel "given")
  have J : PySem.W.InstAt s1.heap a oe C (some od) := ⟨ga, hz.1, by unfold PySem.W.notCls; rw [hd] <;> rfl, by rw [hz.2]; exact ho⟩
  exact HandSPX.exc_get I1.kIn J T.reads T.reads2 T.isExc (PySem.W.findObj_own T.dict T.noGiven rfl (by rw [hl, hu])) (handed_of ru) ⟨v, H1, I1.tok _, ru, q⟩
end
end K8
namespace K8
open PySem PySem.Spec PyProof.Rows L2 RZ
theorem atI_nat {α : Type} {xs : List α} {j : Nat} {x : α} (h : xs[j]? = some x) : atI xs ((j : Nat) : Int) = some x := by
  have hl := (List.getElem?_eq_some_iff.mp h).1
  unfold atI ixN
  rw [if_pos (by omega), if_pos (by omega), Int.toNat_natCast]
  exact h
theorem ixN_nat {n j : Nat} (h : j < n) : ixN n ((j : Nat) : Int) = some j := by
  unfold ixN
  rw [if_pos (by omega), if_pos (by omega), Int.toNat_natCast]
theorem iV_len (L : List Int) : (iV L).length = L.length := List.length_map ..
theorem iV_get {L : List Int} {j : Nat} {x : Int} (h : L[j]? = some x) : (iV L)[j]? = some (.int x) := by rw [List.getElem?_map, h]; rfl
theorem iV_getD {L : List Int} {j : Nat} (h : j < L.length) : (iV L)[j]? = some (.int (L.getD j 0)) := by
  refine iV_get ?_
  rw [List.getD_eq_getElem?_getD, List.getElem?_eq_getElem h]
  rfl
theorem iV_set (L : List Int) (j : Nat) (x : Int) : (iV L).set j (.int x) = iV (L.set j x) := by rw [iV, iV, List.map_set]
theorem getD_mem {L : List Int} {j : Nat} (h : j < L.length) : L.getD j 0 ∈ L := by
  rw [List.getD_eq_getElem?_getD, List.getElem?_eq_getElem h]
  exact List.getElem_mem h
theorem sg_small (n : Nat) : -(2 ^ 64) < sg n ∧ sg n < 2 ^ 64 := by
  unfold sg
  split <;> decide
def spWF : Sp := fun vs H Q _ => ∃ (a : Addr) (S : List Int) (size : Nat) (c : Int), vs = [.ref a, .int (size : Int), .int c] ∧ H a = some (.lst (iV S)) ∧ 1 ≤ size ∧ size ≤ 100 ∧ 1 ≤ S.length ∧ S.length ≤ 100 ∧ wfOk S size c = true ∧
  ∀ H' p, Same H H' → H p = none → H' p = some (.lst (iV (wf S size c))) → Q (.ref p) H'
theorem scWF : FnScope ["series", "size", "count", "sign", "exponent", "found", "number", "many", "at"] ["series", "size", "count"] (defScope sWF) := ⟨rfl, rfl, rfl, by decide +kernel, rfl, by decide +kernel, by decide +kernel⟩
section
variable {P : Program} {w : World} {K : PySem.W.Frag} {mg : Str → Option Value} {base : Heap}
theorem ok_wf {f : Addr} {fd : FuncData} (F : Fun K "_with_factor" "_with_factor" sWF f fd) (T : Txt K mg) : FnOk P w K mg base CX0 1 f fd ["series", "size", "count"] spWF := by
  refine F.ok scWF (fun vs H Q E h => ?_) (fun cdv A outer s H vs Q E hr h => ?_)
  · obtain ⟨a, S, size, c, rfl, _⟩ := h; rfl
  obtain ⟨a, S, size, c, rfl, ha, z1, z2, l1, l2, ok, k⟩ := h
  refine ⟨_, C8.pss_cut (ps_asg (pe_ifExp (pt_cmpR op_eq (pe_op op_mod (pv 1) pe_int) pe_int (nomark _)) (pe_tup (pa_cons pe_int (pa_cons (pv 2) pa_nil))) (pe_tup (pa_cons (pe_un un_neg pe_int) (pa_cons (pe_un un_neg (pv 2)) pa_nil))))
      (pg_tup (by rfl) (pgs_cons (pg_name (i := 3) scWF.nd rfl (.inl rfl)) (pgs_cons (pg_name (i := 4) scWF.nd rfl (.inl rfl)) pgs_nil))))
    (pss_cons (ps_set (i := 5) scWF.nd rfl (.inl rfl) (pe_callTy call_list_of (by rfl) T.list bootList (pa_cons (pv 0) pa_nil)))
    (pss_cons (ps_set (i := 6) scWF.nd rfl (.inl rfl) pe_int)
    (pss_cons (ps_for PassesOwn.never rfl (pi_range2 rfl T.range (pa_cons pe_int (pa_cons (pe_op op_add (pe_op op_fdiv (pe_op op_sub (pe_callB call_len_seq (by rfl) T.len PySem.boot_len (pa_cons (pv 0) pa_nil)) pe_int) (pv 1)) pe_int) pa_nil))) (pg_name (i := 7) scWF.nd rfl (.inl rfl))
      (pss_cons (ps_set (i := 6) scWF.nd rfl (.inl rfl) (pe_op op_fdiv (pe_op op_mulW (pe_op op_mul (pv 3) (pv 6)) (pe_op op_add (pe_op op_sub (pv 4) (pv 7)) pe_int)) (pv 7)))
      (pss_one (ps_for PassesOwn.never rfl (pi_range2 rfl T.range (pa_cons (pe_op op_mul (pv 7) (pv 1)) (pa_cons (pe_callB call_len_seq (by rfl) T.len PySem.boot_len (pa_cons (pv 0) pa_nil)) pa_nil))) (pg_name (i := 8) scWF.nd rfl (.inl rfl))
        (pss_one (ps_asg (pe_op op_add (pe_ix ix_list (pv 5) (pv 8) (fun _ _ => rfl)) (pe_op op_mulW (pv 6) (pe_ix ix_list (pv 0) (pe_op op_sub (pv 8) (pe_op op_mul (pv 7) (pv 1))) (fun _ _ => rfl)))) (pg_sub (pv 5) (pv 8) set_list)))))))
    (pss_one (ps_ret (pv 5)))))), ?_⟩
  have ls : (iV S).length = S.length := iV_len S
  refine ⟨fun σ' H' => σ' = [some (.ref a), some (.int (size : Int)), some (.int c), some (.int (sg size)), some (.int (ex size c)), none, none, none, none] ∧ Same H H', ?_, ?_⟩
  · refine ⟨_, rfl, _, _, rfl, rfl, (by show (0 : Int) < 2; decide), rfl, _, rfl, ite2 (fun b => ?_) (fun b => ?_)⟩
    · have b := V.int.inj (of_decide_eq_true b)
      have b' : size % 2 = 1 := by omega
      refine ⟨_, rfl, by show 2 ≤ sizeLine; decide, fun t ht => ⟨t, _, rfl, SqT.of upd_same, rfl, _, _, rfl, _, _, rfl, rfl, ?_, Same.new ht⟩⟩
      unfold sg ex
      rw [if_pos b', if_pos b']
      rfl
    · have b' : ¬ size % 2 = 1 := fun q => b (decide_eq_true (congrArg V.int (by omega)))
      refine ⟨_, rfl, _, rfl, _, rfl, by show 2 ≤ sizeLine; decide, fun t ht => ⟨t, _, rfl, SqT.of upd_same, rfl, _, _, rfl, _, _, rfl, rfl, ?_, Same.new ht⟩⟩
      unfold sg ex
      rw [if_neg b', if_neg b']
      rfl
  rintro _ Hm ⟨rfl, sm⟩
  have ham := sm _ _ ha
  refine ⟨_, rfl, a, _, rfl, .inl (SqL.of ham), fun p hp => ?_⟩
  have hpH : H p = none := by
    cases e : H p with
    | none => rfl
    | some o => rw [sm p o e] at hp; cases hp
  have s0 : Same H (upd Hm p (.lst (iV S))) := sm.trans (Same.new hp)
  have dv : ((S.length : Int) - 1) / (size : Int) = (((S.length - 1) / size : Nat) : Int) := by
    rw [show ((S.length : Int) - 1) = ((S.length - 1 : Nat) : Int) by omega, Int.natCast_ediv]
  have top : (S.length - 1) / size ≤ 100 := Nat.le_trans (Nat.div_le_self _ _) (by omega)
  obtain ⟨n, hn⟩ : ∃ n, (S.length - 1) / size = n := ⟨_, rfl⟩
  rw [hn] at dv top
  refine ⟨_, rfl, a, _, rfl, .inl (SqL.of (s0 _ _ ha)), _, _, rfl, rfl, _, rfl, _, _, rfl, rfl, ⟨by omega, by omega⟩, _, _, rfl, rfl, _, _, rfl, ?_, ?_⟩
  · rw [ls, dv]
    exact ⟨by omega, by omega, by omega, by omega⟩
  rw [ls, dv]
  have en : (((n : Nat) : Int) + 1 - 1).toNat = n := by omega
  rw [en]
  refine for_it (walk_range (lo := 1) (n := n)) (fun i σ H' => (∃ o7 o8, σ = [some (.ref a), some (.int (size : Int)), some (.int c), some (.int (sg size)), some (.int (ex size c)), some (.ref p), some (.int (bn (sg size) (ex size c) i)), o7, o8]) ∧ H' p = some (.lst (iV (wfAt S size (sg size) (ex size c) i))) ∧ Same H H')
    ⟨⟨none, none, rfl⟩, upd_same, s0⟩ (fun _ _ _ _ _ => trivial) (fun i x σ H0 H1 hi q y => ?_) fun σ H1 q => ?_
  · obtain ⟨⟨o7, o8, rfl⟩, hp1, s1⟩ := q
    obtain ⟨rfl, rfl⟩ := y
    have e1 : (1 : Int) + (i : Int) = ((i + 1 : Nat) : Int) := by omega
    change gName 7 (V.int (1 + (i : Int))) _ _ _
    rw [e1]
    have hi' : i < (S.length - 1) / size := by omega
    have okn := wfOk_num ok hi'
    have ha1 := s1 _ _ ha
    have lim : (i + 1) * size ≤ S.length - 1 := Nat.le_trans (Nat.mul_le_mul_right size hi') (Nat.div_mul_le_self _ _)
    have eo : (((i + 1 : Nat) : Int)) * (size : Int) = (((i + 1) * size : Nat) : Int) := by rw [Int.natCast_mul]
    have i100 : i + 1 ≤ 100 := by omega
    refine ⟨_, rfl, _, rfl, _, _, rfl, rfl, .inl (sg_small size), _, rfl, _, rfl, _, _, rfl, rfl, _, _, rfl, rfl, _, _, rfl, rfl, okn, _, rfl, _, _, rfl, rfl, ⟨by omega, by omega⟩, ?_⟩
    refine ⟨_, rfl, _, rfl, _, _, rfl, rfl, .inl ⟨by omega, by omega⟩, _, rfl, a, _, rfl, .inl (SqL.of ha1), _, _, rfl, ⟨by rw [eo]; omega, by rw [eo]; omega, by omega, by omega⟩, ?_⟩
    refine for_it (walk_range (lo := ((i + 1 : Nat) : Int) * (size : Int)) (n := (((iV S).length : Int) - ((i + 1 : Nat) : Int) * (size : Int)).toNat)) (fun j σ H' => (∃ o8, σ = [some (.ref a), some (.int (size : Int)), some (.int c), some (.int (sg size)), some (.int (ex size c)), some (.ref p), some (.int (bn (sg size) (ex size c) (i + 1))), some (.int ((i + 1 : Nat) : Int)), o8]) ∧
        H' p = some (.lst (iV (addUp (wfAt S size (sg size) (ex size c) i) S ((i + 1) * size) (bn (sg size) (ex size c) (i + 1)) ((i + 1) * size + j)))) ∧ Same H H')
      ⟨⟨o8, rfl⟩, ?_, s1⟩ (fun _ _ _ _ _ => trivial) (fun j x σ H2 H3 hj q y => ?_) fun σ H2 q => ?_
    · rw [addUp_start _ _ _ _ _ (by omega)]
      exact hp1
    · obtain ⟨⟨o8, rfl⟩, hp2, s2⟩ := q
      obtain ⟨rfl, rfl⟩ := y
      have ha2 := s2 _ _ ha
      have lw := wfAt_len S size (sg size) (ex size c) i
      have e2 : ((i + 1 : Nat) : Int) * (size : Int) + (j : Int) = (((i + 1) * size + j : Nat) : Int) := by rw [eo]; omega
      rw [eo, ls] at hj
      change gName 8 (V.int (((i + 1 : Nat) : Int) * (size : Int) + (j : Int))) _ _ _
      rw [e2]
      have hj' : (i + 1) * size + j < S.length := by omega
      have at1 : atI (iV (addUp (wfAt S size (sg size) (ex size c) i) S ((i + 1) * size) (bn (sg size) (ex size c) (i + 1)) ((i + 1) * size + j))) (((i + 1) * size + j : Nat) : Int) = some (.int ((wfAt S size (sg size) (ex size c) i).getD ((i + 1) * size + j) 0)) :=
        atI_nat (iV_get (addUp_at _ _ _ _ _ (by omega)))
      have at2 : atI (iV S) ((j : Nat) : Int) = some (.int (S.getD j 0)) := atI_nat (iV_getD (by omega))
      have at3 : atI (iV S) ((((i + 1) * size + j : Nat) : Int) - ((i + 1 : Nat) : Int) * (size : Int)) = some (.int (S.getD j 0)) := by
        rw [eo, show ((((i + 1) * size + j : Nat) : Int)) - (((i + 1) * size : Nat) : Int) = ((j : Nat) : Int) by omega]
        exact at2
      refine ⟨_, rfl, _, rfl, p, _, _, _, rfl, rfl, SqL.of hp2, at1, _, rfl, _, rfl, _, rfl, _, rfl, _, rfl, _, _, rfl, rfl, .inl ⟨by omega, by omega⟩, _, _, rfl, rfl, a, _, _, _, rfl, rfl, SqL.of ha2, at3, ?_⟩
      refine ⟨_, _, rfl, rfl, wfOk_at ok hi' (getD_mem (by omega)), _, _, rfl, rfl, _, rfl, _, rfl, p, _, _, (i + 1) * size + j, rfl, rfl, hp2, ixN_nat (by rw [iV_len, addUp_len]; omega), ⟨_, rfl⟩, ?_, Same.back s2 hpH⟩
      rw [upd_same, iV_set]
      have st := addUp_step (wfAt S size (sg size) (ex size c) i) S ((i + 1) * size) (bn (sg size) (ex size c) (i + 1)) ((i + 1) * size + j) (by omega) (by omega)
      rw [show (i + 1) * size + j - (i + 1) * size = j by omega] at st
      rw [st]
      rfl
    · obtain ⟨⟨o8, rfl⟩, hp2, s2⟩ := q
      refine ⟨⟨_, _, rfl⟩, ?_, s2⟩
      rw [hp2, show (i + 1) * size + (((iV S).length : Int) - ((i + 1 : Nat) : Int) * (size : Int)).toNat = S.length by rw [eo, ls]; omega]
      rfl
  · obtain ⟨⟨o7, o8, rfl⟩, hp1, s1⟩ := q
    refine ⟨_, rfl, k H1 p s1 hpH ?_⟩
    rw [hp1]
    unfold wf
    rw [hn]
end
end K8
namespace K8
open PySem PySem.Spec PyProof.Rows L2 RZ
theorem none_at {H H' : Hp} {p : Addr} (s : Same H H') (h : H' p = none) : H p = none := by
  cases e : H p with
  | none => rfl
  | some o =>
    rw [s p o e] at h
    cases h
def spOne : Sp := fun vs H Q _ => ∃ N : Nat, vs = [.int (N : Int)] ∧ N ≤ 900 ∧ ∀ H' p, Same H H' → H p = none → H' p = some (.lst (iV (one N))) → Q (.ref p) H'
def spCo (K : PySem.W.Frag) : Sp := fun vs H Q _ => ∃ (a : Addr) (S : List Int), vs = [.ref a] ∧ (SqL K H a (iV S) ∨ SqT K H a (iV S)) ∧ 1 ≤ S.length ∧ S.length ≤ 100 ∧ countsOk S = true ∧
  ∀ H' p, Same H H' → H p = none → H' p = some (.tup (iV (countsOf S))) → Q (.ref p) H'
def spSerL : Sp := fun vs H Q _ => ∃ (a : Addr) (C : List Int) (N : Nat), vs = [.ref a, .int (N : Int)] ∧ H a = some (.lst (iV C)) ∧ C.length ≤ 90 ∧ N ≤ 90 ∧ seriesOk C N = true ∧
  ∀ H' p, Same H H' → H p = none → H' p = some (.tup (iV (seriesOf C N))) → Q (.ref p) H'
def spSerT (K : PySem.W.Frag) : Sp := fun vs H Q _ => ∃ (a : Addr) (C : List Int) (N : Nat), vs = [.ref a, .int (N : Int)] ∧ SqT K H a (iV C) ∧ C.length ≤ 90 ∧ N ≤ 90 ∧ seriesOk C N = true ∧
  ∀ H' p, Same H H' → H p = none → H' p = some (.tup (iV (seriesOf C N))) → Q (.ref p) H'
theorem scOne : FnScope ["most"] ["most"] (defScope sOne) := ⟨rfl, rfl, rfl, by decide +kernel, rfl, by decide +kernel, by decide +kernel⟩
theorem scCo : FnScope ["series", "rest", "counts", "size", "count"] ["series"] (defScope sCtsOf) := ⟨rfl, rfl, rfl, by decide +kernel, rfl, by decide +kernel, by decide +kernel⟩
theorem scSer : FnScope ["counts", "most", "series", "at", "count"] ["counts", "most"] (defScope sSerOf) := ⟨rfl, rfl, rfl, by decide +kernel, rfl, by decide +kernel, by decide +kernel⟩
section
variable {P : Program} {w : World} {K : PySem.W.Frag} {mg : Str → Option Value} {base : Heap} {fW fO : Addr} {dW dO : FuncData}
theorem ok_one {f : Addr} {fd : FuncData} (F : Fun K "one_series" "one_series" sOne f fd) : FnOk P w K mg base CX0 1 f fd ["most"] spOne := by
  refine F.ok scOne (fun vs H Q E h => ?_) (fun cdv A outer s H vs Q E hr h => ?_)
  · obtain ⟨N, rfl, _⟩ := h; rfl
  obtain ⟨N, rfl, hN, k⟩ := h
  refine ⟨_, pss_one (ps_ret (pe_op op_cat (pe_lst (pa_cons pe_int pa_nil)) (pe_op op_rep (pe_lst (pa_cons pe_int pa_nil)) (pv 0)))), ?_⟩
  refine ⟨by show 1 ≤ sizeLine; decide, fun p hp => ⟨by show 1 ≤ sizeLine; decide, fun q hq => ⟨_, rfl, q, _, _, rfl, rfl, upd_same, by omega, by omega, ?_, fun r hr => ?_⟩⟩⟩
  · show 1 * (N : Int).toNat ≤ sizeLine
    exact Nat.le_of_lt (small1000 (by omega))
  have sp : Same H (upd H p (.lst [.int 1])) := Same.new hp
  have sq : Same (upd H p (.lst [.int 1])) (upd (upd H p (.lst [.int 1])) q (.lst [.int 0])) := Same.new hq
  have sr := Same.new (o := .lst (List.replicate (N : Int).toNat [V.int 0]).flatten) hr
  have e : (List.replicate (N : Int).toNat [V.int 0]).flatten = iV (List.replicate N 0) := by
    rw [Int.toNat_natCast, iV, List.map_replicate]
    have h : ∀ n : Nat, (List.replicate n [V.int 0]).flatten = List.replicate n (V.int 0) := fun n => by
      induction n with
      | zero => rfl
      | succ n ih => rw [List.replicate_succ, List.flatten_cons, ih, List.replicate_succ]; rfl
    exact h N
  refine ⟨p, r, _, _, rfl, rfl, sr _ _ (sq _ _ upd_same), upd_same, ?_, fun t ht => k _ t ((sp.trans (sq.trans sr)).trans (Same.new ht)) (none_at (sp.trans (sq.trans sr)) ht) ?_⟩
  · rw [e, iV_len, List.length_replicate]
    exact Nat.le_of_lt (small1000 (by show 1 + N ≤ 1000; omega))
  · rw [upd_same, e]
    rfl
theorem ok_co {f : Addr} {fd : FuncData} (F : Fun K "_counts_of" "_counts_of" sCtsOf f fd) (T : Txt K mg) (gW : mg "_with_factor" = some (.ref fW)) (kW : PySem.W.keepIn K (.ref fW) = true) (bW : Binds K dW ["series", "size", "count"] [])
    (FW : FnOk P w K mg base CX0 1 fW dW ["series", "size", "count"] spWF) : FnOk P w K mg base CX0 2 f fd ["series"] (spCo K) := by
  refine F.ok scCo (fun vs H Q E h => ?_) (fun cdv A outer s H vs Q E hr h => ?_)
  · obtain ⟨a, S, rfl, _⟩ := h; rfl
  obtain ⟨a, S, rfl, ha, l1, l2, ok, k⟩ := h
  refine ⟨_, pss_cons (ps_set (i := 1) scCo.nd rfl (.inl rfl) (pe_callTy call_list_of (by rfl) T.list bootList (pa_cons (pv 0) pa_nil)))
    (pss_cons (ps_set (i := 2) scCo.nd rfl (.inl rfl) (pe_lst pa_nil))
    (pss_cons (ps_for PassesOwn.never rfl (pi_range2 rfl T.range (pa_cons pe_int (pa_cons (pe_callB call_len_seq (by rfl) T.len PySem.boot_len (pa_cons (pv 1) pa_nil)) pa_nil))) (pg_name (i := 3) scCo.nd rfl (.inl rfl))
      (pss_cons (ps_set (i := 4) scCo.nd rfl (.inl rfl) (pe_ix ix_list (pv 1) (pv 3) (fun _ _ => rfl)))
      (pss_cons (ps_expr (pe_bm PySem.F.plainAttrs_list PySem.F.slot_list_append PySem.F.type_list_append mt_append (pv 2) (pa_cons (pv 4) pa_nil)))
      (pss_one (ps_set (i := 1) scCo.nd rfl (.inl rfl) (pe_call FW hr (by rfl) gW kW bW .nil pass0 (pa_cons (pv 1) (pa_cons (pv 3) (pa_cons (pe_un un_neg (pv 4)) pa_nil)))))))))
    (pss_one (ps_ret (pe_callTy call_tuple_of (by rfl) T.tuple bootTuple (pa_cons (pv 2) pa_nil)))))), ?_⟩
  have ls : (iV S).length = S.length := iV_len S
  refine ⟨_, rfl, a, _, rfl, ha, fun r hr0 => ⟨by show 0 ≤ sizeLine; decide, fun c hc0 => ?_⟩⟩
  have sr := Same.new (o := .lst (iV S)) hr0
  have sc := Same.new (o := .lst []) hc0
  have ne : r ≠ c := ne_of_none upd_same hc0
  have hcH : H c = none := none_at sr hc0
  refine ⟨_, rfl, r, _, rfl, .inl (SqL.of (sc _ _ upd_same)), _, _, rfl, ⟨by omega, by omega, by omega, by omega⟩, ?_⟩
  refine for_it (walk_range (lo := 1) (n := (((iV S).length : Int) - 1).toNat)) (fun i σ H' => (∃ r' o3 o4, σ = [some (.ref a), some (.ref r'), some (.ref c), o3, o4] ∧ H' r' = some (.lst (iV (coRest S i))) ∧ r' ≠ c ∧ H r' = none) ∧ H' c = some (.lst (iV ((List.range i).map (coAt S)))) ∧ Same H H')
    ⟨⟨r, none, none, rfl, sc _ _ upd_same, ne, hr0⟩, upd_same, sr.trans sc⟩ (fun _ _ _ _ _ => trivial) (fun i x σ H0 H1 hi q y => ?_) fun σ H1 q => ?_
  · obtain ⟨⟨r', o3, o4, rfl, hr1, ne1, hn1⟩, hc1, s1⟩ := q
    obtain ⟨rfl, rfl⟩ := y
    have e1 : (1 : Int) + (i : Int) = ((i + 1 : Nat) : Int) := by omega
    change gName 3 (V.int (1 + (i : Int))) _ _ _
    rw [e1]
    have lr := coRest_len S i
    refine ⟨_, rfl, _, rfl, r', _, _, _, rfl, rfl, SqL.of hr1, atI_nat (iV_getD (by omega)), _, rfl, .inl ⟨rfl, _, SqL.of hc1⟩, _, rfl, c, _, _, rfl, rfl, hc1, small1000 (by rw [iV_len, List.length_map, List.length_range]; omega), ?_⟩
    have hr2 : upd H1 c (.lst (iV ((List.range i).map (coAt S)) ++ [.int ((coRest S i).getD (i + 1) 0)])) r' = some (.lst (iV (coRest S i))) := by rw [upd_ne ne1]; exact hr1
    refine ⟨_, rfl, _, rfl, _, rfl, _, rfl, r', coRest S i, i + 1, _, rfl, hr2, by omega, by omega, by omega, by omega, countsOk_at ok (by omega), fun H2 p s2 hp hp2 => ?_⟩
    have sb : Same H H2 := (Same.back s1 hcH).trans s2
    have hpc : p ≠ c := fun z => by rw [z, upd_same] at hp; cases hp
    refine ⟨⟨p, _, _, rfl, hp2, hpc, none_at (Same.back s1 hcH) hp⟩, ?_, sb⟩
    rw [s2 _ _ upd_same, List.range_succ]
    simp only [iV, List.map_append]
    rfl
  · obtain ⟨⟨r', o3, o4, rfl, hr1, ne1, hn1⟩, hc1, s1⟩ := q
    refine ⟨_, rfl, c, _, rfl, .inl ⟨SqL.of hc1, fun l hl => k _ l (s1.trans (Same.new hl)) (none_at s1 hl) ?_⟩⟩
    rw [upd_same, show (((iV S).length : Int) - 1).toNat = S.length - 1 by omega]
    rfl
theorem ok_serL {f : Addr} {fd : FuncData} (F : Fun K "_series_of" "_series_of" sSerOf f fd) (T : Txt K mg) (gW : mg "_with_factor" = some (.ref fW)) (kW : PySem.W.keepIn K (.ref fW) = true) (bW : Binds K dW ["series", "size", "count"] [])
    (FW : FnOk P w K mg base CX0 1 fW dW ["series", "size", "count"] spWF) (gO : mg "one_series" = some (.ref fO)) (kO : PySem.W.keepIn K (.ref fO) = true) (bO : Binds K dO ["most"] [])
    (FO : FnOk P w K mg base CX0 1 fO dO ["most"] spOne) : FnOk P w K mg base CX0 2 f fd ["counts", "most"] spSerL := by
  refine F.ok scSer (fun vs H Q E h => ?_) (fun cdv A outer s H vs Q E hr h => ?_)
  · obtain ⟨a, C, N, rfl, _⟩ := h; rfl
  obtain ⟨a, C, N, rfl, ha, l1, l2, ok, k⟩ := h
  refine ⟨_, pss_cons (ps_set (i := 2) scSer.nd rfl (.inl rfl) (pe_call FO hr (by rfl) gO kO bO .nil pass0 (pa_cons (pv 1) pa_nil)))
    (pss_cons (ps_for PassesOwn.never rfl (pi_enum (by rfl) T.enumerate (pa_cons (pv 0) pa_nil)) (pg_tup (by rfl) (pgs_cons (pg_name (i := 3) scSer.nd rfl (.inl rfl)) (pgs_cons (pg_name (i := 4) scSer.nd rfl (.inl rfl)) pgs_nil)))
      (pss_one (ps_set (i := 2) scSer.nd rfl (.inl rfl) (pe_call FW hr (by rfl) gW kW bW .nil pass0 (pa_cons (pv 2) (pa_cons (pe_op op_add (pv 3) pe_int) (pa_cons (pv 4) pa_nil)))))))
    (pss_one (ps_ret (pe_callTy call_tuple_of (by rfl) T.tuple bootTuple (pa_cons (pv 2) pa_nil))))), ?_⟩
  refine ⟨_, rfl, N, rfl, by omega, fun H0 r s0 hr0 hr1 => ?_⟩
  have ha0 := s0 _ _ ha
  refine ⟨_, rfl, a, _, rfl, SqL.of ha0, ?_⟩
  refine for_it (walk_enum (xs := iV C)) (fun i σ H' => (∃ r' o3 o4, σ = [some (.ref a), some (.int (N : Int)), some (.ref r'), o3, o4] ∧ H' r' = some (.lst (iV (serAt C N i)))) ∧ Same H H')
    ⟨⟨r, none, none, rfl, hr1⟩, s0⟩ (fun _ _ H' _ q => SqL.of (q.2 _ _ ha)) (fun i x σ H1 H2 hi q y => ?_) fun σ H1 q => ?_
  · obtain ⟨⟨r', o3, o4, rfl, hr2⟩, s1⟩ := q
    obtain ⟨t, u, v, rfl, ht, rfl, hu, hv⟩ := y
    cases hu
    rw [iV_len] at hi
    have hv : (iV C)[i]? = some v := hv
    rw [iV_getD hi] at hv
    cases hv
    have st := Same.new (o := .tup [.int (i : Int), .int (C.getD i 0)]) ht
    have ls := serAt_len C N i
    refine ⟨t, _, rfl, SqT.of upd_same, rfl, _, _, rfl, _, _, rfl, rfl, ?_⟩
    refine ⟨_, rfl, _, rfl, _, _, rfl, rfl, _, rfl, r', serAt C N i, i + 1, _, rfl, st _ _ hr2, by omega, by omega, by omega, by omega, seriesOk_at ok hi, fun H3 p s3 hp hp3 => ?_⟩
    exact ⟨⟨p, _, _, rfl, hp3⟩, s1.trans (st.trans s3)⟩
  · obtain ⟨⟨r', o3, o4, rfl, hr2⟩, s1⟩ := q
    refine ⟨_, rfl, r', _, rfl, .inl ⟨SqL.of hr2, fun l hl => k _ l (s1.trans (Same.new hl)) (none_at s1 hl) ?_⟩⟩
    rw [upd_same, iV_len]
    rfl
theorem ok_serT {f : Addr} {fd : FuncData} (F : Fun K "_series_of" "_series_of" sSerOf f fd) (T : Txt K mg) (gW : mg "_with_factor" = some (.ref fW)) (kW : PySem.W.keepIn K (.ref fW) = true) (bW : Binds K dW ["series", "size", "count"] [])
    (FW : FnOk P w K mg base CX0 1 fW dW ["series", "size", "count"] spWF) (gO : mg "one_series" = some (.ref fO)) (kO : PySem.W.keepIn K (.ref fO) = true) (bO : Binds K dO ["most"] [])
    (FO : FnOk P w K mg base CX0 1 fO dO ["most"] spOne) : FnOk P w K mg base CX0 2 f fd ["counts", "most"] (spSerT K) := by
  refine F.ok scSer (fun vs H Q E h => ?_) (fun cdv A outer s H vs Q E hr h => ?_)
  · obtain ⟨a, C, N, rfl, _⟩ := h; rfl
  obtain ⟨a, C, N, rfl, ha, l1, l2, ok, k⟩ := h
  refine ⟨_, pss_cons (ps_set (i := 2) scSer.nd rfl (.inl rfl) (pe_call FO hr (by rfl) gO kO bO .nil pass0 (pa_cons (pv 1) pa_nil)))
    (pss_cons (ps_for PassesOwn.never rfl (pi_enumT (by rfl) T.enumerate (pa_cons (pv 0) pa_nil)) (pg_tup (by rfl) (pgs_cons (pg_name (i := 3) scSer.nd rfl (.inl rfl)) (pgs_cons (pg_name (i := 4) scSer.nd rfl (.inl rfl)) pgs_nil)))
      (pss_one (ps_set (i := 2) scSer.nd rfl (.inl rfl) (pe_call FW hr (by rfl) gW kW bW .nil pass0 (pa_cons (pv 2) (pa_cons (pe_op op_add (pv 3) pe_int) (pa_cons (pv 4) pa_nil)))))))
    (pss_one (ps_ret (pe_callTy call_tuple_of (by rfl) T.tuple bootTuple (pa_cons (pv 2) pa_nil))))), ?_⟩
  refine ⟨_, rfl, N, rfl, by omega, fun H0 r s0 hr0 hr1 => ?_⟩
  refine ⟨_, rfl, a, _, rfl, tupSame s0 ha, ?_⟩
  refine for_it (walk_enumT (xs := iV C)) (fun i σ H' => (∃ r' o3 o4, σ = [some (.ref a), some (.int (N : Int)), some (.ref r'), o3, o4] ∧ H' r' = some (.lst (iV (serAt C N i)))) ∧ Same H H')
    ⟨⟨r, none, none, rfl, hr1⟩, s0⟩ (fun _ _ H' _ q => tupSame q.2 ha) (fun i x σ H1 H2 hi q y => ?_) fun σ H1 q => ?_
  · obtain ⟨⟨r', o3, o4, rfl, hr2⟩, s1⟩ := q
    obtain ⟨t, u, v, rfl, ht, rfl, hu, hv⟩ := y
    cases hu
    rw [iV_len] at hi
    have hv : (iV C)[i]? = some v := hv
    rw [iV_getD hi] at hv
    cases hv
    have st := Same.new (o := .tup [.int (i : Int), .int (C.getD i 0)]) ht
    have ls := serAt_len C N i
    refine ⟨t, _, rfl, SqT.of upd_same, rfl, _, _, rfl, _, _, rfl, rfl, ?_⟩
    refine ⟨_, rfl, _, rfl, _, _, rfl, rfl, _, rfl, r', serAt C N i, i + 1, _, rfl, st _ _ hr2, by omega, by omega, by omega, by omega, seriesOk_at ok hi, fun H3 p s3 hp hp3 => ?_⟩
    exact ⟨⟨p, _, _, rfl, hp3⟩, s1.trans (st.trans s3)⟩
  · obtain ⟨⟨r', o3, o4, rfl, hr2⟩, s1⟩ := q
    refine ⟨_, rfl, r', _, rfl, .inl ⟨SqL.of hr2, fun l hl => k _ l (s1.trans (Same.new hl)) (none_at s1 hl) ?_⟩⟩
    rw [upd_same, iV_len]
    rfl
end
end K8
namespace K8
open PySem PySem.Spec PyProof.Rows L2 RZ
/-! ### tuples whose object is known, and their methods -/
/-- a tuple at a whose object has no dict of its own -/
def TupF (H : Hp) (a : Addr) (xs : List V) : Prop := ∃ od : Obj, H a = some (.frz od (.tup xs)) ∧ od.cls = .type "tuple" ∧ od.dict = none
theorem TupF.sq {K : PySem.W.Frag} {H : Hp} {a : Addr} {xs : List V} (h : TupF H a xs) : SqT K H a xs := by
  obtain ⟨od, e, _⟩ := h
  exact .inl (.inr ⟨od, e⟩)
theorem TupF.mono {H H' : Hp} {a : Addr} {xs : List V} (h : TupF H a xs) (s : Same H H') : TupF H' a xs := by
  obtain ⟨od, e, r⟩ := h
  exact ⟨od, s _ _ e, r⟩
def rMulF (K : PySem.W.Frag) : R2 := fun x y H Q => ∃ a m xs, x = .ref a ∧ y = .int m ∧ SqT K H a xs ∧ xs ≠ [] ∧ 2 ≤ m ∧ m ≤ 1000 ∧ xs.length ≤ 1000 ∧
  ∀ p od, H p = none → od.cls = .type "tuple" → od.dict = none → Q (.ref p) (upd H p (.frz od (.tup (List.replicate m.toNat xs).flatten)))
theorem op_mulF {X : Cx} : OpR X (binaryOp .Mult) (rMulF X.K) := by
  intro pins s σ H x y v u Q I rx ry h
  obtain ⟨a, m, xs, rfl, rfl, hT, h0, m2, m3, l3, k⟩ := h
  cases rx
  obtain ⟨tk, rfl⟩ := ry
  obtain ⟨zs, rz, ⟨⟨cl, dc, dt, sls⟩, go, gc, cap, gd⟩, _⟩ := I.tuple hT
  simp only at gc gd
  subst gc gd
  have ll : zs.length = xs.length := rz.length.symm
  have sz : zs.toArray.size = xs.length := by rw [List.size_toArray, ll]
  have pos : 1 ≤ xs.length := by
    cases xs with
    | nil => exact absurd rfl h0
    | cons _ _ => exact Nat.le_add_left _ _
  have em : zs.toArray.isEmpty = false := by
    cases zs with
    | nil => rw [List.length_nil] at ll; omega
    | cons _ _ => rfl
  have big : m.toNat * xs.length ≤ 1000 * 1000 := Nat.mul_le_mul (by omega) l3
  have bigI : ((zs.toArray.size : Nat) : Int) * m ≤ 1000000 := by
    rw [sz, show m = ((m.toNat : Nat) : Int) by omega, ← Int.natCast_mul, Nat.mul_comm]
    omega
  have fl : (List.replicate m.toNat xs).flatten.length ≤ sizeLine := by
    rw [PyProof.Rows.lm_len_rep_flat, sizeLine_eq]
    omega
  have tm : Builtin.Tuple.tupleTooMany (((zs.toArray.size : Nat) : Int) * m) = false := by
    unfold Builtin.Tuple.tupleTooMany
    rw [sizeLine_eq, decide_eq_false]
    omega
  have t0 : (decide (m < -(2 ^ 63)) || decide (m ≥ 2 ^ 63)) = false := by simp only [Bool.or_eq_false_iff, decide_eq_false_iff_not]; omega
  have t1 : (zs.toArray.isEmpty || m == 1) = false := by rw [em]; exact beq_false_of_ne (by omega)
  have t2 : (decide (m ≤ 0) || zs.toArray.isEmpty) = false := by rw [em, decide_eq_false (by omega)]; rfl
  have sl2 : (List.foldl (fun x1 x2 => x1 ++ x2) #[] (List.replicate m.toNat zs.toArray)).size ≤ sizeLine := by
    rw [size_rep, List.size_toArray, PyProof.Rows.lm_len_rep_flat, ll, sizeLine_eq]
    omega
  have mulR := tuple_mulW a zs.toArray cap dc sls m tk t0 t1 t2 (by omega) tm sl2
  have intR := int_rmul_tuple m tk a zs.toArray cap dc sls
  refine wpAny_binaryOp_repeat_ref (T := "tuple") (U := "int") (by decide) ⟨_, go, rfl⟩ (fun s' => typeIs_int s' m tk) noFill_tuple_mul
    F.fills_int_mul F.slot_int_rmul repeat_tuple F.slot_int_index.lookup ?_
  refine call_meets F.slot_int_rmul (typeIs_int s m tk) F.entry_int_rmul (F.args_int_rmul_2 _ _) intR ⟨go, rfl, ⟨_, go, rfl⟩, ?_⟩
  refine call_meets F.slot_tuple_mul ⟨_, go, rfl⟩ F.entry_tuple_mul (F.args_tuple_mul_2 _ _) mulR ⟨go, ?_⟩
  rw [size_rep]
  have new := I.hok.fresh (Nat.le_refl s.heap.objs.size)
  have got : (s.heap.push { cls := Value.type "tuple", data := Data.seq (List.replicate m.toNat zs).flatten.toArray }).get? s.heap.objs.size = some { cls := Value.type "tuple", data := Data.seq (List.replicate m.toNat zs).flatten.toArray } := Heap.get?_push_size _ rfl
  exact ⟨.ref s.heap.objs.size, _, I.laid (t' := s.toks) (o := .frz { cls := Value.type "tuple", data := Data.seq (List.replicate m.toNat zs).flatten.toArray } (.tup (List.replicate m.toNat xs).flatten)) (fun _ _ q => Heap.get?_push_of_some _ q) (Nat.le_refl _) ⟨got, fl, _, rz.rep m.toNat, IsTup.new _ _⟩, rfl, k _ _ new rfl rfl⟩
/-- x.name(e) of such a tuple -/
def tBMt (r : V → List V → Hp → VK → Prop) (to : TE) (t : TA) : TE := fun σ H Q => to σ H fun x H1 => (∃ a xs, x = .ref a ∧ TupF H1 a xs) ∧ t σ H1 fun xs H2 => r x xs H2 Q
theorem pe_bmt {X : Cx} {o e : Expr} {es : List Expr} {to : TE} {t : TA} {name : Str} {apos cpos : Pos} {id : String} {r : V → List V → Hp → VK → Prop} (pa : PlainAttrs "tuple") (slot : Slot "tuple" name id)
    (hty : typeOf (.builtin id) = pure (.type "method_descriptor")) (hm : MtR X id r) (ho : PE X o to) (ha : PA X (e :: es) t)
    (hb : attributeBase o name X.env (eval o X.env) = eval o X.env := by rfl)
    (hf : ((backTo cpos (starEach (e :: es) X.env)).all (fun x => !x.1) && (backToKw cpos (keywordEach [] X.env)).all (fun x => x.1.isSome) && decide ((e :: es).length + ([] : List Keyword).length + (if ([] : List Keyword).isEmpty then 0 else 1) < 30)) = true := by rfl)
    (hl : (apos.endLine == cpos.line) = true := by rfl) (hs : starEach (e :: es) X.env = (false, eval e X.env) :: starEach es X.env := by rfl)
    (hp : (backTo cpos (starEach es X.env)).any (·.1) = false := by rfl) : PE X (.Call (.Attribute o name apos) (e :: es) [] cpos) (tBMt r to t) := by
  refine ⟨fun pins s σ H Q I h => wpAny_Call_method_late hb hf hl rfl (thn (ho.run pins s σ H _ I h) fun v s1 q => ?_)⟩
  obtain ⟨x, H1, I1, rx, ⟨a, xs, rfl, od, ea, ec, ed⟩, q⟩ := q
  obtain rfl : v = Value.ref a := rx
  have ga := (I1.hok a _ ea).1
  refine ⟨"tuple", id, pa, slot, hty, ⟨od, ga, ec⟩, fun b eb => ?_, ?_⟩
  · cases eb
    exact ⟨od, ga, ed⟩
  have hA := ha.run cpos pins s1 σ H1 _ I1 q
  rw [hs] at hA ⊢
  refine Calls.callWith_builtin ?_ (Calls.evalArgs_plain (thn hA fun us s2 z => ?_))
  · show (false || (backTo cpos (starEach es X.env)).any (·.1)) = false
    rw [hp] <;> rfl
  · obtain ⟨vs, H2, I2, r2, z⟩ := z
    exact hm pins s2 σ H2 (.ref a) vs (.ref a) us Q I2 rfl r2 z
end K8
namespace K8
open PySem PySem.Spec PyProof.Rows L2 RZ
/-! ### t.count(k) of a tuple of ints -/
def rCntT (K : PySem.W.Frag) : V → List V → Hp → VK → Prop := fun x xs H Q => ∃ (a : Addr) (L : List Int) (k : Int), x = .ref a ∧ xs = [.int k] ∧ SqT K H a (iV L) ∧ Q (.int (L.count k : Nat)) H
theorem mt_tcount {X : Cx} : MtR X "tuple.count" (rCntT X.K) := by
  intro pins s σ H x xs v us Q I rx rxs h
  obtain ⟨a, L, k, rfl, rfl, ha, q⟩ := h
  cases rx
  obtain ⟨u, rfl, ru⟩ := rxs.one
  obtain ⟨t, rfl⟩ := ru
  obtain ⟨its, rv, ⟨⟨cls, dd, data, sl⟩, ho, hc, n, hd⟩, hs⟩ := I.tuple ha
  simp only at hc hd
  subst hc hd
  have hi := ints_of_vals rv
  refine call_meets PySem.F.slot_tuple_count ⟨_, ho, rfl⟩
    PySem.F.entry_tuple_count (PySem.F.args_tuple_count_2 _ _) (SeqAt.tuple_countAt a its.toArray n dd sl (.int k t) (eqk k))
    ⟨ho, fun y hy => (eqk_gives hi y (Array.mem_toArray.mp hy)).at _ _, .int (L.count k : Nat), H, I.tok _, ⟨s.toks, ?_⟩, q⟩
  have e := eqk_count (k := k) hi
  show Value.int ((its.toArray.toList.countP (eqk k) : Nat) : Int) s.toks = _
  rw [show its.toArray.toList = its from rfl, e]
/-! ### tuples of ints within bounds -/
inductive TupIs (K : PySem.W.Frag) (H : Hp) (n : Nat) (lo hi : Int) : V → Bool → Prop
  | non : TupIs K H n lo hi .non false
  | bl (b : Bool) : TupIs K H n lo hi (.bl b) false
  | int (i : Int) : TupIs K H n lo hi (.int i) false
  | str (z : Str) : TupIs K H n lo hi (.str z) false
  | lst {a : Addr} {xs : List V} (h : H a = some (.lst xs)) : TupIs K H n lo hi (.ref a) false
  | dic {a : Addr} {kvs : List (Key × V)} (h : H a = some (.dK kvs)) : TupIs K H n lo hi (.ref a) false
  | long {a : Addr} {xs : List V} (h : SqT K H a xs) (l : n < xs.length) : TupIs K H n lo hi (.ref a) false
  | tup {a : Addr} {xs : List V} (h : SqT K H a xs) (l : xs.length ≤ n) (v : ∀ x ∈ xs, Vk K H x) : TupIs K H n lo hi (.ref a) (xs.all fun x => betw x lo hi)
/-- series that are none, or may be one -/
inductive SerIs (K : PySem.W.Frag) (H : Hp) : V → Bool → Prop
  | non : SerIs K H .non false
  | bl (b : Bool) : SerIs K H (.bl b) false
  | int (i : Int) : SerIs K H (.int i) false
  | str (z : Str) : SerIs K H (.str z) false
  | lst {a : Addr} {xs : List V} (h : H a = some (.lst xs)) : SerIs K H (.ref a) false
  | dic {a : Addr} {kvs : List (Key × V)} (h : H a = some (.dK kvs)) : SerIs K H (.ref a) false
  | long {a : Addr} {xs : List V} (h : SqT K H a xs) (l : xs.length = 0 ∨ 61 < xs.length) : SerIs K H (.ref a) false
  | tup {a : Addr} {x : V} {xs : List V} (h : SqT K H a (x :: xs)) (l : xs.length ≤ 60) (v : ∀ y ∈ x :: xs, Vk K H y) : SerIs K H (.ref a) ((x :: xs).all i60 && decide (x = .int 1))
/-- a class of errors without anything of its own -/
structure ErrTxt (K : PySem.W.Frag) (mg : Str → Option Value) (x : Str) (C : Addr) : Prop where
  named : mg x = some (.ref C)
  made : PySem.W.excIn K C PySem.HandSPX.veTail "ValueError.__new__" = true
  keepC : PySem.W.keepIn K (.ref C) = true
  isExc : PySem.W.subIn K (.ref C) (.type "BaseException") = some true
  isCls : PySem.W.typeIn K (.ref C) = some (.type "type")
/-- the error that keeps a number -/
def NumE (E : XK) (N : Addr) (x : V) (H : Hp) : Prop := ∀ H' d, Same H H' → H' d = none → E (.ref N) (some d) (upd H' d (.xd [(("given" : Str), x)]))
def NilE (E : XK) (C : Addr) (H : Hp) : Prop := ∀ H', Same H H' → E (.ref C) none H'
theorem NumE.mono {E : XK} {N : Addr} {x : V} {H H1 : Hp} (h : NumE E N x H) (s : Same H H1) : NumE E N x H1 := fun H' d s' => h H' d (s.trans s')
theorem NilE.mono {E : XK} {C : Addr} {H H1 : Hp} (h : NilE E C H) (s : Same H H1) : NilE E C H1 := fun H' s' => h H' (s.trans s')
def spChkBE (K : PySem.W.Frag) (N : Addr) : Sp := fun vs H Q E => ∃ (x : V) (a b : Int), vs = [x, .int a, .int b] ∧ Vk K H x ∧ (betw x a b = false → NumE E N x H) ∧ (betw x a b = true → Q .non H)
theorem scChkB : FnScope ["value", "least", "most"] ["value", "least", "most"] (defScope sChkB) := ⟨rfl, rfl, rfl, by decide +kernel, rfl, by decide +kernel, by decide +kernel⟩
/-- right letters -/
structure Lt (L : List Int) : Prop where
  len : L.length ≤ 24
  lo : ∀ d ∈ L, 1 ≤ d
  hi : ∀ d ∈ L, d ≤ 40
theorem betw_of {d lo hi : Int} (h1 : lo ≤ d) (h2 : d ≤ hi) (b1 : -(10 ^ 60) < lo) (b2 : hi < 10 ^ 60) : betw (.int d) lo hi = true := by
  show (i60 (.int d) && (decide (lo ≤ d) && decide (d ≤ hi))) = true
  rw [decide_eq_true h1, decide_eq_true h2]
  show ((decide (-(10 ^ 60) < d) && decide (d < 10 ^ 60)) && true) = true
  rw [decide_eq_true (by omega), decide_eq_true (by omega)]
  rfl
theorem all_betw {L : List Int} {lo hi : Int} (h1 : ∀ d ∈ L, lo ≤ d) (h2 : ∀ d ∈ L, d ≤ hi) (b1 : -(10 ^ 60) < lo) (b2 : hi < 10 ^ 60) : (iV L).all (fun x => betw x lo hi) = true := by
  rw [List.all_eq_true]
  intro x hx
  obtain ⟨d, hd, rfl⟩ := List.mem_map.mp hx
  exact betw_of (h1 d hd) (h2 d hd) b1 b2
theorem iV_vk {K : PySem.W.Frag} {H : Hp} {L : List Int} : ∀ x ∈ iV L, Vk K H x := fun x hx => by
  obtain ⟨d, _, rfl⟩ := List.mem_map.mp hx
  exact .int d
theorem Lt.is {K : PySem.W.Frag} {H : Hp} {a : Addr} {L : List Int} (h : Lt L) (s : SqT K H a (iV L)) : LetIs K H (.ref a) true := by
  have q := LetIs.tup s (by rw [List.length_map]; exact h.len) iV_vk
  rw [all_betw h.lo h.hi (by decide) (by decide)] at q
  exact q
/-- the numbers of the letters of the degrees 2 to 40 -/
def cnts (L : List Int) : List Int := (List.range 39).map fun n : Nat => ((L.count (2 + (n : Int)) : Nat) : Int)
def LoopBad (K : PySem.W.Frag) (H : Hp) (x : V) : Prop := LetIs K H x false ∨ ∃ (a : Addr) (L : List Int), x = .ref a ∧ SqT K H a (iV L) ∧ Lt L ∧ (1 : Int) ∈ L
def spLoop (K : PySem.W.Frag) (C N : Addr) : Sp := fun vs H Q E => ∃ x y : V, vs = [x, y] ∧ ((LoopBad K H x ∧ NilE E C H) ∨ ∃ (a : Addr) (L : List Int), x = .ref a ∧ SqT K H a (iV L) ∧ Lt L ∧ (1 : Int) ∉ L ∧
  ((Vk K H y ∧ betw y 0 60 = false ∧ NumE E N y H) ∨ ∃ M : Nat, y = .int (M : Int) ∧ M ≤ 60 ∧ TupF H a (iV L) ∧ seriesOk (cnts L) M = true ∧ ∀ H' p, Same H H' → H p = none → H' p = some (.tup (iV (seriesOf (cnts L) M))) → Q (.ref p) H'))
abbrev nLoop : List Str := ["letters", "most", "degree"]
theorem scLoop : FnScope nLoop ["letters", "most"] (defScope sLoop) := ⟨rfl, rfl, rfl, by decide +kernel, rfl, by decide +kernel, by decide +kernel⟩
theorem inV_int (k : Int) : ∀ L : List Int, inV (.int k) (iV L) = decide (k ∈ L)
  | [] => rfl
  | d :: L => by
    show ((d == k) || inV (.int k) (iV L)) = _
    rw [inV_int k L]
    by_cases e : d = k
    · rw [e]
      simp
    · rw [beq_false_of_ne e, Bool.false_or]
      have z : ¬ k = d := fun q => e q.symm
      simp [z]
theorem flat_iV (L : List Int) : (iV L).all flatV = true := by
  rw [List.all_map, List.all_eq_true]
  exact fun _ _ => rfl
section
variable {P : Program} {w : World} {K : PySem.W.Frag} {mg : Str → Option Value} {base : Heap} {C N i0 fB fL fI fS : Addr} {dB dL dI dS : FuncData}
theorem ok_chkbE {f : Addr} {fd : FuncData} (F : Fun K "check_between" "check_between" sChkB f fd) (EN : K8X.NumTxt K mg N i0) (gB : mg "is_between" = some (.ref fB)) (kB : PySem.W.keepIn K (.ref fB) = true) (bB : Binds K dB ["value", "least", "most"] [])
    (B : FnOk P w K mg base CX0 3 fB dB ["value", "least", "most"] (spBetw K)) : FnOk P w K mg base (L2.CX P w) 4 f fd ["value", "least", "most"] (spChkBE K N) := by
  refine F.okX scChkB (fun vs H Q E h => ?_) (fun cdv A outer s H vs Q E hr h => ?_)
  · obtain ⟨x, a, b, rfl, _⟩ := h; rfl
  obtain ⟨x, a, b, rfl, hx, k0, k1⟩ := h
  refine ⟨_, pss_one (ps_if (pt_not (pt_val (pe_call B hr (by rfl) gB kB bB .nil pass0 (pa_cons (pv 0) (pa_cons (pv 1) (pa_cons (pv 2) pa_nil))))))
      (pss_one (ps_raiseNum (W := fun cls d _ H => E cls d H) rfl EN hr (takes_of rfl rfl rfl rfl) (by exact (pa_cons (pv 0) pa_nil)))) pss_nil), ?_⟩
  refine ⟨_, rfl, _, rfl, _, rfl, x, a, b, rfl, hx, _, rfl, ?_⟩
  cases e : betw x a b with
  | false => exact iteT ⟨_, rfl, _, rfl, fun d hd => k0 e H d (Same.refl _) hd⟩
  | true => exact iteF (k1 e)
theorem ok_loop {f : Addr} {fd : FuncData} (F : Fun K "loop_series" "loop_series" sLoop f fd) (T : Txt K mg) (ER : ErrTxt K mg "InvalidLetters" C) (gI : mg "is_letters" = some (.ref fI)) (kI : PySem.W.keepIn K (.ref fI) = true) (bI : Binds K dI ["value"] [])
    (FI : FnOk P w K mg base CX0 4 fI dI ["value"] (spIsLet K)) (gB : mg "check_between" = some (.ref fB)) (kB : PySem.W.keepIn K (.ref fB) = true) (bB : Binds K dB ["value", "least", "most"] [])
    (FB : FnOk P w K mg base (L2.CX P w) 4 fB dB ["value", "least", "most"] (spChkBE K N)) (gS : mg "_series_of" = some (.ref fS)) (kS : PySem.W.keepIn K (.ref fS) = true) (bS : Binds K dS ["counts", "most"] [])
    (FS : FnOk P w K mg base CX0 2 fS dS ["counts", "most"] spSerL) : FnOk P w K mg base (L2.CX P w) 5 f fd ["letters", "most"] (spLoop K C N) := by
  refine F.okX scLoop (fun vs H Q E h => ?_) (fun cdv A outer s H vs Q E hr h => ?_)
  · obtain ⟨x, y, rfl, _⟩ := h; rfl
  obtain ⟨x, y, rfl, h⟩ := h
  obtain ⟨t1, m1⟩ := T.cLOOP
  obtain ⟨t2, m2⟩ := T.cLEAST
  obtain ⟨t3, m3⟩ := T.cMAXLETTER
  refine ⟨_, pss_cons (ps_if (PW.pt (pw_or (pt_not (pt_val (pe_call FI hr (by rfl) gI kI bI .nil pass0 (pa_cons (pv 0) pa_nil)))) (pw_or1 (pt_cmpR op_in_seq pe_int (pv 0) (by rfl)))))
      (pss_one (ps_raise (W := fun cls d _ H => E cls d H) rfl (takes_of rfl rfl rfl rfl) (pmk_own PySem.F.excBase_ValueError ER.made ER.named ER.keepC (raises_own ER.isExc ER.isCls) (by rfl)))) pss_nil)
    (pss_cons (ps_expr (pe_call FB hr (by rfl) gB kB bB .nil (passes_call (E := E) (takes_of rfl rfl rfl rfl) (fun _ _ _ _ h => h)) (pa_cons (pv 1) (pa_cons pe_int (pa_cons (pe_glob (v := .int 60) (by rfl) m1 ⟨_, rfl⟩) pa_nil)))))
    (pss_one (ps_ret (pe_call (FS.mono (by decide)) hr (by rfl) gS kS bS .nil pass0 (pa_cons (pe_lc (te := tBMt (rCntT K) (tVar 0) (tCons (tVar 2) tNil)) (own := [("degree", 2)]) (g := gName 2) rfl scLoop.nd (pi_range2 rfl T.range (pa_cons (pe_glob (v := .int 2) (by rfl) m2 ⟨_, rfl⟩) (pa_cons (pe_op op_add (pe_glob (v := .int 40) (by rfl) m3 ⟨_, rfl⟩) pe_int) pa_nil)))
        (blkOk_by (N := nLoop) (sc := defScope sLoop) (by decide +kernel)) (fun _ _ _ _ _ => pg_name (i := 2) scLoop.nd rfl (Or.inl rfl)) (fun _ _ _ _ _ => pts_nil)
        (fun _ _ _ _ _ => pe_bmt PySem.F.plainAttrs_tuple PySem.F.slot_tuple_count PySem.F.type_tuple_count mt_tcount (pv 0) (pa_cons (pv 2) pa_nil))) (pa_cons (pv 1) pa_nil)))))), ?_⟩
  rcases h with ⟨hb, k0⟩ | ⟨a, L, rfl, ha, hL, h1, h⟩
  · rcases hb with hb | ⟨a, L, rfl, ha, hL, h1⟩
    · refine ⟨_, rfl, x, false, rfl, hb, fun H' s' => ⟨_, rfl, iteT (iteT (k0 H' s'))⟩⟩
    · refine ⟨_, rfl, _, true, rfl, hL.is ha, fun H' s' => ⟨_, rfl, iteF ⟨_, rfl, a, _, rfl, .inr (tupSame s' ha), rfl, flat_iV L, _, rfl, ?_⟩⟩⟩
      have e : (if false = true then !inV (.int 1) (iV L) else inV (.int 1) (iV L)) = true := by rw [if_neg Bool.false_ne_true, inV_int]; exact decide_eq_true h1
      rw [e]
      exact iteT (k0 H' s')
  · refine ⟨_, rfl, _, true, rfl, hL.is ha, fun H1 s1 => ⟨_, rfl, iteF ⟨_, rfl, a, _, rfl, .inr (tupSame s1 ha), rfl, flat_iV L, _, rfl, ?_⟩⟩⟩
    have e : (if false = true then !inV (.int 1) (iV L) else inV (.int 1) (iV L)) = false := by rw [if_neg Bool.false_ne_true, inV_int]; exact decide_eq_false h1
    rw [e]
    refine iteF ?_
    rcases h with ⟨hy, by0, k0⟩ | ⟨M, rfl, hM, hF, ok, k⟩
    · exact ⟨_, rfl, y, 0, 60, rfl, hy.mono s1, fun _ => k0.mono s1, fun z => by rw [by0] at z; cases z⟩
    · refine ⟨_, rfl, .int (M : Int), 0, 60, rfl, .int _, fun z => ?_, fun _ => ?_⟩
      · rw [betw_of (by omega) (by omega) (by decide) (by decide)] at z
        cases z
      refine ⟨_, _, rfl, rfl, _, _, rfl, ⟨by decide, by decide, by decide, by decide⟩, fun D hD => ?_⟩
      refine lc_range1 (lo := 2) (N := 39) (fun d => .int (L.count d : Nat)) hD (by decide) (fun _ => rfl) (fun n H2 Q2 hn s2 h2 => ?_) fun H2 s2 hD2 => ?_
      · have ha2 := tupSame (s1.trans s2) ha
        exact ⟨_, rfl, ⟨a, _, rfl, hF.mono (s1.trans s2)⟩, _, rfl, a, L, _, rfl, rfl, ha2, h2 H2 (Same.refl H2)⟩
      · have lc : (cnts L).length = 39 := by rw [cnts, List.length_map, List.length_range]
        refine ⟨_, rfl, D, cnts L, M, rfl, ?_, by omega, by omega, ok, fun H3 p s3 hp h3 => k H3 p (s1.trans (s2.trans s3)) (none_at (s1.trans s2) hp) h3⟩
        rw [hD2, cnts, iV, List.map_map]
        rfl
end
end K8
namespace K8
open PySem PySem.Spec PyProof.Rows L2 RZ
/-! ### promises -/
def spCoS (K : PySem.W.Frag) (C : Addr) : Sp := fun vs H Q E => ∃ (x : V) (b : Bool), vs = [x] ∧ SerIs K H x b ∧ (b = false → NilE E C H) ∧
  (b = true → ∃ (a : Addr) (S : List Int), x = .ref a ∧ SqT K H a (iV S) ∧ 1 ≤ S.length ∧ S.length ≤ 61 ∧ countsOk S = true ∧ ∀ H' p, Same H H' → H p = none → H' p = some (.tup (iV (countsOf S))) → Q (.ref p) H')
def spSoC (K : PySem.W.Frag) (C : Addr) : Sp := fun vs H Q E => ∃ (x : V) (b : Bool), vs = [x] ∧ TupIs K H 60 (-1000) 1000 x b ∧ (b = false → NilE E C H) ∧
  (b = true → ∃ (a : Addr) (L : List Int), x = .ref a ∧ SqT K H a (iV L) ∧ L.length ≤ 60 ∧ seriesOk L L.length = true ∧ ∀ H' p, Same H H' → H p = none → H' p = some (.tup (iV (seriesOf L L.length))) → Q (.ref p) H')
abbrev nCoS : List Str := ["series", "entry"]
abbrev nSoC : List Str := ["counts", "count"]
theorem scCoS : FnScope nCoS ["series"] (defScope sCoS) := ⟨rfl, rfl, rfl, by decide +kernel, rfl, by decide +kernel, by decide +kernel⟩
theorem scSoC : FnScope nSoC ["counts"] (defScope sSoC) := ⟨rfl, rfl, rfl, by decide +kernel, rfl, by decide +kernel, by decide +kernel⟩
section
variable {P : Program} {w : World} {K : PySem.W.Frag} {mg : Str → Option Value} {base : Heap} {C N fB fI fC fS fT : Addr} {dB dI dC dS dT : FuncData}
theorem ok_cos {f : Addr} {fd : FuncData} (F : Fun K "counts_of_series" "counts_of_series" sCoS f fd) (T : Txt K mg) (ER : ErrTxt K mg "InvalidOperation" C) (gI : mg "is_integer" = some (.ref fI)) (kI : PySem.W.keepIn K (.ref fI) = true) (bI : Binds K dI ["value"] [])
    (FI : FnOk P w K mg base CX0 2 fI dI ["value"] (spIsInt K)) (gC : mg "_counts_of" = some (.ref fC)) (kC : PySem.W.keepIn K (.ref fC) = true) (bC : Binds K dC ["series"] [])
    (FC : FnOk P w K mg base CX0 2 fC dC ["series"] (spCo K)) : FnOk P w K mg base (L2.CX P w) 3 f fd ["series"] (spCoS K C) := by
  refine F.okX scCoS (fun vs H Q E h => ?_) (fun cdv A outer s H vs Q E hr h => ?_)
  · obtain ⟨x, b, rfl, _⟩ := h; rfl
  obtain ⟨x, b, rfl, hx, k0, k1⟩ := h
  obtain ⟨t1, m1⟩ := T.cLOOP
  refine ⟨_, pss_cons (ps_if (PW.pt (pw_or (pt_not (pt_val (pe_callB call_isi (by rfl) T.isi bootIsi (pa_cons (pv 0) (pa_cons (pe_bltn (v := .ty "tuple") (by rfl) T.tuple bootTuple rfl) pa_nil)))))
        (pw_or1 (pt_not (pt_chain op_le op_le pe_int (pe_callB call_len_seq (by rfl) T.len PySem.boot_len (pa_cons (pv 0) pa_nil)) (pe_op op_add (pe_glob (v := .int 60) (by rfl) m1 ⟨_, rfl⟩) pe_int))))))
      (pss_one (ps_raise (W := fun cls d _ H => E cls d H) rfl (takes_of rfl rfl rfl rfl) (pmk_own PySem.F.excBase_ValueError ER.made ER.named ER.keepC (raises_own ER.isExc ER.isCls) (by rfl)))) pss_nil)
    (pss_cons (ps_if (PW.pt (pw_or (pt_not (pt_val (pe_callB (cr_all rfl) (by rfl) T.all bootAll (pa_cons (pe_lc (own := [("entry", 1)]) (g := gName 1) rfl scCoS.nd (pi_tup (pv 0)) (blkOk_by (N := nCoS) (sc := defScope sCoS) (by decide +kernel)) (fun _ _ _ _ _ => pg_name (i := 1) scCoS.nd rfl (Or.inl rfl)) (fun _ _ _ _ _ => pts_nil)
          (fun _ _ _ _ _ => pe_call FI hr (by rfl) gI kI bI .nil pass0 (by exact (pa_cons (pv 1) pa_nil)))) pa_nil))))
        (pw_or1 (pt_cmpR op_ne (pe_ix ix_tup (pv 0) pe_int (fun _ _ => rfl)) pe_int (nomark _)))))
      (pss_one (ps_raise (W := fun cls d _ H => E cls d H) rfl (takes_of rfl rfl rfl rfl) (pmk_own PySem.F.excBase_ValueError ER.made ER.named ER.keepC (raises_own ER.isExc ER.isCls) (by rfl)))) pss_nil)
    (pss_one (ps_ret (pe_call FC hr (by rfl) gC kC bC .nil pass0 (pa_cons (pv 0) pa_nil))))), ?_⟩
  have no := fun z : b = false => k0 z H (Same.refl H)
  cases hx with
  | non => exact ⟨_, rfl, _, _, _, _, false, rfl, .ty "tuple", .base .non, kit_ty (by decide +kernel), ⟨_, rfl, iteT (iteT (no rfl))⟩⟩
  | bl b => exact ⟨_, rfl, _, _, _, _, false, rfl, .ty "tuple", .base (.bl _), kit_ty (by decide +kernel), ⟨_, rfl, iteT (iteT (no rfl))⟩⟩
  | int i => exact ⟨_, rfl, _, _, _, _, false, rfl, .ty "tuple", .base (.int _), kit_ty (by decide +kernel), ⟨_, rfl, iteT (iteT (no rfl))⟩⟩
  | str z => exact ⟨_, rfl, _, _, _, _, false, rfl, .ty "tuple", .base (.str _), kit_ty (by decide +kernel), ⟨_, rfl, iteT (iteT (no rfl))⟩⟩
  | lst h => exact ⟨_, rfl, _, _, _, _, false, rfl, .ty "tuple", .base (.lst h), kit_ty (by decide +kernel), ⟨_, rfl, iteT (iteT (no rfl))⟩⟩
  | dic h => exact ⟨_, rfl, _, _, _, _, false, rfl, .ty "tuple", .base (.dK h), kit_ty (by decide +kernel), ⟨_, rfl, iteT (iteT (no rfl))⟩⟩
  | @long a xs h l =>
    refine ⟨_, rfl, _, _, _, _, true, rfl, .ty "tuple", tyT h, kit_ty (by decide +kernel), ⟨_, rfl, iteF ⟨_, rfl, a, xs, rfl, .inr h, _, _, rfl, rfl, _, rfl, ?_⟩⟩⟩
    by_cases c : (1 : Int) ≤ (xs.length : Int)
    · rw [decide_eq_true c]
      refine iteT ⟨_, _, rfl, rfl, _, _, rfl, rfl, _, rfl, ?_⟩
      rw [decide_eq_false (by omega)]
      exact iteT (no rfl)
    · rw [decide_eq_false c]
      exact iteF ⟨_, rfl, iteT (no rfl)⟩
  | @tup a x xs h l v =>
    refine ⟨_, rfl, _, _, _, _, true, rfl, .ty "tuple", tyT h, kit_ty (by decide +kernel), ⟨_, rfl, iteF ⟨_, rfl, a, _, rfl, .inr h, _, _, rfl, rfl, _, rfl, ?_⟩⟩⟩
    have ln : (x :: xs).length = xs.length + 1 := rfl
    rw [decide_eq_true (by rw [ln]; omega)]
    refine iteT ⟨_, _, rfl, rfl, _, _, rfl, rfl, _, rfl, ?_⟩
    rw [decide_eq_true (by rw [ln]; omega)]
    refine iteF ⟨_, rfl, a, rfl, ⟨_, h⟩, fun D hD => ?_⟩
    refine lc_tup1 (xs := x :: xs) (fun y => .bl (i60 y)) hD h (by rw [ln]; omega) (fun _ => rfl) (fun n y H1 Q1 hy s1 h1 => ?_) fun H1 s1 hD1 => ?_
    · exact ⟨_, rfl, y, rfl, (v y (List.mem_of_getElem? hy)).mono s1, h1 H1 (Same.refl H1)⟩
    · refine ⟨D, (x :: xs).map i60, rfl, SqL.of (by rw [hD1, List.map_map]; rfl), _, rfl, ?_⟩
      have no1 := fun z => k0 z H1 s1
      rw [List.all_map]
      show if (!(x :: xs).all i60) = true then _ else _
      cases c : (x :: xs).all i60 with
      | false => exact iteT (iteT (no1 (by rw [c]; rfl)))
      | true =>
        have hx : i60 x = true := List.all_eq_true.mp c x List.mem_cons_self
        obtain ⟨i, rfl⟩ : ∃ i : Int, x = .int i := by
          cases x with
          | int i => exact ⟨i, rfl⟩
          | non => cases hx
          | bl b => cases hx
          | str z => cases hx
          | byt z => cases hx
          | flt z => cases hx
          | ref a => cases hx
          | ty n => cases hx
        refine iteF ⟨_, rfl, a, _, _, _, rfl, rfl, tupSame s1 h, atI_nat (j := 0) rfl, rfl, _, rfl, ?_⟩
        by_cases e : i = 1
        · subst e
          rw [show decide (V.int 1 = V.int 1) = true from decide_eq_true rfl]
          refine iteF ?_
          obtain ⟨a', S, e1, h1, l1, l2, ok, k⟩ := k1 (by rw [c]; rfl)
          cases e1
          exact ⟨_, rfl, a, S, rfl, .inr (tupSame s1 h1), l1, by omega, ok, fun H2 p s2 hp h2 => k H2 p (s1.trans s2) (none_at s1 hp) h2⟩
        · rw [show decide (V.int i = V.int 1) = false from decide_eq_false fun z => e (V.int.inj z)]
          exact iteT (no1 (by rw [c, Bool.true_and]; exact decide_eq_false fun z => e (V.int.inj z)))
end
end K8
namespace K8
open PySem PySem.Spec PyProof.Rows L2 RZ
section
variable {P : Program} {w : World} {K : PySem.W.Frag} {mg : Str → Option Value} {base : Heap} {C N fB fI fC fS fT : Addr} {dB dI dC dS dT : FuncData}
theorem ok_soc {f : Addr} {fd : FuncData} (F : Fun K "series_of_counts" "series_of_counts" sSoC f fd) (T : Txt K mg) (ER : ErrTxt K mg "InvalidOperation" C) (gB : mg "is_between" = some (.ref fB)) (kB : PySem.W.keepIn K (.ref fB) = true) (bB : Binds K dB ["value", "least", "most"] [])
    (FB : FnOk P w K mg base CX0 3 fB dB ["value", "least", "most"] (spBetw K)) (gS : mg "_series_of" = some (.ref fS)) (kS : PySem.W.keepIn K (.ref fS) = true) (bS : Binds K dS ["counts", "most"] [])
    (FS : FnOk P w K mg base CX0 2 fS dS ["counts", "most"] (spSerT K)) : FnOk P w K mg base (L2.CX P w) 4 f fd ["counts"] (spSoC K C) := by
  refine F.okX scSoC (fun vs H Q E h => ?_) (fun cdv A outer s H vs Q E hr h => ?_)
  · obtain ⟨x, b, rfl, _⟩ := h; rfl
  obtain ⟨x, b, rfl, hx, k0, k1⟩ := h
  obtain ⟨t1, m1⟩ := T.cLOOP
  obtain ⟨t2, m2⟩ := T.cCOUNT
  refine ⟨_, pss_cons (ps_if (PW.pt (pw_or (pt_not (pt_val (pe_callB call_isi (by rfl) T.isi bootIsi (pa_cons (pv 0) (pa_cons (pe_bltn (v := .ty "tuple") (by rfl) T.tuple bootTuple rfl) pa_nil))))) (pw_or1 (pt_cmpR op_gt (pe_callB call_len_seq (by rfl) T.len PySem.boot_len (pa_cons (pv 0) pa_nil)) (pe_glob (v := .int 60) (by rfl) m1 ⟨_, rfl⟩) (nomark _)))))
      (pss_one (ps_raise (W := fun cls d _ H => E cls d H) rfl (takes_of rfl rfl rfl rfl) (pmk_own PySem.F.excBase_ValueError ER.made ER.named ER.keepC (raises_own ER.isExc ER.isCls) (by rfl)))) pss_nil)
    (pss_cons (ps_if (pt_not (pt_val (pe_callB (cr_all rfl) (by rfl) T.all bootAll (pa_cons (pe_lc (own := [("count", 1)]) (g := gName 1) rfl scSoC.nd (pi_tup (pv 0)) (blkOk_by (N := nSoC) (sc := defScope sSoC) (by decide +kernel)) (fun _ _ _ _ _ => pg_name (i := 1) scSoC.nd rfl (Or.inl rfl)) (fun _ _ _ _ _ => pts_nil)
          (fun _ _ _ _ _ => pe_call FB hr (by rfl) gB kB bB .nil pass0 (by exact (pa_cons (pv 1) (pa_cons (pe_un un_neg (pe_glob (v := .int 1000) (by rfl) m2 ⟨_, rfl⟩)) (pa_cons (pe_glob (v := .int 1000) (by rfl) m2 ⟨_, rfl⟩) pa_nil)))))) pa_nil))))
      (pss_one (ps_raise (W := fun cls d _ H => E cls d H) rfl (takes_of rfl rfl rfl rfl) (pmk_own PySem.F.excBase_ValueError ER.made ER.named ER.keepC (raises_own ER.isExc ER.isCls) (by rfl)))) pss_nil)
    (pss_one (ps_ret (pe_call (FS.mono (by decide)) hr (by rfl) gS kS bS .nil pass0 (pa_cons (pv 0) (pa_cons (pe_callB call_len_seq (by rfl) T.len PySem.boot_len (pa_cons (pv 0) pa_nil)) pa_nil)))))), ?_⟩
  have no := fun z : b = false => k0 z H (Same.refl H)
  cases hx with
  | non => exact ⟨_, rfl, _, _, _, _, false, rfl, .ty "tuple", .base .non, kit_ty (by decide +kernel), ⟨_, rfl, iteT (iteT (no rfl))⟩⟩
  | bl b => exact ⟨_, rfl, _, _, _, _, false, rfl, .ty "tuple", .base (.bl _), kit_ty (by decide +kernel), ⟨_, rfl, iteT (iteT (no rfl))⟩⟩
  | int i => exact ⟨_, rfl, _, _, _, _, false, rfl, .ty "tuple", .base (.int _), kit_ty (by decide +kernel), ⟨_, rfl, iteT (iteT (no rfl))⟩⟩
  | str z => exact ⟨_, rfl, _, _, _, _, false, rfl, .ty "tuple", .base (.str _), kit_ty (by decide +kernel), ⟨_, rfl, iteT (iteT (no rfl))⟩⟩
  | lst h => exact ⟨_, rfl, _, _, _, _, false, rfl, .ty "tuple", .base (.lst h), kit_ty (by decide +kernel), ⟨_, rfl, iteT (iteT (no rfl))⟩⟩
  | dic h => exact ⟨_, rfl, _, _, _, _, false, rfl, .ty "tuple", .base (.dK h), kit_ty (by decide +kernel), ⟨_, rfl, iteT (iteT (no rfl))⟩⟩
  | @long a xs h l =>
    refine ⟨_, rfl, _, _, _, _, true, rfl, .ty "tuple", tyT h, kit_ty (by decide +kernel), ⟨_, rfl, iteF ⟨_, rfl, a, xs, rfl, .inr h, _, _, rfl, rfl, _, rfl, ?_⟩⟩⟩
    rw [decide_eq_true (by omega)]
    exact iteT (no rfl)
  | @tup a xs h l v =>
    refine ⟨_, rfl, _, _, _, _, true, rfl, .ty "tuple", tyT h, kit_ty (by decide +kernel), ⟨_, rfl, iteF ⟨_, rfl, a, _, rfl, .inr h, _, _, rfl, rfl, _, rfl, ?_⟩⟩⟩
    rw [decide_eq_false (by omega)]
    refine iteF ⟨_, rfl, a, rfl, ⟨_, h⟩, fun D hD => ?_⟩
    refine lc_tup1 (xs := xs) (fun y => .bl (betw y (-1000) 1000)) hD h (by omega) (fun _ => rfl) (fun n y H1 Q1 hy s1 h1 => ?_) fun H1 s1 hD1 => ?_
    · exact ⟨_, rfl, _, rfl, y, -1000, 1000, rfl, (v y (List.mem_of_getElem? hy)).mono s1, h1 H1 (Same.refl H1)⟩
    · refine ⟨D, xs.map fun y => betw y (-1000) 1000, rfl, SqL.of (by rw [hD1, List.map_map]; rfl), _, rfl, ?_⟩
      have no1 := fun z => k0 z H1 s1
      rw [List.all_map]
      show if (!xs.all fun y => betw y (-1000) 1000) = true then _ else _
      cases c : xs.all fun y => betw y (-1000) 1000 with
      | false => exact iteT (no1 c)
      | true =>
        refine iteF ?_
        obtain ⟨a', L, e1, h1, l1, ok, k⟩ := k1 c
        cases e1
        exact ⟨_, rfl, _, rfl, a, _, rfl, .inr (tupSame s1 h1), a, L, L.length, by rw [← iV_len L]; rfl, tupSame s1 h1, by omega, by omega, ok, fun H2 p s2 hp h2 => k H2 p (s1.trans s2) (none_at s1 hp) h2⟩

end
end K8
namespace K8
open PySem PySem.Spec PyProof.Rows L2 RZ
def But (d : Addr) (H H' : Hp) : Prop := ∀ b o, b ≠ d → H b = some o → H' b = some o
theorem But.refl (d : Addr) (H : Hp) : But d H H := fun _ _ _ h => h
theorem But.trans {d : Addr} {H H1 H2 : Hp} (a : But d H H1) (b : But d H1 H2) : But d H H2 := fun c o n h => b c o n (a c o n h)
theorem But.dice {d : Addr} {H : Hp} {o : HO} : But d H (upd H d o) := fun c u n h => by rw [upd_ne n]; exact h
theorem But.of {d : Addr} {H H' : Hp} (s : Same H H') : But d H H' := fun b o _ h => s b o h
theorem But.tup {K : PySem.W.Frag} {d a : Addr} {H H' : Hp} {L xs : List V} (k : But d H H') (hd : H d = some (.lst L)) (h : SqT K H a xs) : SqT K H' a xs := by
  rcases h with (h | ⟨o, h⟩) | h
  · refine .inl (.inl (k _ _ (fun z => ?_) h))
    rw [z, hd] at h
    cases h
  · refine .inl (.inr ⟨o, k _ _ (fun z => ?_) h⟩)
    rw [z, hd] at h
    cases h
  · exact .inr h
theorem But.back {d D : Addr} {H H1 : Hp} {o : HO} (k : But d H H1) (hD : H D = none) : But d H (upd H1 D o) := fun b u n e => by
  rw [upd_ne (ne_of_none e hD)]
  exact k b u n e
theorem dInt (a b : Int) : decide (V.int a = V.int b) = decide (a = b) := decide_eq_decide.mpr ⟨fun y => V.int.inj y, fun y => by rw [y]⟩
theorem lstSame {K : PySem.W.Frag} {H H' : Hp} {a : Addr} {xs : List V} (s : Same H H') (h : SqL K H a xs) : SqL K H' a xs := s.seq h
abbrev dI (l : List Int) : PyData := .tuple (l.map PyData.int)
structure Shp (n : Nat) (d : PyData) : Prop where
  can : d.canLay0 = true
  dep : d.depth ≤ n
theorem Shp.shaped {n : Nat} {d : PyData} (h : Shp n d) (hn : n ≤ 64) : SeqAt.shaped d = true := by
  rw [SeqAt.shaped, Bool.and_eq_true]
  exact ⟨h.can, decide_eq_true (Nat.le_trans h.dep hn)⟩
theorem Shp.int (i : Int) : Shp 0 (.int i) := ⟨by rw [PyData.canLay0], by rw [PyData.depth]; exact Nat.le_refl _⟩
theorem Shp.bool (b : Bool) : Shp 0 (.bool b) := ⟨by rw [PyData.canLay0], by rw [PyData.depth]; exact Nat.le_refl _⟩
theorem shp_all {α : Type} {f : α → PyData} {n : Nat} (h : ∀ x, Shp n (f x)) : ∀ l : List α, PyData.canLayAll0 (l.map f) = true ∧ PyData.depthAll (l.map f) ≤ n
  | [] => ⟨rfl, by rw [List.map_nil, PyData.depthAll]; exact Nat.zero_le _⟩
  | a :: l => by
    obtain ⟨h1, h2⟩ := shp_all h l
    refine ⟨?_, ?_⟩
    · rw [List.map_cons, PyData.canLayAll0, (h a).can, h1]
      rfl
    · rw [List.map_cons, PyData.depthAll]
      have := (h a).dep
      omega
theorem Shp.lst {α : Type} {f : α → PyData} {n : Nat} (h : ∀ x, Shp n (f x)) (l : List α) : Shp (n + 1) (.list (l.map f)) := by
  obtain ⟨h1, h2⟩ := shp_all h l
  exact ⟨by rw [PyData.canLay0]; exact h1, by rw [PyData.depth]; omega⟩
theorem Shp.tup {α : Type} {f : α → PyData} {n : Nat} (h : ∀ x, Shp n (f x)) (l : List α) : Shp (n + 1) (.tuple (l.map f)) := by
  obtain ⟨h1, h2⟩ := shp_all h l
  exact ⟨by rw [PyData.canLay0]; exact h1, by rw [PyData.depth]; omega⟩
theorem shp_dI (l : List Int) : Shp 1 (dI l) := .tup .int l
theorem eqv_self {n : Nat} {d : PyData} (h : Shp n d) (hn : n ≤ 64) : PyData.eqv d d = true := SeqAt.eqv_refl d h.can
section
variable {K : PySem.W.Frag} {H : Hp}
theorem dp_ints : ∀ l : List Int, DpAll K H (iV l) (l.map PyData.int)
  | [] => .nil
  | a :: l => .cons (.int a) (dp_ints l)
end
/-- over range(n), each turn with the dice -/
theorem lc_dice {lo : Int} {N i : Nat} {te : TE} {vs : List Nat} {σ : L2.St} {H : Hp} {d D : Addr} {L : List V} {Qd : Hp → Prop} (Pj : Int → Prop) (hD : H D = none) (hd1 : H d = some (.lst L)) (hL : DiceL L) (ln : N ≤ 900)
    (hw : ∀ x : V, wipe ((wipe σ vs).set i (some x)) vs = wipe σ vs)
    (he : ∀ (n : Nat) (H2 : Hp) (L2 : List V) (Q : VK), n < N → But d H H2 → H2 d = some (.lst L2) → DiceL L2 → (∀ (H3 : Hp) (L3 : List V) (j : Int), But d H2 H3 → H3 d = some (.lst L3) → DiceL L3 → Pj j → Q (.int j) H3) → te ((wipe σ vs).set i (some (.int (lo + n)))) H2 Q)
    (hd : ∀ (H' : Hp) (L' : List V) (M : List Int), But d H H' → H' d = some (.lst L') → DiceL L' → H' D = some (.lst (iV M)) → M.length = N → (∀ j ∈ M, Pj j) → Qd H') : LcW (Itr lo N) (gName i) tYes te vs σ H D Qd := by
  have nD : D ≠ d := fun z => by rw [z, hd1] at hD; cases hD
  refine lc_it (walk_range (lo := lo) (n := N)) (fun n H' => ∃ (M : List Int) (L' : List V), M.length = n ∧ (∀ j ∈ M, Pj j) ∧ DiceL L' ∧ H' d = some (.lst L') ∧ H' D = some (.lst (iV M)) ∧ But d H H') ⟨[], L, rfl, (fun _ h => absurd h List.not_mem_nil), hL, ?_, upd_same, (But.refl d H).back hD⟩ (fun _ _ _ _ => trivial) (fun n x H2 H3 hn p y => ?_) fun H' p => ?_
  · rw [upd_ne nD.symm]
    exact hd1
  · obtain ⟨M, L', lM, tM, hL', hd2, hD2, B2⟩ := p
    obtain ⟨rfl, rfl⟩ := y
    refine ⟨hw _, iteT (B := True) (he n _ L' _ hn B2 hd2 hL' fun H3 L3 j B3 hd3 hL3 pj => ?_)⟩
    have hD3 := B3 _ _ nD hD2
    refine ⟨iV M, hD3, small1000 (by rw [List.length_map]; omega), M ++ [j], L3, by rw [List.length_append, lM]; rfl, ?_, hL3, ?_, ?_, (B2.trans B3).back hD⟩
    · intro e he
      rcases List.mem_append.mp he with z | z
      · exact tM e z
      · rw [List.mem_singleton.mp z]
        exact pj
    · rw [upd_ne nD.symm]
      exact hd3
    · rw [upd_same]
      show _ = some (HO.lst (List.map V.int (M ++ [j])))
      rw [List.map_append]
      rfl
  · obtain ⟨M, L', lM, tM, hL', hd2, hD2, B2⟩ := p
    exact hd H' L' M B2 hd2 hL' hD2 lM tM
theorem bits500 {g : Int} (a : 0 ≤ g) (b : g ≤ 1000) : g.natAbs < 2 ^ 500 := Nat.lt_of_le_of_lt (by omega : g.natAbs ≤ 1000) (by decide)
theorem seqBut {K : PySem.W.Frag} {H H' : Hp} {a d : Addr} {xs : List V} {o : HO} (h : SqL K H a xs) (hd : H d = none) (B : But d (upd H d o) H') : SqL K H' a xs := by
  rcases h with (h | ⟨ob, h⟩) | h
  · have ne := ne_of_none h hd
    exact .inl (.inl (B _ _ ne (by rw [upd_ne ne]; exact h)))
  · have ne := ne_of_none h hd
    exact .inl (.inr ⟨ob, B _ _ ne (by rw [upd_ne ne]; exact h)⟩)
  · exact .inr h

/-! ### tuples whose object is known -/
theorem call_tupleF {X : Cx} : CallR X (.type "tuple") (fun xs H Q => ∃ p ys, xs = [.ref p] ∧ SqL X.K H p ys ∧ ∀ l od, H l = none → od.cls = .type "tuple" → od.dict = none → Q (.ref l) (upd H l (.frz od (.tup ys)))) := by
  intro pins s σ H xs us Q I r h
  obtain ⟨p, ys, rfl, hq, q⟩ := h
  obtain ⟨u, rfl, ru⟩ := r.one
  cases ru
  obtain ⟨its, rv, pl, hz⟩ := I.list hq
  have hlen := rv.length
  refine call_tuple_list pl.isList (fun h' kp => ?_) (by rw [List.size_toArray]; omega)
  have I1 := I.kept (t' := s.toks) kp
  have new := I1.hok.fresh (Nat.le_refl h'.objs.size)
  have got : (h'.push { cls := Value.type "tuple", data := Data.seq its.toArray }).get? h'.objs.size = some { cls := Value.type "tuple", data := Data.seq its.toArray } := Heap.get?_push_size _ rfl
  exact ⟨.ref h'.objs.size, _, I1.laid (t' := s.toks) (o := .frz { cls := Value.type "tuple", data := Data.seq its.toArray } (.tup ys)) (fun _ _ e => Heap.get?_push_of_some _ e) (Nat.le_refl _) ⟨got, hz, its, rv, IsTup.new _ _⟩, rfl, q _ _ new rfl rfl⟩
def tTupF (t : TA) : TE := fun σ H Q => t σ H fun xs H1 => xs.length ≤ sizeLine ∧ ∀ p od, H1 p = none → od.cls = .type "tuple" → od.dict = none → Q (.ref p) (upd H1 p (.frz od (.tup xs)))
theorem pe_tupF {X : Cx} {es : List Expr} {t : TA} {pos : Pos} {x1 : Nat} (h : PA X es t) : PE X (.Tuple es x1 pos) (tTupF t) := by
  refine ⟨fun pins s σ H Q I hq => wpAny_Tuple_spliced (thn (h.run pos pins s σ H _ I hq) fun us s1 z => ?_)⟩
  obtain ⟨xs, H1, I1, r, z, q⟩ := z
  refine ⟨by rw [← r.length]; exact z, ?_⟩
  have new := I1.hok.fresh (Nat.le_refl s1.heap.objs.size)
  have got : (s1.heap.push { cls := Value.type "tuple", data := Data.seq us.toArray }).get? s1.heap.objs.size = some { cls := Value.type "tuple", data := Data.seq us.toArray } := Heap.get?_push_size _ rfl
  exact ⟨.ref s1.heap.objs.size, _, I1.laid (t' := s1.toks) (o := .frz { cls := Value.type "tuple", data := Data.seq us.toArray } (.tup xs)) (fun _ _ e => Heap.get?_push_of_some _ e) (Nat.le_refl _) ⟨got, z, us, r, IsTup.new _ _⟩, rfl, q _ _ new rfl rfl⟩
/-! ### l.count(k) of a list of ints -/
def rCntL (K : PySem.W.Frag) : V → List V → Hp → VK → Prop := fun x xs H Q => ∃ (a : Addr) (L : List Int) (k : Int), x = .ref a ∧ xs = [.int k] ∧ SqL K H a (iV L) ∧ Q (.int (L.count k : Nat)) H
end K8
namespace K8
open PySem PySem.Spec PyProof.Rows L2 RZ
/-! ### the law's small defs -/
def spNear : Sp := fun vs H Q _ => ∃ (d : Addr) (n : Int) (L : List V), vs = [.ref d, .int n] ∧ 0 ≤ n ∧ n.natAbs < 2 ^ 400 ∧ H d = some (.lst L) ∧ DiceL L ∧ ∀ (i : Int) (L' : List V), -n ≤ i → i ≤ n → DiceL L' → Q (.int i) (upd H d (.lst L'))
def spCho : Sp := fun vs H Q _ => ∃ (m : Int) (f q : Nat), vs = [.int m, .int (f : Int)] ∧ f ≤ 64 ∧ m.natAbs < 2 ^ q ∧ 6 ≤ q ∧ (q + 1) * (f + 1) ≤ 900000 ∧ Q (.int (ac m f)) H
def spFac : Sp := fun vs H Q _ => ∃ (p size q : Nat) (m : Int), vs = [.int ((p + 1 : Nat) : Int), .int m, .int (size : Int)] ∧ 1 ≤ p ∧ p ≤ 100 ∧ 1 ≤ size ∧ size ≤ 64 ∧ m.natAbs < 2 ^ q ∧ 6 ≤ q ∧ (q + 2) * ((size - 1) / p + 1) ≤ 900000 ∧
  ∀ H' r, Same H H' → H r = none → H' r = some (.lst (iV (lfac (p + 1) m size))) → Q (.ref r) H'
theorem scNear : FnScope ["dice", "most"] ["dice", "most"] (defScope sNear) := ⟨rfl, rfl, rfl, by decide +kernel, rfl, by decide +kernel, by decide +kernel⟩
theorem scCho : FnScope ["many", "few", "found", "at"] ["many", "few"] (defScope sChoose) := ⟨rfl, rfl, rfl, by decide +kernel, rfl, by decide +kernel, by decide +kernel⟩
theorem scFac : FnScope ["degree", "many", "size", "found", "step", "at"] ["degree", "many", "size"] (defScope sFactor) := ⟨rfl, rfl, rfl, by decide +kernel, rfl, by decide +kernel, by decide +kernel⟩
theorem mset {n j : Nat} {f : Nat → Int} {v : Int} : ((List.range n).map f).set j v = (List.range n).map fun k => if k = j then v else f k := by
  refine List.ext_getElem? fun k => ?_
  rw [List.getElem?_set, List.getElem?_map, List.getElem?_map, List.length_map, List.length_range]
  by_cases c : j = k
  · subst c
    rw [if_pos rfl]
    by_cases d : j < n
    · rw [List.getElem?_range d, if_pos d]
      show _ = some (if j = j then v else f j)
      rw [if_pos rfl]
    · rw [if_neg d, List.getElem?_eq_none (by rw [List.length_range]; omega)]
      rfl
  · rw [if_neg c]
    by_cases d : k < n
    · rw [List.getElem?_range d]
      show some (f k) = some (if k = j then v else f k)
      rw [if_neg fun z => c z.symm]
    · rw [List.getElem?_eq_none (by rw [List.length_range]; omega)]
      rfl
theorem mcongr {n : Nat} {f g : Nat → Int} (h : ∀ k, k < n → f k = g k) : (List.range n).map f = (List.range n).map g := List.map_congr_left fun k hk => h k (List.mem_range.mp hk)
theorem mzero (n : Nat) : (List.range n).map (fun _ => (0 : Int)) = List.replicate n 0 := by
  rw [List.map_const', List.length_range]
theorem flat0 (n : Nat) : (List.replicate ((n : Int)).toNat [V.int 0]).flatten = iV (List.replicate n 0) := by
  rw [Int.toNat_natCast, iV, List.map_replicate]
  induction n with
  | zero => rfl
  | succ n ih => rw [List.replicate_succ, List.flatten_cons, ih, List.replicate_succ]; rfl
theorem many_bd {m : Int} {q at' : Nat} (h : m.natAbs < 2 ^ q) (hq : 6 ≤ q) (ha : at' ≤ 64) : (m + (at' : Int) - 1).natAbs < 2 ^ (q + 1) := by
  have : 2 ^ 6 ≤ 2 ^ q := Nat.pow_le_pow_right (by decide) hq
  rw [Nat.pow_succ]
  omega
/-- the loop factor, behind i turns -/
def facAt (p : Nat) (m : Int) (size i : Nat) : List Int := (List.range size).map fun j => if j % p = 0 ∧ j / p < i then lfc (p + 1) m j else 0
theorem facAt_len (p : Nat) (m : Int) (size i : Nat) : (facAt p m size i).length = size := by rw [facAt, List.length_map, List.length_range]
theorem facAt_zero (p : Nat) (m : Int) (size : Nat) : facAt p m size 0 = List.replicate size 0 := by
  rw [← mzero]
  exact mcongr fun k _ => if_neg fun z => absurd z.2 (Nat.not_lt_zero _)
theorem facAt_step {p : Nat} (hp : 0 < p) (m : Int) (size i : Nat) : (facAt p m size i).set (i * p) (lfc (p + 1) m (i * p)) = facAt p m size (i + 1) := by
  rw [facAt, mset]
  refine mcongr fun k _ => ?_
  by_cases c : k = i * p
  · subst c
    rw [if_pos rfl, if_pos ⟨Nat.mul_mod_left _ _, by rw [Nat.mul_div_cancel _ hp]; omega⟩]
  · rw [if_neg c]
    by_cases d : k % p = 0
    · have e := Nat.div_add_mod k p
      rw [d, Nat.add_zero] at e
      have ne : k / p ≠ i := fun z => c (by rw [← e, z, Nat.mul_comm])
      by_cases f : k / p < i
      · rw [if_pos ⟨d, f⟩, if_pos ⟨d, by omega⟩]
      · rw [if_neg (fun z => f z.2), if_neg (fun z => by have := z.2; omega)]
    · rw [if_neg (fun z => d z.1), if_neg (fun z => d z.1)]
theorem facAt_end (p : Nat) (m : Int) {size : Nat} (hs : 1 ≤ size) : facAt p m size ((size - 1) / p + 1) = lfac (p + 1) m size := by
  refine mcongr fun k hk => ?_
  by_cases c : k % p = 0
  · refine if_pos ⟨c, ?_⟩
    have : k / p ≤ (size - 1) / p := Nat.div_le_div_right (by omega)
    omega
  · rw [if_neg fun z => c z.1]
    unfold lfc
    rw [Nat.add_sub_cancel, if_neg c]
theorem lfc_at {p : Nat} (hp : 0 < p) (m : Int) (i : Nat) : lfc (p + 1) m (i * p) = if (p + 1) % 2 = 0 then ac m i else ac (m + (i : Int) - 1) i := by
  unfold lfc
  rw [Nat.add_sub_cancel, if_pos (Nat.mul_mod_left _ _), Nat.mul_div_cancel _ hp]
section
variable {P : Program} {w : World} {K : PySem.W.Frag} {mg : Str → Option Value} {base : Heap} {fR fC : Addr} {dR dC : FuncData}
theorem ok_near {f : Addr} {fd : FuncData} (F : Fun K "_law_near" "_law_near" sNear f fd) (gR : mg "_law_roll" = some (.ref fR)) (kR : PySem.W.keepIn K (.ref fR) = true) (bR : Binds K dR ["dice", "total"] [])
    (R : FnOk P w K mg base CX0 1 fR dR ["dice", "total"] spRoll) : FnOk P w K mg base CX0 2 f fd ["dice", "most"] spNear := by
  refine F.ok scNear (fun vs H Q E h => ?_) (fun cdv A outer s H vs Q E hr h => ?_)
  · obtain ⟨d, n, L, rfl, _⟩ := h; rfl
  obtain ⟨d, n, L, rfl, n0, nb, hd, hL, k⟩ := h
  refine ⟨_, pss_one (ps_ret (pe_op op_sub (pe_call R hr (by rfl) gR kR bR .nil pass0 (pa_cons (pv 0) (pa_cons (pe_op op_add (pe_op op_mul pe_int (pv 1)) pe_int) pa_nil))) (pv 1))), ?_⟩
  have b5 : (2 * n + 1).natAbs < 2 ^ 500 := by
    have z : 2 * 2 ^ 400 + 1 ≤ (2 : Nat) ^ 500 := by decide
    omega
  exact ⟨_, rfl, _, rfl, _, _, rfl, rfl, .inl ⟨by decide, by decide⟩, _, _, rfl, rfl, d, 2 * n + 1, L, rfl, by omega, b5, hd, hL, fun i L' i0 i1 hL' => ⟨_, rfl, _, _, rfl, rfl, k _ L' (by omega) (by omega) hL'⟩⟩
theorem ok_choose {f : Addr} {fd : FuncData} (F : Fun K "_law_any_choose" "_law_any_choose" sChoose f fd) (T : Txt K mg) : FnOk P w K mg base CX0 1 f fd ["many", "few"] spCho := by
  refine F.ok scCho (fun vs H Q E h => ?_) (fun cdv A outer s H vs Q E hr h => ?_)
  · obtain ⟨d, n, L, rfl, _⟩ := h; rfl
  obtain ⟨m, n, q, rfl, hn, hm, hq, lim, k⟩ := h
  refine ⟨_, pss_cons (ps_set (i := 2) scCho.nd rfl (.inl rfl) pe_int)
    (pss_cons (ps_for PassesOwn.never rfl (pi_range1 rfl T.range (pa_cons (pv 1) pa_nil)) (pg_name (i := 3) scCho.nd rfl (.inl rfl))
      (pss_one (ps_set (i := 2) scCho.nd rfl (.inl rfl) (pe_op op_fdiv (pe_op op_mulW (pv 2) (pe_op op_sub (pv 0) (pv 3))) (pe_op op_add (pv 3) pe_int)))))
    (pss_one (ps_ret (pv 2)))), ?_⟩
  refine ⟨_, rfl, _, rfl, by omega, by omega, ?_⟩
  refine for_range (lo := 0) (fun i σ' H' => (∃ o3, σ' = [some (.int m), some (.int (n : Int)), some (.int (ac m i)), o3]) ∧ H' = H) ⟨⟨none, rfl⟩, rfl⟩ ?_ ?_
  · rintro i σ' H' hi ⟨⟨o3, rfl⟩, rfl⟩
    have hi' : i < n := by omega
    have b1 := log_le (bn_bd (s := 1) (e := m) (q := q) (by decide) hm hq i (by omega))
    rw [← ac_bn] at b1
    have b2 := log_le (e_bd (m := i) hm hq (by omega))
    have b3 : (q + 1) * (i + 1) ≤ (q + 1) * (n + 1) := Nat.mul_le_mul_left _ (by omega)
    rw [Nat.mul_succ] at b3
    have e0 : (0 : Int) + (i : Int) = (i : Int) := by omega
    change gName 3 (V.int (0 + (i : Int))) _ _ _
    rw [e0]
    refine ⟨_, rfl, _, rfl, _, rfl, _, _, rfl, rfl, _, _, rfl, rfl, (by show _ + _ < 1000000; omega), _, rfl, _, _, rfl, rfl, _, _, rfl, rfl, ⟨by omega, by omega⟩, ⟨_, rfl⟩, rfl⟩
  · rintro σ' H' ⟨⟨o3, rfl⟩, rfl⟩
    refine ⟨_, rfl, ?_⟩
    rw [show ((n : Int)).toNat = n by omega]
    exact k
theorem ok_factor {f : Addr} {fd : FuncData} (F : Fun K "_law_loop_factor" "_law_loop_factor" sFactor f fd) (T : Txt K mg) (gC : mg "_law_any_choose" = some (.ref fC)) (kC : PySem.W.keepIn K (.ref fC) = true) (bC : Binds K dC ["many", "few"] [])
    (FC : FnOk P w K mg base CX0 1 fC dC ["many", "few"] spCho) : FnOk P w K mg base CX0 2 f fd ["degree", "many", "size"] spFac := by
  refine F.ok scFac (fun vs H Q E h => ?_) (fun cdv A outer s H vs Q E hr h => ?_)
  · obtain ⟨p, n, q, m, rfl, _⟩ := h; rfl
  obtain ⟨p, size, q, m, rfl, p1, p2, s1, s2, hm, hq, lim, k⟩ := h
  refine ⟨_, pss_cons (ps_par (i := 3) (j := 4) rfl scFac.nd rfl rfl (by decide) rfl rfl (pa_cons (pe_op op_rep (pe_lst (pa_cons pe_int pa_nil)) (pv 2)) (pa_cons (pe_op op_sub (pv 0) pe_int) pa_nil)) (by rfl))
    (pss_cons (ps_for PassesOwn.never rfl (pi_range1 rfl T.range (pa_cons (pe_op op_add (pe_op op_fdiv (pe_op op_sub (pv 2) pe_int) (pv 4)) pe_int) pa_nil)) (pg_name (i := 5) scFac.nd rfl (.inl rfl))
      (pss_one (ps_asg (pe_ifExp (pt_cmpR op_eq (pe_op op_mod (pv 0) pe_int) pe_int (nomark _)) (pe_call FC hr (by rfl) gC kC bC .nil pass0 (pa_cons (pv 1) (pa_cons (pv 5) pa_nil)))
          (pe_call FC hr (by rfl) gC kC bC .nil pass0 (pa_cons (pe_op op_sub (pe_op op_add (pv 1) (pv 5)) pe_int) (pa_cons (pv 5) pa_nil)))) (pg_sub (pv 3) (pe_op op_mul (pv 5) (pv 4)) set_list))))
    (pss_one (ps_ret (pv 3)))), ?_⟩
  skip
  refine ⟨by show 1 ≤ sizeLine; decide, fun r hr0 => ⟨_, rfl, r, _, _, rfl, rfl, upd_same, by omega, by omega, ?_, fun t ht => ?_⟩⟩
  · show 1 * (size : Int).toNat ≤ sizeLine
    exact Nat.le_of_lt (small1000 (by omega))
  have sr := (Same.new (o := .lst [.int 0]) hr0).trans (Same.new (o := .lst (List.replicate (size : Int).toNat [V.int 0]).flatten) ht)
  have htH : H t = none := none_at (Same.new (o := .lst [.int 0]) hr0) ht
  have hv : upd (upd H r (.lst [.int 0])) t (.lst (List.replicate (size : Int).toNat [V.int 0]).flatten) t = some (.lst (iV (facAt p m size 0))) := by rw [upd_same, flat0, facAt_zero]
  generalize upd (upd H r (.lst [.int 0])) t (.lst (List.replicate (size : Int).toNat [V.int 0]).flatten) = H0 at *
  have ep : ((p + 1 : Nat) : Int) - 1 = (p : Int) := by omega
  refine ⟨_, rfl, _, _, rfl, rfl, ?_⟩
  refine ⟨_, _, rfl, ?_⟩
  show tSeq _ _ _ [some (.int ((p + 1 : Nat) : Int)), some (.int m), some (.int (size : Int)), some (.ref t), some (.int (((p + 1 : Nat) : Int) - 1)), none] _
  rw [ep]
  have dv : ((size : Int) - 1) / (p : Int) = (((size - 1) / p : Nat) : Int) := by
    rw [show ((size : Int) - 1) = ((size - 1 : Nat) : Int) by omega, Int.natCast_ediv]
  have top : (size - 1) / p ≤ 63 := Nat.le_trans (Nat.div_le_self _ _) (by omega)
  have back : (size - 1) / p * p ≤ size - 1 := Nat.div_mul_le_self _ _
  obtain ⟨n, hn⟩ : ∃ n, (size - 1) / p = n := ⟨_, rfl⟩
  have fin := facAt_end p m s1
  rw [hn] at dv top back lim fin
  refine ⟨_, rfl, _, _, rfl, rfl, _, rfl, _, _, rfl, rfl, ⟨by omega, by omega⟩, _, _, rfl, rfl, ?_⟩
  rw [dv]
  refine ⟨_, rfl, by omega, by omega, ?_⟩
  refine for_range (lo := 0) (fun i σ' H' => (∃ o5, σ' = [some (.int ((p + 1 : Nat) : Int)), some (.int m), some (.int (size : Int)), some (.ref t), some (.int (p : Int)), o5]) ∧ H' t = some (.lst (iV (facAt p m size i))) ∧ Same H H') ⟨⟨none, rfl⟩, hv, sr⟩ ?_ ?_
  · rintro i σ' H' hi ⟨⟨o5, rfl⟩, h1, s3⟩
    have hi' : i ≤ n := by omega
    have e0 : (0 : Int) + (i : Int) = (i : Int) := by omega
    change gName 5 (V.int (0 + (i : Int))) _ _ _
    rw [e0]
    have im : i * p ≤ n * p := Nat.mul_le_mul_right p hi'
    have il : (q + 2) * (i + 1) ≤ (q + 2) * (n + 1) := Nat.mul_le_mul_left _ (by omega)
    have il2 : (q + 1) * (i + 1) ≤ (q + 2) * (i + 1) := Nat.mul_le_mul_right _ (by omega)
    have ei : (i : Int) * (p : Int) = ((i * p : Nat) : Int) := by rw [Int.natCast_mul]
    have fl := facAt_len p m size i
    have fs := facAt_step (by omega : 0 < p) m size i
    have fv := lfc_at (by omega : 0 < p) m i
    have ix : ixN (iV (facAt p m size i)).length ((i : Int) * (p : Int)) = some (i * p) := by
      rw [ei]
      exact ixN_nat (by rw [iV_len, fl]; omega)
    refine ⟨_, rfl, _, _, rfl, rfl, (by show (0 : Int) < 2; decide), rfl, _, rfl, ite2 (fun b => ?_) (fun b => ?_)⟩
    · have b := V.int.inj (of_decide_eq_true b)
      rw [if_pos (by omega)] at fv
      refine ⟨_, rfl, _, rfl, m, i, q, rfl, by omega, hm, hq, by omega, ?_⟩
      refine ⟨_, rfl, _, rfl, _, rfl, _, _, rfl, rfl, .inl ⟨by omega, by omega⟩, t, _, _, i * p, rfl, rfl, h1, ix, ⟨_, rfl⟩, ?_, Same.back s3 htH⟩
      rw [upd_same, iV_set, ← fs, fv]
    · have b' : ¬ (p + 1) % 2 = 0 := fun z => b (decide_eq_true (congrArg V.int (by omega)))
      rw [if_neg b'] at fv
      refine ⟨_, rfl, _, rfl, _, _, rfl, rfl, _, _, rfl, rfl, _, rfl, m + (i : Int) - 1, i, q + 1, rfl, by omega, many_bd hm hq (by omega), by omega, Nat.le_trans il lim, ?_⟩
      refine ⟨_, rfl, _, rfl, _, rfl, _, _, rfl, rfl, .inl ⟨by omega, by omega⟩, t, _, _, i * p, rfl, rfl, h1, ix, ⟨_, rfl⟩, ?_, Same.back s3 htH⟩
      rw [upd_same, iV_set, ← fs, fv]
  · rintro σ' H' ⟨⟨o5, rfl⟩, h1, s3⟩
    refine ⟨_, rfl, k H' t s3 htH ?_⟩
    rw [h1, ← fin, show ((n : Int) + 1).toNat = n + 1 by omega]
end
end K8
namespace K8
open PySem PySem.Spec PyProof.Rows L2 RZ
/-! ### the law's product of two series -/
/-- what i turns have summed up at k -/
def tmS (a b : List Int) (i k : Nat) : Int := sm (min i (k + 1)) fun j => cf a j * cf b (k - j)
def tmAt (a b : List Int) (i : Nat) : List Int := (List.range a.length).map (tmS a b i)
/-- the same within a turn -/
def tmIn (a b : List Int) (i t : Nat) : List Int := (List.range a.length).map fun k => if i ≤ k ∧ k < i + t then tmS a b (i + 1) k else tmS a b i k
theorem tmAt_len (a b : List Int) (i : Nat) : (tmAt a b i).length = a.length := by rw [tmAt, List.length_map, List.length_range]
theorem tmIn_len (a b : List Int) (i t : Nat) : (tmIn a b i t).length = a.length := by rw [tmIn, List.length_map, List.length_range]
theorem tmAt_zero (a b : List Int) : tmAt a b 0 = List.replicate a.length 0 := by
  rw [← mzero]
  refine mcongr fun k _ => ?_
  rw [tmS, Nat.zero_min]
  rfl
theorem tmAt_end (a b : List Int) : tmAt a b a.length = tmL a b := by
  refine mcongr fun k hk => ?_
  rw [tmS, Nat.min_eq_right (by omega)]
theorem tmIn_zero (a b : List Int) (i : Nat) : tmIn a b i 0 = tmAt a b i := mcongr fun k _ => if_neg fun z => by omega
theorem tmIn_end (a b : List Int) (i : Nat) : tmIn a b i (a.length - i) = tmAt a b (i + 1) := by
  refine mcongr fun k hk => ?_
  by_cases c : i ≤ k
  · rw [if_pos ⟨c, by omega⟩]
  · rw [if_neg fun z => c z.1, tmS, tmS, Nat.min_eq_right (by omega), Nat.min_eq_right (by omega)]
theorem tmS_up (a b : List Int) {i k : Nat} (h : i ≤ k) : tmS a b (i + 1) k = tmS a b i k + cf a i * cf b (k - i) := by
  rw [tmS, tmS, Nat.min_eq_left (by omega), Nat.min_eq_left (by omega), sm]
theorem tmIn_cf (a b : List Int) {i t : Nat} (h : i + t < a.length) : cf (tmIn a b i t) (i + t) = tmS a b i (i + t) := by
  rw [tmIn, cf_map _ h, if_neg fun z => by omega]
theorem tmIn_step (a b : List Int) {i t : Nat} : (tmIn a b i t).set (i + t) (tmS a b i (i + t) + cf a i * cf b t) = tmIn a b i (t + 1) := by
  rw [tmIn, mset]
  refine mcongr fun k _ => ?_
  by_cases c : k = i + t
  · subst c
    rw [if_pos rfl, if_pos ⟨by omega, by omega⟩, tmS_up a b (by omega), Nat.add_sub_cancel_left]
  · rw [if_neg c]
    by_cases d : i ≤ k ∧ k < i + t
    · rw [if_pos d, if_pos ⟨d.1, by omega⟩]
    · rw [if_neg d, if_neg fun z => by omega]
def spTms (K : PySem.W.Frag) : Sp := fun vs H Q _ => ∃ (p r : Addr) (a b : List Int) (u v : Nat), vs = [.ref p, .ref r] ∧ H p = some (.lst (iV a)) ∧ H r = some (.lst (iV b)) ∧ a.length = b.length ∧ a.length ≤ 100 ∧ Bd u a ∧ Bd v b ∧ u + v < 1000000 ∧
  ∀ H' z, Same H H' → H z = none → H' z = some (.lst (iV (tmL a b))) → Q (.ref z) H'
abbrev nTms : List Str := ["one", "other", "found", "at", "first", "to"]
theorem scTms : FnScope nTms ["one", "other"] (defScope sTimes) := ⟨rfl, rfl, rfl, by decide +kernel, rfl, by decide +kernel, by decide +kernel⟩
section
variable {P : Program} {w : World} {K : PySem.W.Frag} {mg : Str → Option Value} {base : Heap}
theorem ok_times {f : Addr} {fd : FuncData} (F : Fun K "_law_series_times" "_law_series_times" sTimes f fd) (T : Txt K mg) : FnOk P w K mg base CX0 1 f fd ["one", "other"] (spTms K) := by
  refine F.ok scTms (fun vs H Q E h => ?_) (fun cdv A outer s H vs Q E hr h => ?_)
  · obtain ⟨p, r, a, b, u, v, rfl, _⟩ := h; rfl
  obtain ⟨p, r, a, b, u, v, rfl, hp, hr', ll, l1, ba, bb, uv, k⟩ := h
  refine ⟨_, pss_cons (ps_set (i := 2) scTms.nd rfl (.inl rfl) (pe_op op_rep (pe_lst (pa_cons pe_int pa_nil)) (pe_callB call_len_seq (by rfl) T.len PySem.boot_len (pa_cons (pv 0) pa_nil))))
    (pss_cons (ps_for PassesOwn.never rfl (pi_enum (by rfl) T.enumerate (pa_cons (pv 0) pa_nil)) (pg_tup (by rfl) (pgs_cons (pg_name (i := 3) scTms.nd rfl (.inl rfl)) (pgs_cons (pg_name (i := 4) scTms.nd rfl (.inl rfl)) pgs_nil)))
      (pss_one (ps_for PassesOwn.never rfl (pi_range1 rfl T.range (pa_cons (pe_op op_sub (pe_callB call_len_seq (by rfl) T.len PySem.boot_len (pa_cons (pv 0) pa_nil)) (pv 3)) pa_nil)) (pg_name (i := 5) scTms.nd rfl (.inl rfl))
        (pss_one (ps_asg (pe_op op_add (pe_ix ix_list (pv 2) (pe_op op_add (pv 3) (pv 5)) (fun _ _ => rfl)) (pe_op op_mulW (pv 4) (pe_ix ix_list (pv 1) (pv 5) (fun _ _ => rfl)))) (pg_sub (pv 2) (pe_op op_add (pv 3) (pv 5)) set_list))))))
    (pss_one (ps_ret (pv 2)))), ?_⟩
  refine ⟨by show 1 ≤ sizeLine; decide, fun q hq0 => ?_⟩
  have s1 := Same.new (o := .lst [.int 0]) hq0
  refine ⟨_, rfl, p, _, rfl, .inl (SqL.of (s1 _ _ hp)), q, _, _, rfl, rfl, upd_same, by omega, by rw [iV_len]; omega, ?_, fun t ht => ?_⟩
  · show 1 * ((iV a).length : Int).toNat ≤ sizeLine
    exact Nat.le_of_lt (small1000 (by rw [iV_len]; omega))
  have sr := s1.trans (Same.new (o := .lst (List.replicate ((iV a).length : Int).toNat [V.int 0]).flatten) ht)
  have htH : H t = none := none_at s1 ht
  have hv : upd (upd H q (.lst [.int 0])) t (.lst (List.replicate ((iV a).length : Int).toNat [V.int 0]).flatten) t = some (.lst (iV (tmAt a b 0))) := by rw [upd_same, flat0, tmAt_zero, iV_len]
  generalize upd (upd H q (.lst [.int 0])) t (.lst (List.replicate ((iV a).length : Int).toNat [V.int 0]).flatten) = H0 at *
  refine ⟨_, rfl, p, _, rfl, SqL.of (sr _ _ hp), ?_⟩
  refine for_it (walk_enum (xs := iV a)) (fun i σ H' => (∃ o3 o4 o5, σ = [some (.ref p), some (.ref r), some (.ref t), o3, o4, o5]) ∧ H' t = some (.lst (iV (tmAt a b i))) ∧ Same H H') ⟨⟨none, none, none, rfl⟩, hv, sr⟩ (fun _ _ H' _ q => SqL.of (q.2.2 _ _ hp)) (fun i x σ H1 H2 hi q y => ?_) fun σ H1 q => ?_
  · obtain ⟨⟨o3, o4, o5, rfl⟩, ht1, s2⟩ := q
    obtain ⟨tt, x1, x2, rfl, htt, rfl, hu, hv⟩ := y
    cases hu
    rw [iV_len] at hi
    have hv : (iV a)[i]? = some x2 := hv
    rw [iV_get (cf_at hi)] at hv
    cases hv
    have st := Same.new (o := .tup [.int (i : Int), .int (cf a i)]) htt
    have ht2 := st _ _ ht1
    have s3 := s2.trans st
    have gT : upd H1 tt (.tup [.int (i : Int), .int (cf a i)]) tt = some (.tup [.int (i : Int), .int (cf a i)]) := upd_same
    generalize upd H1 tt (.tup [.int (i : Int), .int (cf a i)]) = H3 at *
    refine ⟨tt, _, rfl, SqT.of gT, rfl, _, _, rfl, _, _, rfl, rfl, ?_⟩
    refine ⟨_, rfl, p, _, rfl, .inl (SqL.of (s3 _ _ hp)), _, rfl, _, _, rfl, rfl, ?_⟩
    rw [iV_len]
    refine ⟨_, rfl, by omega, by omega, ?_⟩
    refine for_range (lo := 0) (fun j σ' H' => (∃ o5, σ' = [some (.ref p), some (.ref r), some (.ref t), some (.int (i : Int)), some (.int (cf a i)), o5]) ∧ H' t = some (.lst (iV (tmIn a b i j))) ∧ Same H H') ⟨⟨o5, rfl⟩, by rw [tmIn_zero]; exact ht2, s3⟩ ?_ ?_
    · rintro j σ' H' hj ⟨⟨o5, rfl⟩, h1, s4⟩
      have hj' : i + j < a.length := by omega
      have e0 : (0 : Int) + (j : Int) = (j : Int) := by omega
      change gName 5 (V.int (0 + (j : Int))) _ _ _
      rw [e0]
      have ei : (i : Int) + (j : Int) = ((i + j : Nat) : Int) := by omega
      have tl := tmIn_len a b i j
      have at1 : atI (iV (tmIn a b i j)) ((i : Int) + (j : Int)) = some (.int (tmS a b i (i + j))) := by
        rw [ei, ← tmIn_cf a b hj']
        exact atI_nat (iV_get (cf_at (by omega)))
      have at2 : atI (iV b) ((j : Nat) : Int) = some (.int (cf b j)) := atI_nat (iV_get (cf_at (by omega)))
      have ix : ixN (iV (tmIn a b i j)).length ((i : Int) + (j : Int)) = some (i + j) := by
        rw [ei]
        exact ixN_nat (by rw [iV_len, tl]; omega)
      have big : CMulW (cf a i) (cf b j) := by
        have h1 := log_lt (ba.cf i)
        have h2 := log_lt (bb.cf j)
        show _ + _ < 1000000
        omega
      refine ⟨_, rfl, _, rfl, _, rfl, _, _, rfl, rfl, t, _, _, _, rfl, rfl, SqL.of h1, at1, _, rfl, _, rfl, _, rfl, r, _, _, _, rfl, rfl, SqL.of (s4 _ _ hr'), at2, _, _, rfl, rfl, big, _, _, rfl, rfl, ?_⟩
      refine ⟨_, rfl, _, rfl, _, rfl, _, _, rfl, rfl, t, _, _, i + j, rfl, rfl, h1, ix, ⟨_, rfl⟩, ?_, Same.back s4 htH⟩
      rw [upd_same, iV_set, tmIn_step]
    · rintro σ' H' ⟨⟨o5, rfl⟩, h1, s4⟩
      refine ⟨⟨_, _, _, rfl⟩, ?_, s4⟩
      rw [h1, show ((a.length : Int) - (i : Int)).toNat = a.length - i by omega, tmIn_end]
  · obtain ⟨⟨o3, o4, o5, rfl⟩, ht1, s2⟩ := q
    refine ⟨_, rfl, k H1 t s2 htH ?_⟩
    rw [ht1, iV_len, tmAt_end]
end
end K8
namespace K8
open PySem PySem.Spec PyProof.Rows L2 RZ
/-! ### the law's series of counts, and counts of a series -/
/-- no number on the way is too great -/
def CtOk (C : List Int) (size : Nat) : Prop := ∀ k, k < C.length → cf C k ≠ 0 → k + 1 < size → ∃ q b, (cf C k).natAbs < 2 ^ q ∧ 6 ≤ q ∧ Bd b (ctdAt C size k) ∧ (q + 1) * ((size - 1) / (k + 1)) + b + 7 ≤ 400000
theorem ctdAt_len (C : List Int) {size : Nat} (hs : 0 < size) (k : Nat) : (ctdAt C size k).length = size := by
  rw [ctdAt_ser C hs, serAt_len]
  omega
theorem lfac_len (d : Nat) (m : Int) (size : Nat) : (lfac d m size).length = size := by rw [lfac, List.length_map, List.length_range]
theorem lscAt_len (L : List Int) : ∀ k, (lscAt L k).length = k
  | 0 => rfl
  | k + 1 => by
    rw [lscAt, List.length_append, lscAt_len L k]
    rfl
theorem lfac_bd {p q size : Nat} {c : Int} (hp : 0 < p) (hc : c.natAbs < 2 ^ q) (hq : 6 ≤ q) (hs : size ≤ 64) : Bd ((q + 1) * ((size - 1) / p) + 1) (lfac (p + 1) c size) := by
  refine Bd.of_cf fun i hi => ?_
  rw [lfac_len] at hi
  rw [lfac, cf_map _ hi, lfc_sp, sp]
  split
  · have d : i / p ≤ (size - 1) / p := Nat.div_le_div_right (by omega)
    have d2 : i / p ≤ i := Nat.div_le_self _ _
    have b := bn_bd (s := sg p) (e := ex p c) (q := q) (sg_abs p) (by rw [ex_abs]; exact hc) hq (i / p) (by omega)
    have m : 2 ^ ((q + 1) * (i / p)) ≤ 2 ^ ((q + 1) * ((size - 1) / p)) := Nat.pow_le_pow_right (by decide) (Nat.mul_le_mul_left _ d)
    rw [Nat.pow_succ]
    have := Nat.two_pow_pos ((q + 1) * ((size - 1) / p))
    omega
  · exact Nat.two_pow_pos _
def spCtd (K : PySem.W.Frag) : Sp := fun vs H Q _ => ∃ (p : Addr) (C : List Int) (size : Nat), vs = [.ref p, .int (size : Int)] ∧ H p = some (.lst (iV C)) ∧ C.length ≤ 60 ∧ 1 ≤ size ∧ size ≤ 64 ∧ CtOk C size ∧
  ∀ H' z, Same H H' → H z = none → H' z = some (.lst (iV (ctd C size))) → Q (.ref z) H'
def spLsc (K : PySem.W.Frag) : Sp := fun vs H Q _ => ∃ (p : Addr) (L : List Int), vs = [.ref p] ∧ H p = some (.lst (iV L)) ∧ 1 ≤ L.length ∧ L.length ≤ 60 ∧ (∀ k, k + 1 < L.length → CtOk (lscAt L k) (k + 2)) ∧
  ∀ H' z, Same H H' → H z = none → H' z = some (.lst (iV (lscAt L (L.length - 1)))) → Q (.ref z) H'
abbrev nCtd : List Str := ["counts", "size", "found", "at", "many"]
abbrev nLsc : List Str := ["series", "found", "at", "here"]
theorem scCtd : FnScope nCtd ["counts", "size"] (defScope sCounted) := ⟨rfl, rfl, rfl, by decide +kernel, rfl, by decide +kernel, by decide +kernel⟩
theorem scLsc : FnScope nLsc ["series"] (defScope sSCounts) := ⟨rfl, rfl, rfl, by decide +kernel, rfl, by decide +kernel, by decide +kernel⟩
section
variable {P : Program} {w : World} {K : PySem.W.Frag} {mg : Str → Option Value} {base : Heap} {fF fT fC : Addr} {dF dT dC : FuncData}
theorem ok_counted {f : Addr} {fd : FuncData} (F : Fun K "_law_counted_series" "_law_counted_series" sCounted f fd) (T : Txt K mg) (gF : mg "_law_loop_factor" = some (.ref fF)) (kF : PySem.W.keepIn K (.ref fF) = true) (bF : Binds K dF ["degree", "many", "size"] [])
    (FF : FnOk P w K mg base CX0 2 fF dF ["degree", "many", "size"] spFac) (gT : mg "_law_series_times" = some (.ref fT)) (kT : PySem.W.keepIn K (.ref fT) = true) (bT : Binds K dT ["one", "other"] [])
    (FT : FnOk P w K mg base CX0 1 fT dT ["one", "other"] (spTms K)) : FnOk P w K mg base CX0 3 f fd ["counts", "size"] (spCtd K) := by
  refine F.ok scCtd (fun vs H Q E h => ?_) (fun cdv A outer s H vs Q E hr h => ?_)
  · obtain ⟨p, C, size, rfl, _⟩ := h; rfl
  obtain ⟨p, C, size, rfl, hp, l1, s1, s2, ok, k⟩ := h
  have hr1 : Room 1 _ := hr.mono (by decide)
  refine ⟨_, pss_cons (ps_set (i := 2) scCtd.nd rfl (.inl rfl) (pe_op op_cat (pe_lst (pa_cons pe_int pa_nil)) (pe_op op_rep (pe_lst (pa_cons pe_int pa_nil)) (pe_op op_sub (pv 1) pe_int))))
    (pss_cons (ps_for PassesOwn.never rfl (pi_enum (by rfl) T.enumerate (pa_cons (pv 0) pa_nil)) (pg_tup (by rfl) (pgs_cons (pg_name (i := 3) scCtd.nd rfl (.inl rfl)) (pgs_cons (pg_name (i := 4) scCtd.nd rfl (.inl rfl)) pgs_nil)))
      (pss_one (ps_if (PW.pt (pw_and (pt_cmpR op_ne (pv 4) pe_int (nomark _)) (pw_and1 (pt_cmpR op_lt (pe_op op_add (pv 3) pe_int) (pv 1) (nomark _)))))
        (pss_one (ps_set (i := 2) scCtd.nd rfl (.inl rfl) (pe_call FT hr1 (by rfl) gT kT bT .nil pass0 (pa_cons (pv 2) (pa_cons (pe_call FF hr (by rfl) gF kF bF .nil pass0 (pa_cons (pe_op op_add (pv 3) pe_int) (pa_cons (pv 4) (pa_cons (pv 1) pa_nil)))) pa_nil))))) pss_nil)))
    (pss_one (ps_ret (pv 2)))), ?_⟩
  refine ⟨by show 1 ≤ sizeLine; decide, fun a ha0 => ⟨by show 1 ≤ sizeLine; decide, fun q hq0 => ⟨_, rfl, _, _, rfl, rfl, q, _, _, rfl, rfl, upd_same, by omega, by omega, ?_, fun r hr0 => ?_⟩⟩⟩
  · show 1 * ((size : Int) - 1).toNat ≤ sizeLine
    exact Nat.le_of_lt (small1000 (by omega))
  have sp : Same H (upd H a (.lst [.int 1])) := Same.new ha0
  have sq : Same (upd H a (.lst [.int 1])) (upd (upd H a (.lst [.int 1])) q (.lst [.int 0])) := Same.new hq0
  have sr := Same.new (o := .lst (List.replicate ((size : Int) - 1).toNat [V.int 0]).flatten) hr0
  have e : (List.replicate ((size : Int) - 1).toNat [V.int 0]).flatten = iV (List.replicate (size - 1) 0) := by
    rw [← flat0 (size - 1), show ((size : Int) - 1) = ((size - 1 : Nat) : Int) by omega]
  refine ⟨a, r, _, _, rfl, rfl, sr _ _ (sq _ _ upd_same), upd_same, ?_, fun t ht => ?_⟩
  · rw [e, iV_len, List.length_replicate]
    exact Nat.le_of_lt (small1000 (by show 1 + (size - 1) ≤ 1000; omega))
  have s3 := sp.trans (sq.trans sr)
  have s4 := s3.trans (Same.new (o := .lst ([V.int 1] ++ (List.replicate ((size : Int) - 1).toNat [V.int 0]).flatten)) ht)
  have hv : upd (upd (upd (upd H a (.lst [.int 1])) q (.lst [.int 0])) r (.lst (List.replicate ((size : Int) - 1).toNat [V.int 0]).flatten)) t (.lst ([V.int 1] ++ (List.replicate ((size : Int) - 1).toNat [V.int 0]).flatten)) t = some (.lst (iV (ctdAt C size 0))) := by
    rw [upd_same, e]
    rfl
  have htH : H t = none := none_at s3 ht
  generalize upd (upd (upd (upd H a (.lst [.int 1])) q (.lst [.int 0])) r (.lst (List.replicate ((size : Int) - 1).toNat [V.int 0]).flatten)) t (.lst ([V.int 1] ++ (List.replicate ((size : Int) - 1).toNat [V.int 0]).flatten)) = H0 at *
  refine ⟨_, rfl, p, _, rfl, SqL.of (s4 _ _ hp), ?_⟩
  refine for_it (walk_enum (xs := iV C)) (fun i σ H' => (∃ t' o3 o4, σ = [some (.ref p), some (.int (size : Int)), some (.ref t'), o3, o4] ∧ H' t' = some (.lst (iV (ctdAt C size i))) ∧ H t' = none) ∧ Same H H') ⟨⟨t, none, none, rfl, hv, htH⟩, s4⟩ (fun _ _ H' _ q => SqL.of (q.2 _ _ hp)) (fun i x σ H1 H2 hi q y => ?_) fun σ H1 q => ?_
  · obtain ⟨⟨t', o3, o4, rfl, ht1, htn⟩, s5⟩ := q
    obtain ⟨tt, x1, x2, rfl, htt, rfl, hu, hv⟩ := y
    cases hu
    rw [iV_len] at hi
    have hv : (iV C)[i]? = some x2 := hv
    rw [iV_get (cf_at hi)] at hv
    cases hv
    have st := Same.new (o := .tup [.int (i : Int), .int (cf C i)]) htt
    have ht2 := st _ _ ht1
    have s6 := s5.trans st
    have gT : upd H1 tt (.tup [.int (i : Int), .int (cf C i)]) tt = some (.tup [.int (i : Int), .int (cf C i)]) := upd_same
    generalize upd H1 tt (.tup [.int (i : Int), .int (cf C i)]) = H3 at *
    refine ⟨tt, _, rfl, SqT.of gT, rfl, _, _, rfl, _, _, rfl, rfl, ?_⟩
    have stay : ¬ (cf C i ≠ 0 ∧ i + 1 < size) → H3 t' = some (.lst (iV (ctdAt C size (i + 1)))) := fun z => by
      rw [ctdAt, if_neg z]
      exact ht2
    refine ⟨_, rfl, rfl, _, rfl, ite2 (fun b => ?_) (fun b => ?_)⟩
    · have b : cf C i ≠ 0 := fun z => by rw [z] at b; exact absurd b (by decide)
      refine ⟨_, rfl, _, _, rfl, rfl, _, rfl, _, _, rfl, rfl, _, rfl, ite2 (fun c => ?_) (fun c => ?_)⟩
      · have c := of_decide_eq_true c
        have c : i + 1 < size := by omega
        obtain ⟨q, b', hq, q6, bb, lim⟩ := ok i hi b c
        have m1 : 1 ≤ (size - 1) / (i + 1) := (Nat.le_div_iff_mul_le (by omega)).mpr (by omega)
        have m2 : (size - 1) / (i + 1) ≤ size - 1 := Nat.div_le_self _ _
        have m3 : q + 1 ≤ (q + 1) * ((size - 1) / (i + 1)) := Nat.le_mul_of_pos_right _ m1
        have lb := lfac_bd (p := i + 1) (size := size) (by omega) hq q6 (by omega)
        refine ⟨_, rfl, _, rfl, _, _, rfl, rfl, _, rfl, _, rfl, i + 1, size, q, cf C i, ?_, by omega, by omega, s1, s2, hq, q6, ?_, fun H4 z s7 hz hz4 => ?_⟩
        · show [V.int ((i : Int) + 2), V.int (cf C i), V.int (size : Int)] = _
          rw [show (i : Int) + 2 = ((i + 1 + 1 : Nat) : Int) by omega]
        · have e2 : (q + 2) * ((size - 1) / (i + 1) + 1) = (q + 1) * ((size - 1) / (i + 1)) + (size - 1) / (i + 1) + (q + 2) := by
            rw [Nat.mul_succ, show q + 2 = (q + 1) + 1 by omega, Nat.succ_mul]
          omega
        · refine ⟨t', z, ctdAt C size i, lfac (i + 1 + 1) (cf C i) size, b', (q + 1) * ((size - 1) / (i + 1)) + 1, rfl, s7 _ _ ht2, hz4, ?_, ?_, bb, lb, by omega, fun H5 y s8 hy hy5 => ?_⟩
          · rw [ctdAt_len C (by omega), lfac_len]
          · rw [ctdAt_len C (by omega)]
            omega
          · refine ⟨⟨y, _, _, rfl, ?_, none_at (s6.trans s7) hy⟩, (s6.trans s7).trans s8⟩
            rw [ctdAt, if_pos ⟨b, c⟩]
            exact hy5
      · have c : ¬ i + 1 < size := fun z => c (decide_eq_true (by omega))
        exact ⟨⟨t', _, _, rfl, stay fun z => c z.2, htn⟩, s6⟩
    · have b : cf C i = 0 := Decidable.byContradiction fun z => b (by show (!decide (V.int (cf C i) = V.int 0)) = true; rw [decide_eq_false fun y => z (V.int.inj y)]; rfl)
      exact iteF ⟨⟨t', _, _, rfl, stay fun z => z.1 b, htn⟩, s6⟩
  · obtain ⟨⟨t', o3, o4, rfl, ht1, htn⟩, s5⟩ := q
    refine ⟨_, rfl, k H1 t' s5 htn ?_⟩
    rw [ht1, iV_len]
    rfl
theorem ok_lsc {f : Addr} {fd : FuncData} (F : Fun K "_law_series_counts" "_law_series_counts" sSCounts f fd) (T : Txt K mg) (gC : mg "_law_counted_series" = some (.ref fC)) (kC : PySem.W.keepIn K (.ref fC) = true) (bC : Binds K dC ["counts", "size"] [])
    (FC : FnOk P w K mg base CX0 3 fC dC ["counts", "size"] (spCtd K)) : FnOk P w K mg base CX0 4 f fd ["series"] (spLsc K) := by
  refine F.ok scLsc (fun vs H Q E h => ?_) (fun cdv A outer s H vs Q E hr h => ?_)
  · obtain ⟨p, L, rfl, _⟩ := h; rfl
  obtain ⟨p, L, rfl, hp, l1, l2, ok, k⟩ := h
  refine ⟨_, pss_cons (ps_set (i := 1) scLsc.nd rfl (.inl rfl) (pe_lst pa_nil))
    (pss_cons (ps_for PassesOwn.never rfl (pi_range2 rfl T.range (pa_cons pe_int (pa_cons (pe_callB call_len_seq (by rfl) T.len PySem.boot_len (pa_cons (pv 0) pa_nil)) pa_nil))) (pg_name (i := 2) scLsc.nd rfl (.inl rfl))
      (pss_cons (ps_set (i := 3) scLsc.nd rfl (.inl rfl) (pe_call FC hr (by rfl) gC kC bC .nil pass0 (pa_cons (pv 1) (pa_cons (pe_op op_add (pv 2) pe_int) pa_nil))))
      (pss_one (ps_expr (pe_bm PySem.F.plainAttrs_list PySem.F.slot_list_append PySem.F.type_list_append mt_append (pv 1) (pa_cons (pe_op op_sub (pe_ix ix_list (pv 0) (pv 2) (fun _ _ => rfl)) (pe_ix ix_list (pv 3) (pv 2) (fun _ _ => rfl))) pa_nil))))))
    (pss_one (ps_ret (pv 1)))), ?_⟩
  refine ⟨by show 0 ≤ sizeLine; decide, fun t ht0 => ?_⟩
  have sc := Same.new (o := .lst []) ht0
  refine ⟨_, rfl, p, _, rfl, .inl (SqL.of (sc _ _ hp)), _, _, rfl, ⟨by omega, by omega, by omega, by rw [iV_len]; omega⟩, ?_⟩
  refine for_it (walk_range (lo := 1) (n := (((iV L).length : Int) - 1).toNat)) (fun i σ H' => (∃ o2 o3, σ = [some (.ref p), some (.ref t), o2, o3]) ∧ H' t = some (.lst (iV (lscAt L i))) ∧ Same H H') ⟨⟨none, none, rfl⟩, upd_same, sc⟩ (fun _ _ _ _ _ => trivial) (fun i x σ H0 H1 hi q y => ?_) fun σ H1 q => ?_
  · obtain ⟨⟨o2, o3, rfl⟩, ht1, s1⟩ := q
    obtain ⟨rfl, rfl⟩ := y
    rw [iV_len] at hi
    have hi' : i + 1 < L.length := by omega
    have e1 : (1 : Int) + (i : Int) = ((i + 1 : Nat) : Int) := by omega
    change gName 2 (V.int (1 + (i : Int))) _ _ _
    rw [e1]
    refine ⟨_, rfl, _, rfl, _, _, rfl, rfl, t, lscAt L i, i + 2, ?_, ht1, by rw [lscAt_len]; omega, by omega, by omega, ok i hi', fun H2 z s2 hz hz2 => ?_⟩
    · show [V.ref t, V.int (((i + 1 : Nat) : Int) + 1)] = _
      rw [show ((i + 1 : Nat) : Int) + 1 = ((i + 2 : Nat) : Int) by omega]
    have cl : (ctd (lscAt L i) (i + 2)).length = i + 2 := ctdAt_len _ (by omega) _
    have ht2 := s2 _ _ ht1
    refine ⟨_, rfl, .inl ⟨rfl, _, SqL.of ht2⟩, _, rfl, _, rfl, p, _, _, _, rfl, rfl, SqL.of ((s1.trans s2) _ _ hp), atI_nat (iV_get (cf_at hi')), _, rfl, _, rfl, z, _, _, _, rfl, rfl, SqL.of hz2, atI_nat (iV_get (cf_at (by omega))), _, _, rfl, rfl, t, _, _, rfl, rfl, ht2, small1000 (by rw [iV_len, lscAt_len]; omega), ?_⟩
    refine ⟨⟨_, _, rfl⟩, ?_, Same.back (s1.trans s2) ht0⟩
    rw [upd_same, lscAt]
    simp only [iV, List.map_append]
    rfl
  · obtain ⟨⟨o2, o3, rfl⟩, ht1, s1⟩ := q
    refine ⟨_, rfl, k H1 t s1 ht0 ?_⟩
    rw [ht1, iV_len, show ((L.length : Int) - 1).toNat = L.length - 1 by omega]
end
end K8
namespace K8
open PySem PySem.Spec PyProof.Rows L2 RZ
theorem mt_lcount {X : Cx} : MtM X "list.count" (rCntL X.K) := by
  intro pins s σ H x xs v us Q I rx rxs h
  obtain ⟨a, L, k, rfl, rfl, ha, q⟩ := h
  cases rx
  obtain ⟨u, rfl, ru⟩ := rxs.one
  obtain ⟨t, rfl⟩ := ru
  obtain ⟨its, rv, ⟨⟨cls, dd, data, sl⟩, n, ho, hc, hdd, hd⟩, hs⟩ := I.list ha
  simp only at hc hd
  subst hc hd
  have hi := ints_of_vals rv
  refine call_meets PySem.F.slot_list_count ⟨_, ho, rfl⟩
    PySem.F.entry_list_count (PySem.F.args_list_count_2 _ _) (SeqAt.list_countAt a its.toArray n dd sl (.int k t) (eqk k))
    ⟨ho, fun y hy => (eqk_gives hi y (Array.mem_toArray.mp hy)).at _ _, .int (L.count k : Nat), H, I.tok _, ⟨s.toks, ?_⟩, q⟩
  have e := eqk_count (k := k) hi
  show Value.int ((its.toArray.toList.countP (eqk k) : Nat) : Int) s.toks = _
  rw [show its.toArray.toList = its from rfl, e]
theorem SerIs.right {K : PySem.W.Frag} {H : Hp} {a : Addr} {S : List Int} (h : SqT K H a (iV S)) (l1 : 1 ≤ S.length) (l2 : S.length ≤ 61) (h0 : cf S 0 = 1) (hi : ∀ x ∈ S, -(10 ^ 60) < x ∧ x < 10 ^ 60) : SerIs K H (.ref a) true := by
  cases S with
  | nil => exact absurd l1 (by decide)
  | cons x S =>
    have h0 : x = 1 := h0
    subst h0
    have q := SerIs.tup (x := .int 1) (xs := iV S) h (by rw [iV_len]; rw [List.length_cons] at l2; omega) (iV_vk (L := 1 :: S))
    have e : (V.int 1 :: iV S).all i60 = true := by
      rw [List.all_eq_true]
      intro y hy
      obtain ⟨d, hd, rfl⟩ := List.mem_map.mp (show y ∈ iV (1 :: S) from hy)
      have := hi d hd
      show (decide (-(10 ^ 60) < d) && decide (d < 10 ^ 60)) = true
      rw [decide_eq_true this.1, decide_eq_true this.2]
      rfl
    rw [e, Bool.true_and, decide_eq_true rfl] at q
    exact q
theorem TupIs.right {K : PySem.W.Frag} {H : Hp} {a : Addr} {L : List Int} {n : Nat} {lo hi : Int} (h : SqT K H a (iV L)) (l : L.length ≤ n) (h1 : ∀ d ∈ L, lo ≤ d) (h2 : ∀ d ∈ L, d ≤ hi) (b1 : -(10 ^ 60) < lo) (b2 : hi < 10 ^ 60) : TupIs K H n lo hi (.ref a) true := by
  have q := TupIs.tup (lo := lo) (hi := hi) h (by rw [iV_len]; exact l) iV_vk
  rw [all_betw h1 h2 b1 b2] at q
  exact q
theorem ct_of {C : List Int} {N : Nat} {q b : Nat → Nat} (hN : N + 1 ≤ 64) (h0 : 1 ≤ b 0) (hq : ∀ k, k < C.length → 6 ≤ q k ∧ (cf C k).natAbs < 2 ^ q k) (hb : ∀ k, k < C.length → (q k + 1) * (N / (k + 1)) + b k + 7 ≤ b (k + 1) ∧ b (k + 1) ≤ 400000) : CtOk C (N + 1) := fun k hk _ _ => by
  have s := (ser_bd hN h0 hq hb k (by omega)).1
  refine ⟨q k, b k, (hq k hk).2, (hq k hk).1, ?_, ?_⟩
  · rw [ctdAt_ser C (by omega), Nat.add_sub_cancel]
    exact s
  · have := hb k hk
    rw [Nat.add_sub_cancel]
    omega
theorem ct_small {C : List Int} {N : Nat} (hC : C.length ≤ 42) (hN : N ≤ 42) (hc : ∀ k, (cf C k).natAbs < 2 ^ 11) : CtOk C (N + 1) :=
  ct_of (q := fun _ => 11) (b := fun k => 1 + 600 * k) (by omega) (by omega) (fun k _ => ⟨by decide, hc k⟩) (fun k hk => by
    have d : N / (k + 1) ≤ 42 := Nat.le_trans (Nat.div_le_self _ _) hN
    constructor
    · show (11 + 1) * (N / (k + 1)) + (1 + 600 * k) + 7 ≤ 1 + 600 * (k + 1)
      omega
    · show 1 + 600 * (k + 1) ≤ 400000
      omega)
theorem ct_short {C : List Int} {N : Nat} (hC : C.length ≤ 7) (hN : N ≤ 7) (hc : ∀ k, k < C.length → (cf C k).natAbs < 2 ^ bA k) : CtOk C (N + 1) :=
  ct_of (q := bA) (b := bB) (by omega) (by decide) (fun k hk => ⟨(bA_ok k (by omega)).2, hc k hk⟩) (fun k hk => by
    refine ⟨?_, bB_ok k (by omega)⟩
    show _ ≤ (bA k + 1) * (7 / (k + 1)) + bB k + 7
    have d : N / (k + 1) ≤ 7 / (k + 1) := Nat.div_le_div_right hN
    have := Nat.mul_le_mul_left (bA k + 1) d
    omega)
theorem ct_lsc {L : List Int} (h0 : cf L 0 = 1) (hl : L.length ≤ 8) (hb : Bd 135 L) : ∀ k, k + 1 < L.length → CtOk (lscAt L k) (k + 2) := fun k hk => by
  have c := (short_co hl (by omega) hb).2
  have l := lscAt_len L k
  refine ct_short (N := k + 1) (by omega) (by omega) fun j hj => ?_
  rw [lscAt_is h0 k (by omega), cf_map _ (by omega)]
  exact c j (by omega)
theorem ct_back {L : List Int} (h1 : 1 ≤ L.length) (hl : L.length ≤ 8) (hb : Bd 135 L) : CtOk (countsOf L) L.length := by
  have c := (short_co hl h1 hb).2
  have l := countsOf_len L
  have q := ct_short (C := countsOf L) (N := L.length - 1) (by omega) (by omega) fun j hj => by
    rw [countsOf_cf L (by omega), ← coAt_cs L (by omega)]
    exact c j (by omega)
  rw [show L.length - 1 + 1 = L.length by omega] at q
  exact q
theorem nat11 {x : Int} (h1 : -1000 ≤ x) (h2 : x ≤ 1000) : x.natAbs < 2 ^ 11 := by
  have : (2 : Nat) ^ 11 = 2048 := by decide
  omega
def spGood : Sp := fun vs H Q _ => ∃ (d : Addr) (L : List V), vs = [.ref d] ∧ H d = some (.lst L) ∧ DiceL L ∧ ∀ (H' : Hp) (L' : List V), But d H H' → H' d = some (.lst L') → DiceL L' → Q (.bl true) H'
theorem mem_iV {x : V} {L : List Int} (h : x ∈ iV L) : ∃ j, x = .int j ∧ j ∈ L := by
  obtain ⟨j, hj, rfl⟩ := List.mem_map.mp h
  exact ⟨j, rfl, hj⟩
abbrev nLetR : List Str := ["dice", "some", "turn", "most", "counts", "degree", "told"]
theorem scLetR : FnScope nLetR ["dice"] (defScope sLetR) := ⟨rfl, rfl, rfl, by decide +kernel, rfl, by decide +kernel, by decide +kernel⟩
abbrev nSerR : List Str := ["dice", "most", "series", "turn", "told", "one"]
theorem scSerR : FnScope nSerR ["dice"] (defScope sSerR) := ⟨rfl, rfl, rfl, by decide +kernel, rfl, by decide +kernel, by decide +kernel⟩
abbrev nCntR : List Str := ["dice", "most", "counts", "turn", "told"]
theorem scCntR : FnScope nCntR ["dice"] (defScope sCntR) := ⟨rfl, rfl, rfl, by decide +kernel, rfl, by decide +kernel, by decide +kernel⟩
end K8
namespace K8
open PySem PySem.Spec PyProof.Rows L2 RZ
section
variable {P : Program} {w : World} {K : PySem.W.Frag} {mg : Str → Option Value} {base : Heap} {C N E0' fP fR fL fC fS fD : Addr} {dP dR dL dC dS dD : FuncData}
theorem ok_letR {f : Addr} {fd : FuncData} (F : Fun K "_law_letters_right" "_law_letters_right" sLetR f fd) (T : Txt K mg) (gP : mg "_law_pick" = some (.ref fP)) (kP : PySem.W.keepIn K (.ref fP) = true) (bP : Binds K dP ["dice", "items"] []) (FP : FnOk P w K mg base CX0 2 fP dP ["dice", "items"] spPick)
    (gR : mg "_law_roll" = some (.ref fR)) (kR : PySem.W.keepIn K (.ref fR) = true) (bR : Binds K dR ["dice", "total"] []) (FR : FnOk P w K mg base CX0 1 fR dR ["dice", "total"] spRoll)
    (gL : mg "loop_series" = some (.ref fL)) (kL : PySem.W.keepIn K (.ref fL) = true) (bL : Binds K dL ["letters", "most"] []) (FL : FnOk P w K mg base (L2.CX P w) 5 fL dL ["letters", "most"] (spLoop K C N))
    (gC : mg "counts_of_series" = some (.ref fC)) (kC : PySem.W.keepIn K (.ref fC) = true) (bC : Binds K dC ["series"] []) (FC : FnOk P w K mg base (L2.CX P w) 3 fC dC ["series"] (spCoS K E0'))
    (gS : mg "series_of_counts" = some (.ref fS)) (kS : PySem.W.keepIn K (.ref fS) = true) (bS : Binds K dS ["counts"] []) (FS : FnOk P w K mg base (L2.CX P w) 4 fS dS ["counts"] (spSoC K E0'))
    (gD : mg "_law_counted_series" = some (.ref fD)) (kD : PySem.W.keepIn K (.ref fD) = true) (bD : Binds K dD ["counts", "size"] []) (FD : FnOk P w K mg base CX0 3 fD dD ["counts", "size"] (spCtd K)) : FnOk P w K mg base CX0 6 f fd ["dice"] spGood := by
  refine F.ok scLetR (fun vs H Q E h => ?_) (fun cdv A outer s H vs Q E hr h => ?_)
  · obtain ⟨d, L, rfl, _⟩ := h; rfl
  obtain ⟨d, L, rfl, hd, hL, k⟩ := h
  have hr1 : Room 1 _ := hr.mono (by decide)
  have hr2 : Room 2 _ := hr.mono (by decide)
  have hr3 : Room 3 _ := hr.mono (by decide)
  have hr4 : Room 4 _ := hr.mono (by decide)
  refine ⟨_, pss_cons (ps_set (i := 1) scLetR.nd rfl (.inr rfl) (pe_lc (own := [("turn", 2)]) (g := gName 2) rfl scLetR.nd (pi_range1 rfl T.range (pa_cons (pe_call FR hr1 (by rfl) gR kR bR .nil pass0 (pa_cons (pv 0) (pa_cons pe_int pa_nil))) pa_nil))
      (blkOk_by (N := nLetR) (sc := defScope sLetR) (by decide +kernel)) (fun _ _ _ _ _ => pg_name (i := 2) scLetR.nd rfl (.inl rfl)) (fun _ _ _ _ _ => pts_nil)
      (fun _ _ _ _ _ => pe_call FP hr2 (by rfl) gP kP bP .nil pass0 (by exact (pa_cons (pv 0) (pa_cons (pe_lst (pa_cons pe_int (pa_cons pe_int (pa_cons pe_int (pa_cons pe_int (pa_cons pe_int (pa_cons pe_int (pa_cons pe_int (pa_cons pe_int (pa_cons pe_int pa_nil)))))))))) pa_nil))))))
    (pss_cons (ps_set (i := 3) scLetR.nd rfl (.inl rfl) (pe_call FP hr2 (by rfl) gP kP bP .nil pass0 (pa_cons (pv 0) (pa_cons (pe_lst (pa_cons (pe_call FR hr1 (by rfl) gR kR bR .nil pass0 (pa_cons (pv 0) (pa_cons pe_int pa_nil))) (pa_cons (pe_call FR hr1 (by rfl) gR kR bR .nil pass0 (pa_cons (pv 0) (pa_cons pe_int pa_nil))) (pa_cons pe_int pa_nil)))) pa_nil))))
    (pss_cons (ps_setLc (i := 4) (te := tBM K "list" (rCntL K) (tVar 1) (tCons (tVar 5) tNil)) (own := [("degree", 5)]) (g := gName 5) rfl scLetR.nd rfl rfl (by rfl) (pi_range2 rfl T.range (pa_cons pe_int (pa_cons (pe_op op_add (pv 3) pe_int) pa_nil)))
      (blkOk_by (N := nLetR) (sc := defScope sLetR) (by decide +kernel)) (fun _ _ _ _ _ => pg_name (i := 5) scLetR.nd rfl (.inl rfl)) (fun _ _ _ _ _ => pts_nil)
      (fun _ _ _ _ _ => pe_bm PySem.F.plainAttrs_list PySem.F.slot_list_count PySem.F.type_list_count mt_lcount (pv 1) (pa_cons (pv 5) pa_nil)))
    (pss_cons (ps_set (i := 6) scLetR.nd rfl (.inl rfl) (pe_call FL hr (by rfl) gL kL bL .nil passL (pa_cons (pe_callTy call_tupleF (by rfl) T.tuple bootTuple (pa_cons (pv 1) pa_nil)) (pa_cons (pv 3) pa_nil))))
    (pss_cons (ps_if (PW.pt (pw_or (pt_cmpR (op_neD hr.units) (pv 6) (pe_callTy call_tuple_of (by rfl) T.tuple bootTuple (pa_cons (pe_call FD hr3 (by rfl) gD kD bD .nil pass0 (pa_cons (pv 4) (pa_cons (pe_op op_add (pv 3) pe_int) pa_nil))) pa_nil)) (nomark _))
        (pw_or1 (pt_cmpR (op_neD hr.units) (pe_call FC hr3 (by rfl) gC kC bC .nil passL (pa_cons (pv 6) pa_nil)) (pe_callTy call_tuple_of (by rfl) T.tuple bootTuple (pa_cons (pv 4) pa_nil)) (nomark _))))) (pss_one (ps_ret pe_bl)) pss_nil)
    (pss_one (ps_ret (pe_cmpR (op_eqD hr.units) (pe_call FS hr4 (by rfl) gS kS bS .nil passL (pa_cons (pe_callTy call_tuple_of (by rfl) T.tuple bootTuple (pa_cons (pv 4) pa_nil)) pa_nil)) (pv 6) (nomark _)))))))), ?_⟩
  have bits : ∀ n : Int, 0 < n → n ≤ 1000 → n.natAbs < 2 ^ 500 := fun n a b => Nat.lt_of_le_of_lt (by omega : n.natAbs ≤ 1000) (by decide)
  refine ⟨_, rfl, d, 7, L, rfl, by decide, by decide, hd, hL, fun r L1 r0 r1 hL1 => ⟨r, rfl, by omega, by omega, fun D hD => ?_⟩⟩
  have B1 : But d H (upd H d (.lst L1)) := But.dice
  have hd1 : upd H d (.lst L1) d = some (.lst L1) := upd_same
  generalize upd H d (.lst L1) = H1 at *
  refine lc_dice (fun j => 2 ≤ j ∧ j ≤ 40) hD hd1 hL1 (by omega) (fun _ => rfl) (fun n H2 L2' Q2 hn B2 hd2 hL2 q2 => ?_) fun H2 L2' S B2 hd2 hL2 hS lS pS => ?_
  · refine ⟨_, rfl, (by show 9 ≤ sizeLine; decide), fun l hl => ⟨d, l, iV [2, 2, 3, 3, 4, 5, 6, 9, 40], L2', rfl, by rw [upd_ne (ne_of_none hd2 hl)]; exact hd2, hL2, upd_same, (ne_of_none hd2 hl).symm, (fun z => nomatch z), by decide, fun x L3 hx hL3 => ?_⟩⟩
    obtain ⟨j, rfl, hj⟩ := mem_iV hx
    have pj : ∀ j ∈ ([2, 2, 3, 3, 4, 5, 6, 9, 40] : List Int), 2 ≤ j ∧ j ≤ 40 := by decide
    exact q2 _ L3 j ((But.of (Same.new hl)).trans But.dice) upd_same hL3 (pj j hj)
  have nD : D ≠ d := fun z => by rw [z, hd1] at hD; cases hD
  have C2 := B1.trans B2
  refine ⟨_, rfl, _, rfl, d, 9, L2', rfl, by decide, by decide, hd2, hL2, fun a1 L3 a0 a9 hL3 => ?_⟩
  have B3 : But d H2 (upd H2 d (.lst L3)) := But.dice
  have hd3 : upd H2 d (.lst L3) d = some (.lst L3) := upd_same
  generalize upd H2 d (.lst L3) = H3 at *
  refine ⟨_, rfl, d, 25, L3, rfl, by decide, by decide, hd3, hL3, fun b1 L4 b0 b9 hL4 => ?_⟩
  have B4 : But d H2 (upd H3 d (.lst L4)) := B3.trans But.dice
  have hd4 : upd H3 d (.lst L4) d = some (.lst L4) := upd_same
  generalize upd H3 d (.lst L4) = H4 at *
  refine ⟨by show 3 ≤ sizeLine; decide, fun l hl => ⟨d, l, iV [a1, b1, 41], L4, rfl, by rw [upd_ne (ne_of_none hd4 hl)]; exact hd4, hL4, upd_same, (ne_of_none hd4 hl).symm, (fun z => nomatch z), (by show 3 < 1000; decide), fun x L5 hx hL5 => ?_⟩⟩
  obtain ⟨m, rfl, hm⟩ := mem_iV hx
  have hm : 0 ≤ m ∧ m ≤ 41 := by
    rcases List.mem_cons.mp hm with z | z
    · omega
    · rcases List.mem_cons.mp z with z | z
      · omega
      · have := List.mem_singleton.mp z
        omega
  obtain ⟨M, rfl⟩ : ∃ M : Nat, m = (M : Int) := ⟨m.toNat, by omega⟩
  have hM : M ≤ 41 := by omega
  have B5 : But d H2 (upd (upd H4 l (.lst [.int a1, .int b1, .int 41])) d (.lst L5)) := B4.trans ((But.of (Same.new hl)).trans But.dice)
  have hd5 : upd (upd H4 l (.lst [.int a1, .int b1, .int 41])) d (.lst L5) d = some (.lst L5) := upd_same
  generalize upd (upd H4 l (.lst [.int a1, .int b1, .int 41])) d (.lst L5) = H5 at *
  have C5 := C2.trans B5
  have hS5 := B5 _ _ nD hS
  have fin : ∀ H', Same H5 H' → Q (.bl true) H' := fun H' s' => k H' L5 (C5.trans (But.of s')) (s' _ _ hd5) hL5
  -- the mathematics
  have lS6 : S.length ≤ 6 := by omega
  have lt : Lt S := ⟨by omega, fun j hj => by have := pS j hj; omega, fun j hj => (pS j hj).2⟩
  have no1 : (1 : Int) ∉ S := fun z => by have := pS 1 z; omega
  have cl := cM_len S M
  have sm := cM_small lS6
  have c11 : ∀ M k, (cf (cM S M) k).natAbs < 2 ^ 11 := fun M k => cf_all (p := fun x => x.natAbs < 2 ^ 11) (by decide) (fun x hx => nat11 (by have := sm M x hx; omega) (by have := sm M x hx; omega)) k
  have ok39 := (small_ser (C := cM S 39) (N := M) (by rw [cM_len]; decide) (by omega) (c11 39)).1
  have okM := (small_ser (C := cM S M) (N := M) (by omega) (by omega) (c11 M)).1
  have okB := small_back (C := cM S M) (N := M) cl (by omega) (c11 M)
  have ctM := ct_small (C := cM S M) (N := M) (by omega) (by omega) (c11 M)
  have same := same_ser (fun j hj => (pS j hj).2) M
  have W60 := letters_i60 lS6 hM
  have ctd' : ctd (cM S M) (M + 1) = seriesOf (cM S M) M := ctd_ser _ (by omega)
  have cback : countsOf (seriesOf (cM S M) M) = cM S M := counts_ser cl
  have wl : (seriesOf (cM S M) M).length = M + 1 := serAt_len _ _ _
  have wh : cf (seriesOf (cM S M) M) 0 = 1 := ser_head
  -- the counts
  refine ⟨_, rfl, _, _, rfl, rfl, _, _, rfl, ⟨by omega, by omega, by omega, by omega⟩, fun D2 hD2 => ?_⟩
  refine lc_range1 (lo := 2) (N := ((M : Int) + 2 - 2).toNat) (fun j => .int (S.count j : Nat)) hD2 (by omega) (fun _ => rfl) (fun n H6 Q6 hn s6 q6 => ?_) fun H6 s6 hC6 => ?_
  · have g6 := s6 _ _ hS5
    exact ⟨_, rfl, .inl ⟨rfl, _, SqL.of g6⟩, _, rfl, D, S, _, rfl, rfl, SqL.of g6, q6 H6 (Same.refl _)⟩
  have hC6 : H6 D2 = some (.lst (iV (cM S M))) := by
    rw [hC6, show ((M : Int) + 2 - 2).toNat = M by omega, cM, iV, List.map_map]
    rfl
  -- told
  refine ⟨_, rfl, D, iV S, rfl, SqL.of (s6 _ _ hS5), fun t od ht c1 c2 => ?_⟩
  have s7 := Same.new (o := .frz od (.tup (iV S))) ht
  have hF : TupF (upd H6 t (.frz od (.tup (iV S)))) t (iV S) := ⟨od, upd_same, c1, c2⟩
  generalize upd H6 t (.frz od (.tup (iV S))) = H7 at *
  refine ⟨_, rfl, _, _, rfl, .inr ⟨t, S, rfl, hF.sq, lt, no1, .inr ⟨M, rfl, by omega, hF, ok39, fun H8 p s8 hp hp8 => ?_⟩⟩⟩
  have hp8 : H8 p = some (.tup (iV (seriesOf (cM S M) M))) := by
    rw [← same]
    exact hp8
  have hC8 := s8 _ _ (s7 _ _ hC6)
  have s58 := s6.trans (s7.trans s8)
  refine ⟨_, rfl, _, rfl, _, rfl, _, _, rfl, rfl, D2, cM S M, M + 1, rfl, hC8, by omega, by omega, by omega, ctM, fun H9 z s9 hz hz9 => ?_⟩
  refine ⟨z, _, rfl, .inl ⟨SqL.of hz9, fun t2 ht2 => ?_⟩⟩
  rw [ctd']
  have s10 := Same.new (o := .tup (iV (seriesOf (cM S M) M))) ht2
  have s59 := s58.trans (s9.trans s10)
  refine ⟨dI (seriesOf (cM S M) M), dI (seriesOf (cM S M) M), .tup (SqT.of ((s9.trans s10) _ _ hp8)) (dp_ints _), .tup (SqT.of upd_same) (dp_ints _), (shp_dI _).shaped (by decide), (shp_dI _).shaped (by decide), _, rfl, ?_⟩
  rw [eqv_self (shp_dI _) (by decide)]
  refine iteF ?_
  have hp10 := (s9.trans s10) _ _ hp8
  have hC10 := (s9.trans s10) _ _ hC8
  generalize upd H9 t2 (.tup (iV (seriesOf (cM S M) M))) = H10 at *
  refine ⟨_, rfl, _, true, rfl, SerIs.right (SqT.of hp10) (by omega) (by omega) wh W60, (fun e => nomatch e), fun _ => ⟨p, _, rfl, SqT.of hp10, by omega, by omega, okB, fun H11 y s11 hy hy11 => ?_⟩⟩
  rw [cback] at hy11
  refine ⟨_, rfl, D2, _, rfl, .inl ⟨SqL.of (s11 _ _ hC10), fun t3 ht3 => ?_⟩⟩
  have s12 := s11.trans (Same.new (o := .tup (iV (cM S M))) ht3)
  refine ⟨dI (cM S M), dI (cM S M), .tup (SqT.of ((Same.new ht3) _ _ hy11)) (dp_ints _), .tup (SqT.of upd_same) (dp_ints _), (shp_dI _).shaped (by decide), (shp_dI _).shaped (by decide), _, rfl, ?_⟩
  rw [eqv_self (shp_dI _) (by decide)]
  refine iteF ?_
  generalize upd H11 t3 (.tup (iV (cM S M))) = H12 at *
  refine ⟨_, rfl, D2, _, rfl, .inl ⟨SqL.of (s12 _ _ hC10), fun t4 ht4 => ?_⟩⟩
  have s13 := s12.trans (Same.new (o := .tup (iV (cM S M))) ht4)
  have g4 : upd H12 t4 (.tup (iV (cM S M))) t4 = some (.tup (iV (cM S M))) := upd_same
  generalize upd H12 t4 (.tup (iV (cM S M))) = H13 at *
  refine ⟨_, true, rfl, TupIs.right (SqT.of g4) (by omega) (fun x hx => by have := sm M x hx; omega) (fun x hx => by have := sm M x hx; omega) (by decide) (by decide), (fun e => nomatch e), fun _ => ⟨t4, cM S M, rfl, SqT.of g4, by omega, by rw [cl]; exact okM, fun H14 y2 s14 hy2 hy14 => ?_⟩⟩
  rw [cl] at hy14
  refine ⟨_, rfl, dI (seriesOf (cM S M) M), dI (seriesOf (cM S M) M), .tup (SqT.of hy14) (dp_ints _), .tup (SqT.of ((s13.trans s14) _ _ hp10)) (dp_ints _), (shp_dI _).shaped (by decide), (shp_dI _).shaped (by decide), ?_⟩
  rw [eqv_self (shp_dI _) (by decide)]
  exact fin _ (s59.trans (s13.trans s14))
end
end K8
namespace K8
open PySem PySem.Spec PyProof.Rows L2 RZ
def absV : V → Int
  | .int i => if i < 0 then -i else i
  | _ => 0
theorem absV_nat (i : Int) : absV (.int i) = (i.natAbs : Int) := by
  show (if i < 0 then -i else i) = _
  split <;> omega
theorem absV_map (C : List Int) : (iV C).map (fun y => V.int (absV y)) = iV (C.map fun i => (i.natAbs : Int)) := by
  rw [iV, iV, List.map_map, List.map_map]
  refine List.map_congr_left fun i _ => ?_
  show V.int (absV (.int i)) = V.int (i.natAbs : Int)
  rw [absV_nat]
abbrev dL (l : List Int) : PyData := .list (l.map PyData.int)
theorem shp_dL (l : List Int) : Shp 1 (dL l) := .lst .int l
theorem hot : (10 : Int) ^ (40 : Int).toNat = 10 ^ 40 := rfl
section
variable {P : Program} {w : World} {K : PySem.W.Frag} {mg : Str → Option Value} {base : Heap} {C N E0' fP fR fN fZ fC fS fD : Addr} {dP dR dN dZ dC dS dD : FuncData}
theorem ok_serR {f : Addr} {fd : FuncData} (F : Fun K "_law_series_right" "_law_series_right" sSerR f fd) (T : Txt K mg) (gP : mg "_law_pick" = some (.ref fP)) (kP : PySem.W.keepIn K (.ref fP) = true) (bP : Binds K dP ["dice", "items"] []) (FP : FnOk P w K mg base CX0 2 fP dP ["dice", "items"] spPick)
    (gR : mg "_law_roll" = some (.ref fR)) (kR : PySem.W.keepIn K (.ref fR) = true) (bR : Binds K dR ["dice", "total"] []) (FR : FnOk P w K mg base CX0 1 fR dR ["dice", "total"] spRoll)
    (gN : mg "_law_near" = some (.ref fN)) (kN : PySem.W.keepIn K (.ref fN) = true) (bN : Binds K dN ["dice", "most"] []) (FN : FnOk P w K mg base CX0 2 fN dN ["dice", "most"] spNear)
    (gC : mg "counts_of_series" = some (.ref fC)) (kC : PySem.W.keepIn K (.ref fC) = true) (bC : Binds K dC ["series"] []) (FC : FnOk P w K mg base (L2.CX P w) 3 fC dC ["series"] (spCoS K E0'))
    (gS : mg "series_of_counts" = some (.ref fS)) (kS : PySem.W.keepIn K (.ref fS) = true) (bS : Binds K dS ["counts"] []) (FS : FnOk P w K mg base (L2.CX P w) 4 fS dS ["counts"] (spSoC K E0'))
    (gZ : mg "_law_series_counts" = some (.ref fZ)) (kZ : PySem.W.keepIn K (.ref fZ) = true) (bZ : Binds K dZ ["series"] []) (FZ : FnOk P w K mg base CX0 4 fZ dZ ["series"] (spLsc K))
    (gD : mg "_law_counted_series" = some (.ref fD)) (kD : PySem.W.keepIn K (.ref fD) = true) (bD : Binds K dD ["counts", "size"] []) (FD : FnOk P w K mg base CX0 3 fD dD ["counts", "size"] (spCtd K)) : FnOk P w K mg base CX0 5 f fd ["dice"] spGood := by
  refine F.ok scSerR (fun vs H Q E h => ?_) (fun cdv A outer s H vs Q E hr h => ?_)
  · obtain ⟨d, L, rfl, _⟩ := h; rfl
  obtain ⟨d, L, rfl, hd, hL, k⟩ := h
  have hr1 : Room 1 _ := hr.mono (by decide)
  have hr2 : Room 2 _ := hr.mono (by decide)
  have hr3 : Room 3 _ := hr.mono (by decide)
  refine ⟨_, pss_cons (ps_set (i := 1) scSerR.nd rfl (.inr rfl) (pe_call FP hr2 (by rfl) gP kP bP .nil pass0 (pa_cons (pv 0) (pa_cons (pe_lst (pa_cons pe_int (pa_cons pe_int (pa_cons pe_int (pa_cons (pe_op op_pow pe_int pe_int) (pa_cons (pe_op op_pow pe_int pe_int) pa_nil)))))) pa_nil))))
    (pss_cons (ps_set (i := 2) scSerR.nd rfl (.inl rfl) (pe_op op_cat (pe_lst (pa_cons pe_int pa_nil)) (pe_lc (own := [("turn", 3)]) (g := gName 3) rfl scSerR.nd (pi_range1 rfl T.range (pa_cons (pe_call FR hr1 (by rfl) gR kR bR .nil pass0 (pa_cons (pv 0) (pa_cons pe_int pa_nil))) pa_nil))
      (blkOk_by (N := nSerR) (sc := defScope sSerR) (by decide +kernel)) (fun _ _ _ _ _ => pg_name (i := 3) scSerR.nd rfl (.inl rfl)) (fun _ _ _ _ _ => pts_nil)
      (fun _ _ _ _ _ => pe_call FN hr2 (by rfl) gN kN bN .nil pass0 (by exact (pa_cons (pv 0) (pa_cons (pv 1) pa_nil)))))))
    (pss_cons (ps_set (i := 4) scSerR.nd rfl (.inl rfl) (pe_call FC hr3 (by rfl) gC kC bC .nil passL (pa_cons (pe_callTy call_tuple_of (by rfl) T.tuple bootTuple (pa_cons (pv 2) pa_nil)) pa_nil)))
    (pss_cons (ps_if (PW.pt (pw_or (pt_cmpR (op_neD hr.units) (pv 4) (pe_callTy call_tuple_of (by rfl) T.tuple bootTuple (pa_cons (pe_call FZ hr (by rfl) gZ kZ bZ .nil pass0 (pa_cons (pv 2) pa_nil)) pa_nil)) (nomark _))
        (pw_or1 (pt_cmpR (op_neD hr.units) (pe_call FD hr3 (by rfl) gD kD bD .nil pass0 (pa_cons (pe_callTy call_list_of (by rfl) T.list bootList (pa_cons (pv 4) pa_nil)) (pa_cons (pe_callB call_len_seq (by rfl) T.len PySem.boot_len (pa_cons (pv 2) pa_nil)) pa_nil))) (pv 2) (nomark _))))) (pss_one (ps_ret pe_bl)) pss_nil)
    (pss_cons (ps_if (pt_cmpR op_gt (pe_callB (cr_max rfl) (by rfl) T.max bootMax (pa_cons (pe_op op_cat (pe_lst (pa_cons pe_int pa_nil)) (pe_lc (own := [("one", 5)]) (g := gName 5) rfl scSerR.nd (pi_tup (pv 4)) (blkOk_by (N := nSerR) (sc := defScope sSerR) (by decide +kernel)) (fun _ _ _ _ _ => pg_name (i := 5) scSerR.nd rfl (Or.inl rfl)) (fun _ _ _ _ _ => pts_nil)
        (fun _ _ _ _ _ => pe_callB call_abs (by rfl) T.abs bootAbs (by exact (pa_cons (pv 5) pa_nil))))) pa_nil)) pe_int (nomark _)) (pss_one (ps_ret pe_bl)) pss_nil)
    (pss_one (ps_ret (pe_cmpR (op_eqD hr.units) (pe_call FS hr (by rfl) gS kS bS .nil passL (pa_cons (pv 4) pa_nil)) (pe_callTy call_tuple_of (by rfl) T.tuple bootTuple (pa_cons (pv 2) pa_nil)) (nomark _)))))))), ?_⟩
  have pw : ∀ k : Int, 0 ≤ k → k ≤ 1000000 → CPow 10 k := fun k h1 h2 => ⟨h1, h2, by decide⟩
  refine ⟨_, rfl, _, _, rfl, rfl, pw _ (by decide) (by decide), _, _, rfl, rfl, pw _ (by decide) (by decide), by show 5 ≤ sizeLine; decide, fun l hl => ?_⟩
  refine ⟨d, l, iV [2, 9, 9, 10 ^ (6 : Int).toNat, 10 ^ (40 : Int).toNat], L, rfl, by rw [upd_ne (ne_of_none hd hl)]; exact hd, hL, upd_same, (ne_of_none hd hl).symm, (fun z => nomatch z), (by show 5 < 1000; decide), fun x L1 hx hL1 => ?_⟩
  obtain ⟨m, rfl, hm⟩ := mem_iV hx
  have hm : 0 ≤ m ∧ m ≤ 10 ^ 40 := by
    have z : ∀ m ∈ ([2, 9, 9, 10 ^ (6 : Int).toNat, 10 ^ (40 : Int).toNat] : List Int), 0 ≤ m ∧ m ≤ 10 ^ 40 := by decide
    exact z m hm
  have B1 : But d H (upd (upd H l (.lst [.int 2, .int 9, .int 9, .int (10 ^ (6 : Int).toNat), .int (10 ^ (40 : Int).toNat)])) d (.lst L1)) := (But.of (Same.new hl)).trans But.dice
  have hd1 : upd (upd H l (.lst [.int 2, .int 9, .int 9, .int (10 ^ (6 : Int).toNat), .int (10 ^ (40 : Int).toNat)])) d (.lst L1) d = some (.lst L1) := upd_same
  generalize upd (upd H l (.lst [.int 2, .int 9, .int 9, .int (10 ^ (6 : Int).toNat), .int (10 ^ (40 : Int).toNat)])) d (.lst L1) = H1 at *
  -- the series
  refine ⟨by show 1 ≤ sizeLine; decide, fun p hp => ?_⟩
  have gp : upd H1 p (.lst [.int 1]) p = some (.lst [.int 1]) := upd_same
  have np : p ≠ d := fun z => by rw [z, hd1] at hp; cases hp
  have B2 : But d H (upd H1 p (.lst [.int 1])) := B1.trans (But.of (Same.new hp))
  have hd2 : upd H1 p (.lst [.int 1]) d = some (.lst L1) := (Same.new hp) _ _ hd1
  generalize upd H1 p (.lst [.int 1]) = H2 at *
  refine ⟨_, rfl, d, 8, L1, rfl, by decide, by decide, hd2, hL1, fun r L3 r0 r1 hL3 => ⟨r, rfl, by omega, by omega, fun D hD => ?_⟩⟩
  have gp3 : upd H2 d (.lst L3) p = some (.lst [.int 1]) := by rw [upd_ne np]; exact gp
  have B3 : But d H (upd H2 d (.lst L3)) := B2.trans But.dice
  have hd3 : upd H2 d (.lst L3) d = some (.lst L3) := upd_same
  generalize upd H2 d (.lst L3) = H3 at *
  refine lc_dice (fun j => -m ≤ j ∧ j ≤ m) hD hd3 hL3 (by omega) (fun _ => rfl) (fun n H4 L4 Q4 hn B4 hd4 hL4 q4 => ?_) fun H4 L4 S B4 hd4 hL4 hS lS pS => ?_
  · exact ⟨_, rfl, _, rfl, d, m, L4, rfl, hm.1, Nat.lt_of_le_of_lt (by have := hm.2; omega : m.natAbs ≤ 10 ^ 40) (by decide), hd4, hL4, fun j L5 j0 j1 hL5 => q4 _ L5 j But.dice upd_same hL5 ⟨j0, j1⟩⟩
  have C4 := B3.trans B4
  have gp4 := B4 _ _ np gp3
  refine ⟨p, D, _, _, rfl, rfl, gp4, hS, ?_, fun t ht => ?_⟩
  · exact Nat.le_of_lt (small1000 (by rw [iV_len]; show 1 + S.length ≤ 1000; omega))
  have gt : upd H4 t (.lst ([V.int 1] ++ iV S)) t = some (.lst (iV (1 :: S))) := upd_same
  have C5 := C4.trans (But.of (Same.new (o := .lst ([V.int 1] ++ iV S)) ht))
  have hd5 : upd H4 t (.lst ([V.int 1] ++ iV S)) d = some (.lst L4) := (Same.new ht) _ _ hd4
  generalize upd H4 t (.lst ([V.int 1] ++ iV S)) = H5 at *
  have fin : ∀ H', Same H5 H' → Q (.bl true) H' := fun H' s' => k H' L4 (C5.trans (But.of s')) (s' _ _ hd5) hL4
  -- the mathematics
  have pe : ∀ x ∈ 1 :: S, -(10 ^ 40) ≤ x ∧ x ≤ 10 ^ 40 := fun x hx => by
    rcases List.mem_cons.mp hx with z | z
    · omega
    · have := pS x z
      omega
  have lL : (1 :: S).length = S.length + 1 := rfl
  have l8 : (1 :: S).length ≤ 8 := by omega
  have h0 : cf (1 :: S) 0 = 1 := rfl
  generalize 1 :: S = W at *
  have l1 : 1 ≤ W.length := by omega
  have bd : Bd 135 W := fun x hx => by
    have := pe x hx
    have z : (10 : Nat) ^ 40 < 2 ^ 135 := by decide
    omega
  have okC := (short_co l8 l1 bd).1
  have ctl := ct_lsc h0 l8 bd
  have ctb := ct_back l1 l8 bd
  have cl := countsOf_len W
  have lc := lsc_counts h0 l1
  have sc : seriesOf (countsOf W) (W.length - 1) = W := ser_counts (by omega) h0
  have cd : ctd (countsOf W) W.length = W := by rw [ctd_ser _ (by omega), sc]
  obtain ⟨Cs, hCs⟩ : ∃ Cs, countsOf W = Cs := ⟨_, rfl⟩
  rw [hCs] at ctb cl lc sc cd
  -- told
  refine ⟨_, rfl, t, _, rfl, .inl ⟨SqL.of gt, fun t2 ht2 => ?_⟩⟩
  have s6 := Same.new (o := .tup (iV W)) ht2
  have g2 : upd H5 t2 (.tup (iV W)) t2 = some (.tup (iV W)) := upd_same
  generalize upd H5 t2 (.tup (iV W)) = H6 at *
  refine ⟨_, true, rfl, SerIs.right (SqT.of g2) l1 (by omega) h0 (fun x hx => by have := pe x hx; omega), (fun e => nomatch e), fun _ => ⟨t2, W, rfl, SqT.of g2, l1, by omega, okC, fun H7 y s7 hy hy7 => ?_⟩⟩
  rw [hCs] at hy7
  have s57 := s6.trans s7
  refine ⟨_, rfl, _, rfl, t, W, rfl, s57 _ _ gt, l1, by omega, ctl, fun H8 z s8 hz hz8 => ?_⟩
  rw [lc] at hz8
  refine ⟨z, _, rfl, .inl ⟨SqL.of hz8, fun t3 ht3 => ?_⟩⟩
  have s9 := Same.new (o := .tup (iV Cs)) ht3
  have hy9 := (s8.trans s9) _ _ hy7
  refine ⟨dI Cs, dI Cs, .tup (SqT.of hy9) (dp_ints _), .tup (SqT.of upd_same) (dp_ints _), (shp_dI _).shaped (by decide), (shp_dI _).shaped (by decide), _, rfl, ?_⟩
  rw [eqv_self (shp_dI _) (by decide)]
  refine iteF ?_
  have s59 := s57.trans (s8.trans s9)
  generalize upd H8 t3 (.tup (iV Cs)) = H9 at *
  refine ⟨_, rfl, y, _, rfl, .inr (SqT.of hy9), fun r2 hr2 => ?_⟩
  have s10 := Same.new (o := .lst (iV Cs)) hr2
  have g10 : upd H9 r2 (.lst (iV Cs)) r2 = some (.lst (iV Cs)) := upd_same
  have s5a := s59.trans s10
  generalize upd H9 r2 (.lst (iV Cs)) = H10 at *
  refine ⟨_, rfl, t, _, rfl, .inl (SqL.of (s5a _ _ gt)), r2, Cs, W.length, ?_, g10, by omega, l1, by omega, ctb, fun H11 v s11 hv hv11 => ?_⟩
  · show [V.ref r2, V.int ((iV W).length : Int)] = _
    rw [iV_len]
  rw [cd] at hv11
  have s5b := s5a.trans s11
  refine ⟨_, rfl, dL W, dL W, .lst (SqL.of hv11) (dp_ints _), .lst (SqL.of (s5b _ _ gt)) (dp_ints _), (shp_dL _).shaped (by decide), (shp_dL _).shaped (by decide), _, rfl, ?_⟩
  rw [eqv_self (shp_dL _) (by decide)]
  refine iteF ?_
  have hy11 := (s10.trans s11) _ _ hy9
  -- max
  refine ⟨by show 1 ≤ sizeLine; decide, fun q hq => ⟨_, rfl, y, rfl, ⟨_, SqT.of ((Same.new hq) _ _ hy11)⟩, fun D2 hD2 => ?_⟩⟩
  have s12 := Same.new (o := .lst [.int 0]) hq
  have gq : upd H11 q (.lst [.int 0]) q = some (.lst [.int 0]) := upd_same
  generalize upd H11 q (.lst [.int 0]) = H12 at *
  refine lc_tup1 (xs := iV Cs) (fun x => .int (absV x)) hD2 (SqT.of (s12 _ _ hy11)) (by rw [iV_len]; omega) (fun _ => rfl) (fun n x H13 Q13 hx s13 q13 => ?_) fun H13 s13 hD13 => ?_
  · obtain ⟨j, rfl, hj⟩ := mem_iV (List.mem_of_getElem? hx)
    exact ⟨_, rfl, j, rfl, q13 H13 (Same.refl _)⟩
  rw [absV_map] at hD13
  refine ⟨q, D2, _, _, rfl, rfl, s13 _ _ gq, hD13, ?_, fun u hu => ?_⟩
  · exact Nat.le_of_lt (small1000 (by rw [iV_len, List.length_map]; show 1 + Cs.length ≤ 1000; omega))
  have s14 := s12.trans (s13.trans (Same.new (o := .lst ([V.int 0] ++ iV (Cs.map fun i => (i.natAbs : Int)))) hu))
  have gu : upd H13 u (.lst ([V.int 0] ++ iV (Cs.map fun i => (i.natAbs : Int)))) u = some (.lst (iV (0 :: Cs.map fun i => (i.natAbs : Int)))) := upd_same
  generalize upd H13 u (.lst ([V.int 0] ++ iV (Cs.map fun i => (i.natAbs : Int)))) = H14 at *
  refine ⟨u, 0 :: Cs.map (fun i => (i.natAbs : Int)), rfl, SqL.of gu, Nat.succ_pos _, fun mm hm1 hm2 => ⟨_, _, rfl, rfl, _, rfl, ite2 (fun b => ?_) (fun b => ?_)⟩⟩
  · exact fin _ (s5b.trans s14)
  have b : ¬ 1000 < mm := fun z => b (decide_eq_true z)
  have small : ∀ x ∈ Cs, -1000 ≤ x ∧ x ≤ 1000 := fun x hx => by
    have := hm2 (x.natAbs : Int) (List.mem_cons_of_mem _ (List.mem_map.mpr ⟨x, hx, rfl⟩))
    omega
  have okS := (small_ser (C := Cs) (N := Cs.length) (by omega) (by omega) fun k => cf_all (p := fun x => x.natAbs < 2 ^ 11) (by decide) (fun x hx => nat11 (small x hx).1 (small x hx).2) k).1
  have hy14 := s14 _ _ hy11
  refine ⟨_, rfl, _, true, rfl, TupIs.right (SqT.of hy14) (by omega) (fun x hx => (small x hx).1) (fun x hx => (small x hx).2) (by decide) (by decide), (fun e => nomatch e), fun _ => ⟨y, Cs, rfl, SqT.of hy14, by omega, okS, fun H15 v2 s15 hv2 hv15 => ?_⟩⟩
  rw [cl, sc] at hv15
  refine ⟨_, rfl, t, _, rfl, .inl ⟨SqL.of ((s5b.trans (s14.trans s15)) _ _ gt), fun t4 ht4 => ?_⟩⟩
  refine ⟨dI W, dI W, .tup (SqT.of ((Same.new ht4) _ _ hv15)) (dp_ints _), .tup (SqT.of upd_same) (dp_ints _), (shp_dI _).shaped (by decide), (shp_dI _).shaped (by decide), ?_⟩
  rw [eqv_self (shp_dI _) (by decide)]
  exact fin _ (s5b.trans (s14.trans (s15.trans (Same.new ht4))))
end
end K8
namespace K8
open PySem PySem.Spec PyProof.Rows L2 RZ
section
variable {P : Program} {w : World} {K : PySem.W.Frag} {mg : Str → Option Value} {base : Heap} {C N E0' fP fR fN fC fS fD : Addr} {dP dR dN dC dS dD : FuncData}
theorem ok_cntR {f : Addr} {fd : FuncData} (F : Fun K "_law_counts_right" "_law_counts_right" sCntR f fd) (T : Txt K mg) (gP : mg "_law_pick" = some (.ref fP)) (kP : PySem.W.keepIn K (.ref fP) = true) (bP : Binds K dP ["dice", "items"] []) (FP : FnOk P w K mg base CX0 2 fP dP ["dice", "items"] spPick)
    (gR : mg "_law_roll" = some (.ref fR)) (kR : PySem.W.keepIn K (.ref fR) = true) (bR : Binds K dR ["dice", "total"] []) (FR : FnOk P w K mg base CX0 1 fR dR ["dice", "total"] spRoll)
    (gN : mg "_law_near" = some (.ref fN)) (kN : PySem.W.keepIn K (.ref fN) = true) (bN : Binds K dN ["dice", "most"] []) (FN : FnOk P w K mg base CX0 2 fN dN ["dice", "most"] spNear)
    (gC : mg "counts_of_series" = some (.ref fC)) (kC : PySem.W.keepIn K (.ref fC) = true) (bC : Binds K dC ["series"] []) (FC : FnOk P w K mg base (L2.CX P w) 3 fC dC ["series"] (spCoS K E0'))
    (gS : mg "series_of_counts" = some (.ref fS)) (kS : PySem.W.keepIn K (.ref fS) = true) (bS : Binds K dS ["counts"] []) (FS : FnOk P w K mg base (L2.CX P w) 4 fS dS ["counts"] (spSoC K E0'))
    (gD : mg "_law_counted_series" = some (.ref fD)) (kD : PySem.W.keepIn K (.ref fD) = true) (bD : Binds K dD ["counts", "size"] []) (FD : FnOk P w K mg base CX0 3 fD dD ["counts", "size"] (spCtd K)) : FnOk P w K mg base CX0 5 f fd ["dice"] spGood := by
  refine F.ok scCntR (fun vs H Q E h => ?_) (fun cdv A outer s H vs Q E hr h => ?_)
  · obtain ⟨d, L, rfl, _⟩ := h; rfl
  obtain ⟨d, L, rfl, hd, hL, k⟩ := h
  have hr1 : Room 1 _ := hr.mono (by decide)
  have hr2 : Room 2 _ := hr.mono (by decide)
  have hr3 : Room 3 _ := hr.mono (by decide)
  refine ⟨_, pss_cons (ps_set (i := 1) scCntR.nd rfl (.inr rfl) (pe_call FP hr2 (by rfl) gP kP bP .nil pass0 (pa_cons (pv 0) (pa_cons (pe_lst (pa_cons pe_int (pa_cons pe_int (pa_cons pe_int (pa_cons pe_int pa_nil))))) pa_nil))))
    (pss_cons (ps_set (i := 2) scCntR.nd rfl (.inl rfl) (pe_callTy call_tuple_of (by rfl) T.tuple bootTuple (pa_cons (pe_lc (own := [("turn", 3)]) (g := gName 3) rfl scCntR.nd (pi_range1 rfl T.range (pa_cons (pe_call FR hr1 (by rfl) gR kR bR .nil pass0 (pa_cons (pv 0) (pa_cons pe_int pa_nil))) pa_nil))
      (blkOk_by (N := nCntR) (sc := defScope sCntR) (by decide +kernel)) (fun _ _ _ _ _ => pg_name (i := 3) scCntR.nd rfl (.inl rfl)) (fun _ _ _ _ _ => pts_nil)
      (fun _ _ _ _ _ => pe_call FN hr2 (by rfl) gN kN bN .nil pass0 (by exact (pa_cons (pv 0) (pa_cons (pv 1) pa_nil))))) pa_nil)))
    (pss_cons (ps_set (i := 4) scCntR.nd rfl (.inl rfl) (pe_call FS hr (by rfl) gS kS bS .nil passL (pa_cons (pv 2) pa_nil)))
    (pss_one (ps_ret (pe_and (pe_cmpR (op_eqD hr.units) (pv 4) (pe_callTy call_tuple_of (by rfl) T.tuple bootTuple (pa_cons (pe_call FD hr3 (by rfl) gD kD bD .nil pass0 (pa_cons (pe_callTy call_list_of (by rfl) T.list bootList (pa_cons (pv 2) pa_nil)) (pa_cons (pe_op op_add (pe_callB call_len_seq (by rfl) T.len PySem.boot_len (pa_cons (pv 2) pa_nil)) pe_int) pa_nil))) pa_nil)) (nomark _))
      (pe_one (pe_cmpR (op_eqD hr.units) (pe_call FC hr3 (by rfl) gC kC bC .nil passL (pa_cons (pv 4) pa_nil)) (pv 2) (nomark _)))))))), ?_⟩
  refine ⟨_, rfl, by show 4 ≤ sizeLine; decide, fun l hl => ?_⟩
  refine ⟨d, l, iV [1, 3, 20, 1000], L, rfl, by rw [upd_ne (ne_of_none hd hl)]; exact hd, hL, upd_same, (ne_of_none hd hl).symm, (fun z => nomatch z), (by show 4 < 1000; decide), fun x L1 hx hL1 => ?_⟩
  obtain ⟨m, rfl, hm⟩ := mem_iV hx
  have hm : 0 ≤ m ∧ m ≤ 1000 := by
    have z : ∀ m ∈ ([1, 3, 20, 1000] : List Int), 0 ≤ m ∧ m ≤ 1000 := by decide
    exact z m hm
  have B1 : But d H (upd (upd H l (.lst [.int 1, .int 3, .int 20, .int 1000])) d (.lst L1)) := (But.of (Same.new hl)).trans But.dice
  have hd1 : upd (upd H l (.lst [.int 1, .int 3, .int 20, .int 1000])) d (.lst L1) d = some (.lst L1) := upd_same
  generalize upd (upd H l (.lst [.int 1, .int 3, .int 20, .int 1000])) d (.lst L1) = H1 at *
  refine ⟨_, rfl, d, 12, L1, rfl, by decide, by decide, hd1, hL1, fun r L3 r0 r1 hL3 => ⟨r, rfl, by omega, by omega, fun D hD => ?_⟩⟩
  have B3 : But d H (upd H1 d (.lst L3)) := B1.trans But.dice
  have hd3 : upd H1 d (.lst L3) d = some (.lst L3) := upd_same
  generalize upd H1 d (.lst L3) = H3 at *
  refine lc_dice (fun j => -m ≤ j ∧ j ≤ m) hD hd3 hL3 (by omega) (fun _ => rfl) (fun n H4 L4 Q4 hn B4 hd4 hL4 q4 => ?_) fun H4 L4 S B4 hd4 hL4 hS lS pS => ?_
  · exact ⟨_, rfl, _, rfl, d, m, L4, rfl, hm.1, Nat.lt_of_le_of_lt (by omega : m.natAbs ≤ 1000) (by decide), hd4, hL4, fun j L5 j0 j1 hL5 => q4 _ L5 j But.dice upd_same hL5 ⟨j0, j1⟩⟩
  refine ⟨D, _, rfl, .inl ⟨SqL.of hS, fun t ht => ?_⟩⟩
  have gt : upd H4 t (.tup (iV S)) t = some (.tup (iV S)) := upd_same
  have C5 := (B3.trans B4).trans (But.of (Same.new (o := .tup (iV S)) ht))
  have hd5 : upd H4 t (.tup (iV S)) d = some (.lst L4) := (Same.new ht) _ _ hd4
  generalize upd H4 t (.tup (iV S)) = H5 at *
  have fin : ∀ H', Same H5 H' → Q (.bl true) H' := fun H' s' => k H' L4 (C5.trans (But.of s')) (s' _ _ hd5) hL4
  -- the mathematics
  have small : ∀ x ∈ S, -1000 ≤ x ∧ x ≤ 1000 := fun x hx => by have := pS x hx; omega
  have l11 : S.length ≤ 11 := by omega
  have c11 : ∀ k, (cf S k).natAbs < 2 ^ 11 := fun k => cf_all (p := fun x => x.natAbs < 2 ^ 11) (by decide) (fun x hx => nat11 (small x hx).1 (small x hx).2) k
  have c1000 : ∀ k, (cf S k).natAbs ≤ 1000 := fun k => cf_all (p := fun x => x.natAbs ≤ 1000) (by decide) (fun x hx => by have := small x hx; omega) k
  have okS := (small_ser (C := S) (N := S.length) (by omega) (by omega) c11).1
  have okB := small_back (C := S) (N := S.length) rfl (by omega) c11
  have ctS := ct_small (C := S) (N := S.length) (by omega) (by omega) c11
  have W60 := counts_i60 l11 c1000
  have cd : ctd S (S.length + 1) = seriesOf S S.length := ctd_ser _ (by omega)
  have cback : countsOf (seriesOf S S.length) = S := counts_ser rfl
  have wl : (seriesOf S S.length).length = S.length + 1 := serAt_len _ _ _
  have wh : cf (seriesOf S S.length) 0 = 1 := ser_head
  obtain ⟨W, hW⟩ : ∃ W, seriesOf S S.length = W := ⟨_, rfl⟩
  rw [hW] at okB W60 cd cback wl wh
  refine ⟨_, rfl, _, true, rfl, TupIs.right (SqT.of gt) (by omega) (fun x hx => (small x hx).1) (fun x hx => (small x hx).2) (by decide) (by decide), (fun e => nomatch e), fun _ => ⟨t, S, rfl, SqT.of gt, by omega, okS, fun H6 y s6 hy hy6 => ?_⟩⟩
  rw [hW] at hy6
  refine ⟨_, rfl, _, rfl, t, _, rfl, .inr (SqT.of (s6 _ _ gt)), fun r2 hr2 => ?_⟩
  have s7 := s6.trans (Same.new (o := .lst (iV S)) hr2)
  have g7 : upd H6 r2 (.lst (iV S)) r2 = some (.lst (iV S)) := upd_same
  have hy7 := (Same.new (o := .lst (iV S)) hr2) _ _ hy6
  generalize upd H6 r2 (.lst (iV S)) = H7 at *
  refine ⟨_, rfl, t, _, rfl, .inr (SqT.of (s7 _ _ gt)), _, _, rfl, rfl, r2, S, S.length + 1, ?_, g7, by omega, by omega, by omega, ctS, fun H8 v s8 hv hv8 => ?_⟩
  · show [V.ref r2, V.int (((iV S).length : Int) + 1)] = _
    rw [iV_len]
    rfl
  rw [cd] at hv8
  refine ⟨v, _, rfl, .inl ⟨SqL.of hv8, fun t2 ht2 => ?_⟩⟩
  have s9 := s8.trans (Same.new (o := .tup (iV W)) ht2)
  refine ⟨dI W, dI W, .tup (SqT.of (s9 _ _ hy7)) (dp_ints _), .tup (SqT.of upd_same) (dp_ints _), (shp_dI _).shaped (by decide), (shp_dI _).shaped (by decide), ?_⟩
  rw [eqv_self (shp_dI _) (by decide)]
  have hy9 := s9 _ _ hy7
  generalize upd H8 t2 (.tup (iV W)) = H9 at *
  refine ⟨_, rfl, iteT ⟨_, rfl, _, true, rfl, SerIs.right (SqT.of hy9) (by omega) (by omega) wh W60, (fun e => nomatch e), fun _ => ⟨y, W, rfl, SqT.of hy9, by omega, by omega, okB, fun H10 z s10 hz hz10 => ?_⟩⟩⟩
  rw [cback] at hz10
  have s5a := s7.trans (s9.trans s10)
  refine ⟨_, rfl, dI S, dI S, .tup (SqT.of hz10) (dp_ints _), .tup (SqT.of (s5a _ _ gt)) (dp_ints _), (shp_dI _).shaped (by decide), (shp_dI _).shaped (by decide), ?_⟩
  rw [eqv_self (shp_dI _) (by decide)]
  exact fin _ s5a
end
end K8
namespace K8
open PySem PySem.Spec PyProof.Rows L2 RZ
theorem ok_lit {S : List Int} (hS : S.length ≤ 6) {N : Nat} (hN : N ≤ 42) : seriesOk (cnts S) N = true :=
  (small_ser (C := cM S 39) (N := N) (by rw [cM_len]; decide) hN fun k => cf_all (p := fun x => x.natAbs < 2 ^ 11) (by decide) (fun x hx => nat11 (by have := cM_small hS 39 x hx; omega) (by have := cM_small hS 39 x hx; omega)) k).1
def spLaw (K : PySem.W.Frag) : Sp := fun vs H Q _ => ∃ (a : Addr) (ns : List Int), vs = [.ref a] ∧ SqL K H a (ns.map V.int) ∧ ns.length ≤ 1000 ∧ ∀ H', Q (.bl true) H'
theorem scLaw : FnScope ["script", "spot", "dice", "told"] ["script"] (defScope sLaw) := ⟨rfl, rfl, rfl, by decide +kernel, rfl, by decide +kernel, by decide +kernel⟩
section
variable {P : Program} {w : World} {K : PySem.W.Frag} {mg : Str → Option Value} {base : Heap} {C N E0' fD fA fB fE fL fC fS : Addr} {dD dA dB dE dL dC dS : FuncData}
theorem ok_law {f : Addr} {fd : FuncData} (F : Fun K "law" "law" sLaw f fd) (T : Txt K mg)
    (gD : mg "_law_dice" = some (.ref fD)) (kD : PySem.W.keepIn K (.ref fD) = true) (bD : Binds K dD ["script", "spot"] []) (FD : FnOk P w K mg base CX0 1 fD dD ["script", "spot"] (spDice K))
    (gA : mg "_law_letters_right" = some (.ref fA)) (kA : PySem.W.keepIn K (.ref fA) = true) (bA : Binds K dA ["dice"] []) (FA : FnOk P w K mg base CX0 6 fA dA ["dice"] spGood)
    (gB : mg "_law_series_right" = some (.ref fB)) (kB : PySem.W.keepIn K (.ref fB) = true) (bB : Binds K dB ["dice"] []) (FB : FnOk P w K mg base CX0 5 fB dB ["dice"] spGood)
    (gE : mg "_law_counts_right" = some (.ref fE)) (kE : PySem.W.keepIn K (.ref fE) = true) (bE : Binds K dE ["dice"] []) (FE : FnOk P w K mg base CX0 5 fE dE ["dice"] spGood)
    (gL : mg "loop_series" = some (.ref fL)) (kL : PySem.W.keepIn K (.ref fL) = true) (bL : Binds K dL ["letters", "most"] []) (FL : FnOk P w K mg base (L2.CX P w) 5 fL dL ["letters", "most"] (spLoop K C N))
    (gC : mg "counts_of_series" = some (.ref fC)) (kC : PySem.W.keepIn K (.ref fC) = true) (bC : Binds K dC ["series"] []) (FC : FnOk P w K mg base (L2.CX P w) 3 fC dC ["series"] (spCoS K E0'))
    (gS : mg "series_of_counts" = some (.ref fS)) (kS : PySem.W.keepIn K (.ref fS) = true) (bS : Binds K dS ["counts"] []) (FS : FnOk P w K mg base (L2.CX P w) 4 fS dS ["counts"] (spSoC K E0')) : FnOk P w K mg base CX0 7 f fd ["script"] (spLaw K) := by
  refine F.ok scLaw (fun vs H Q E h => ?_) (fun cdv A outer s H vs Q E hr h => ?_)
  · obtain ⟨a, ns, rfl, _⟩ := h; rfl
  obtain ⟨a, ns, rfl, hS, ln, k⟩ := h
  have hr1 : Room 1 _ := hr.mono (by decide)
  have hr3 : Room 3 _ := hr.mono (by decide)
  have hr4 : Room 4 _ := hr.mono (by decide)
  have hr5 : Room 5 _ := hr.mono (by decide)
  refine ⟨_, pss_cons (ps_for PassesOwn.never rfl (pi_range1 rfl T.range (pa_cons (pe_callB (call_max2 rfl) (by rfl) T.max bootMax (pa_cons pe_int (pa_cons (pe_callB (call_min2 rfl) (by rfl) T.min bootMin (pa_cons pe_int (pa_cons (pe_callB call_len_seq (by rfl) T.len PySem.boot_len (pa_cons (pv 0) pa_nil)) pa_nil))) pa_nil))) pa_nil))
      (pg_name (i := 1) scLaw.nd rfl (.inl rfl))
      (pss_cons (ps_set (i := 2) scLaw.nd rfl (.inl rfl) (pe_call FD hr1 (by rfl) gD kD bD .nil pass0 (pa_cons (pv 0) (pa_cons (pv 1) pa_nil))))
      (pss_one (ps_if (PW.pt (pw_or (pt_not (pt_val (pe_call FA hr (by rfl) gA kA bA .nil pass0 (pa_cons (pv 2) pa_nil)))) (pw_or (pt_not (pt_val (pe_call FB hr5 (by rfl) gB kB bB .nil pass0 (pa_cons (pv 2) pa_nil)))) (pw_or1 (pt_not (pt_val (pe_call FE hr5 (by rfl) gE kE bE .nil pass0 (pa_cons (pv 2) pa_nil)))))))) (pss_one (ps_ret pe_bl)) pss_nil))))
    (pss_cons (ps_set (i := 3) scLaw.nd rfl (.inl rfl) (pe_lst (pa_cons (pe_call FL hr5 (by rfl) gL kL bL .nil passL (pa_cons (pe_tupF (pa_cons pe_int (pa_cons pe_int pa_nil))) (pa_cons pe_int pa_nil))) (pa_cons (pe_call FL hr5 (by rfl) gL kL bL .nil passL (pa_cons (pe_tupF (pa_cons pe_int pa_nil)) (pa_cons pe_int pa_nil))) (pa_cons (pe_call FL hr5 (by rfl) gL kL bL .nil passL (pa_cons (pe_tupF (pa_cons pe_int (pa_cons pe_int pa_nil))) (pa_cons pe_int pa_nil))) (pa_cons (pe_call FL hr5 (by rfl) gL kL bL .nil passL (pa_cons (pe_tupF pa_nil) (pa_cons pe_int pa_nil))) pa_nil))))))
    (pss_cons (ps_if (pt_cmpR (op_neD hr.units) (pv 3) (pe_lst (pa_cons (pe_op op_mulT (pe_tup (pa_cons pe_int pa_nil)) pe_int) (pa_cons (pe_tup (pa_cons pe_int (pa_cons pe_int (pa_cons pe_int (pa_cons pe_int (pa_cons pe_int (pa_cons pe_int (pa_cons pe_int pa_nil)))))))) (pa_cons (pe_tup (pa_cons pe_int (pa_cons pe_int (pa_cons pe_int (pa_cons pe_int pa_nil))))) (pa_cons (pe_tup (pa_cons pe_int (pa_cons pe_int (pa_cons pe_int pa_nil)))) pa_nil))))) (nomark _)) (pss_one (ps_ret pe_bl)) pss_nil)
    (pss_cons (ps_set (i := 3) scLaw.nd rfl (.inl rfl) (pe_lst (pa_cons (pe_call FC hr3 (by rfl) gC kC bC .nil passL (pa_cons (pe_tup (pa_cons pe_int (pa_cons pe_int (pa_cons pe_int (pa_cons pe_int pa_nil))))) pa_nil)) (pa_cons (pe_call FC hr3 (by rfl) gC kC bC .nil passL (pa_cons (pe_tup (pa_cons pe_int (pa_cons pe_int (pa_cons pe_int (pa_cons pe_int pa_nil))))) pa_nil)) (pa_cons (pe_call FC hr3 (by rfl) gC kC bC .nil passL (pa_cons (pe_tup (pa_cons pe_int (pa_cons (pe_un un_neg pe_int) pa_nil))) pa_nil)) (pa_cons (pe_call FS hr4 (by rfl) gS kS bS .nil passL (pa_cons (pe_tup (pa_cons pe_int (pa_cons pe_int (pa_cons pe_int pa_nil)))) pa_nil)) pa_nil))))))
    (pss_one (ps_ret (pe_and (pe_cmpR (op_eqD hr.units) (pv 3) (pe_lst (pa_cons (pe_tup (pa_cons pe_int (pa_cons pe_int (pa_cons pe_int pa_nil)))) (pa_cons (pe_tup (pa_cons pe_int (pa_cons pe_int (pa_cons pe_int pa_nil)))) (pa_cons (pe_tup (pa_cons (pe_un un_neg pe_int) pa_nil)) (pa_cons (pe_tup (pa_cons pe_int (pa_cons pe_int (pa_cons pe_int (pa_cons pe_int pa_nil))))) pa_nil))))) (nomark _)) (pe_and (pe_cmpR (op_eqD hr.units) (pe_call FS hr4 (by rfl) gS kS bS .nil passL (pa_cons (pe_tup pa_nil) pa_nil)) (pe_tup (pa_cons pe_int pa_nil)) (nomark _)) (pe_one (pe_cmpR (op_eqD hr.units) (pe_call FC hr3 (by rfl) gC kC bC .nil passL (pa_cons (pe_tup (pa_cons pe_int pa_nil)) pa_nil)) (pe_tup pa_nil) (nomark _)))))))))), ?_⟩
  refine ⟨_, rfl, a, _, rfl, .inl hS, _, _, rfl, _, _, rfl, _, rfl, ?_, ?_, ?_⟩
  · split <;> split <;> omega
  · split <;> split <;> omega
  refine for_range (lo := 0) (fun _ σ' H' => ∃ o1 o2 : Option V, σ' = [some (.ref a), o1, o2, none] ∧ SqL K H' a (ns.map V.int)) ⟨none, none, rfl, hS⟩ ?_ ?_
  · rintro i σ' H' _ ⟨o1, o2, rfl, hs⟩
    refine ⟨_, rfl, _, rfl, a, _, ns, rfl, hs, by omega, fun L p hL hp => ?_⟩
    exact ⟨_, rfl, p, L, rfl, upd_same, hL, fun H3 L3 B3 h3 hL3 => ⟨_, rfl, iteF ⟨_, rfl, p, L3, rfl, h3, hL3, fun H4 L4 B4 h4 hL4 => ⟨_, rfl, iteF ⟨_, rfl, p, L4, rfl, h4, hL4, fun H5 L5 B5 h5 hL5 => ⟨_, rfl, iteF ⟨_, _, rfl, seqBut hs hp (B3.trans (B4.trans B5))⟩⟩⟩⟩⟩⟩⟩
  rintro σ' H0 ⟨o1, o2, rfl, hs⟩
  refine ⟨by show 2 ≤ sizeLine; decide, fun t1 od3 ht1 ct1 dt1 => ?_⟩
  have st1 := Same.new (o := (.frz od3 (.tup [.int 2, .int 3]))) ht1
  have Ft1 : TupF (upd H0 t1 (.frz od3 (.tup [.int 2, .int 3]))) t1 (iV [2, 3]) := ⟨od3, upd_same, ct1, dt1⟩
  generalize upd H0 t1 (.frz od3 (.tup [.int 2, .int 3])) = G2 at *
  refine ⟨_, _, rfl, .inr ⟨t1, [2, 3], rfl, Ft1.sq, ⟨by decide, by decide, by decide⟩, by decide, .inr ⟨6, rfl, by decide, Ft1, ok_lit (S := [2, 3]) (by decide) (by decide), fun G5 p4 sp4 hp4 gp4 => ?_⟩⟩⟩
  rw [show seriesOf (cnts [2, 3]) 6 = [1, 1, 1, 1, 1, 1, 1] from (same_ser (S := [2, 3]) (by decide) 6).trans (by decide +kernel)] at gp4
  refine ⟨by show 1 ≤ sizeLine; decide, fun t6 od8 ht6 ct6 dt6 => ?_⟩
  have st6 := Same.new (o := (.frz od8 (.tup [.int 3]))) ht6
  have Ft6 : TupF (upd G5 t6 (.frz od8 (.tup [.int 3]))) t6 (iV [3]) := ⟨od8, upd_same, ct6, dt6⟩
  generalize upd G5 t6 (.frz od8 (.tup [.int 3])) = G7 at *
  replace gp4 := st6 _ _ gp4
  refine ⟨_, _, rfl, .inr ⟨t6, [3], rfl, Ft6.sq, ⟨by decide, by decide, by decide⟩, by decide, .inr ⟨6, rfl, by decide, Ft6, ok_lit (S := [3]) (by decide) (by decide), fun G10 p9 sp9 hp9 gp9 => ?_⟩⟩⟩
  rw [show seriesOf (cnts [3]) 6 = [1, 0, 1, 0, 1, 0, 1] from (same_ser (S := [3]) (by decide) 6).trans (by decide +kernel)] at gp9
  replace gp4 := sp9 _ _ gp4
  refine ⟨by show 2 ≤ sizeLine; decide, fun t11 od13 ht11 ct11 dt11 => ?_⟩
  have st11 := Same.new (o := (.frz od13 (.tup [.int 2, .int 2]))) ht11
  have Ft11 : TupF (upd G10 t11 (.frz od13 (.tup [.int 2, .int 2]))) t11 (iV [2, 2]) := ⟨od13, upd_same, ct11, dt11⟩
  generalize upd G10 t11 (.frz od13 (.tup [.int 2, .int 2])) = G12 at *
  replace gp4 := st11 _ _ gp4
  replace gp9 := st11 _ _ gp9
  refine ⟨_, _, rfl, .inr ⟨t11, [2, 2], rfl, Ft11.sq, ⟨by decide, by decide, by decide⟩, by decide, .inr ⟨3, rfl, by decide, Ft11, ok_lit (S := [2, 2]) (by decide) (by decide), fun G15 p14 sp14 hp14 gp14 => ?_⟩⟩⟩
  rw [show seriesOf (cnts [2, 2]) 3 = [1, 2, 1, 0] from (same_ser (S := [2, 2]) (by decide) 3).trans (by decide +kernel)] at gp14
  replace gp4 := sp14 _ _ gp4
  replace gp9 := sp14 _ _ gp9
  refine ⟨by show 0 ≤ sizeLine; decide, fun t16 od18 ht16 ct16 dt16 => ?_⟩
  have st16 := Same.new (o := (.frz od18 (.tup []))) ht16
  have Ft16 : TupF (upd G15 t16 (.frz od18 (.tup []))) t16 (iV []) := ⟨od18, upd_same, ct16, dt16⟩
  generalize upd G15 t16 (.frz od18 (.tup [])) = G17 at *
  replace gp4 := st16 _ _ gp4
  replace gp9 := st16 _ _ gp9
  replace gp14 := st16 _ _ gp14
  refine ⟨_, _, rfl, .inr ⟨t16, [], rfl, Ft16.sq, ⟨by decide, by decide, by decide⟩, by decide, .inr ⟨2, rfl, by decide, Ft16, ok_lit (S := []) (by decide) (by decide), fun G20 p19 sp19 hp19 gp19 => ?_⟩⟩⟩
  rw [show seriesOf (cnts []) 2 = [1, 0, 0] from (same_ser (S := []) (by decide) 2).trans (by decide +kernel)] at gp19
  replace gp4 := sp19 _ _ gp4
  replace gp9 := sp19 _ _ gp9
  replace gp14 := sp19 _ _ gp14
  refine ⟨by show 4 ≤ sizeLine; decide, fun q21 hq21 => ?_⟩
  have sq21 := Same.new (o := (.lst [.ref p4, .ref p9, .ref p14, .ref p19])) hq21
  have gq21 : upd G20 q21 (.lst [.ref p4, .ref p9, .ref p14, .ref p19]) q21 = some (.lst [.ref p4, .ref p9, .ref p14, .ref p19]) := upd_same
  generalize upd G20 q21 (.lst [.ref p4, .ref p9, .ref p14, .ref p19]) = G22 at *
  replace gp4 := sq21 _ _ gp4
  replace gp9 := sq21 _ _ gp9
  replace gp14 := sq21 _ _ gp14
  replace gp19 := sq21 _ _ gp19
  refine ⟨_, rfl, ?_⟩
  refine ⟨by show 1 ≤ sizeLine; decide, fun t23 ht23 => ?_⟩
  have st23 := Same.new (o := .tup [.int 1]) ht23
  have gt23 : upd G22 t23 (.tup [.int 1]) t23 = some (.tup (iV [1])) := upd_same
  generalize upd G22 t23 (.tup [.int 1]) = G24 at *
  replace gp4 := st23 _ _ gp4
  replace gp9 := st23 _ _ gp9
  replace gp14 := st23 _ _ gp14
  replace gp19 := st23 _ _ gp19
  replace gq21 := st23 _ _ gq21
  refine ⟨t23, 7, [.int 1], rfl, rfl, SqT.of gt23, (fun z => nomatch z), by decide, by decide, by decide, fun e1 => absurd e1 (by decide), fun _ m25 hm25 => ?_⟩
  have sm25 := Same.new (o := (.tup (List.replicate (7 : Int).toNat [V.int 1]).flatten)) hm25
  have gm25 : upd G24 m25 (.tup (List.replicate (7 : Int).toNat [V.int 1]).flatten) m25 = some (.tup (iV [1, 1, 1, 1, 1, 1, 1])) := upd_same
  generalize upd G24 m25 (.tup (List.replicate (7 : Int).toNat [V.int 1]).flatten) = G26 at *
  replace gp4 := sm25 _ _ gp4
  replace gp9 := sm25 _ _ gp9
  replace gp14 := sm25 _ _ gp14
  replace gp19 := sm25 _ _ gp19
  replace gq21 := sm25 _ _ gq21
  replace gt23 := sm25 _ _ gt23
  refine ⟨by show 7 ≤ sizeLine; decide, fun t27 ht27 => ?_⟩
  have st27 := Same.new (o := .tup [.int 1, .int 0, .int 1, .int 0, .int 1, .int 0, .int 1]) ht27
  have gt27 : upd G26 t27 (.tup [.int 1, .int 0, .int 1, .int 0, .int 1, .int 0, .int 1]) t27 = some (.tup (iV [1, 0, 1, 0, 1, 0, 1])) := upd_same
  generalize upd G26 t27 (.tup [.int 1, .int 0, .int 1, .int 0, .int 1, .int 0, .int 1]) = G28 at *
  replace gp4 := st27 _ _ gp4
  replace gp9 := st27 _ _ gp9
  replace gp14 := st27 _ _ gp14
  replace gp19 := st27 _ _ gp19
  replace gq21 := st27 _ _ gq21
  replace gt23 := st27 _ _ gt23
  replace gm25 := st27 _ _ gm25
  refine ⟨by show 4 ≤ sizeLine; decide, fun t29 ht29 => ?_⟩
  have st29 := Same.new (o := .tup [.int 1, .int 2, .int 1, .int 0]) ht29
  have gt29 : upd G28 t29 (.tup [.int 1, .int 2, .int 1, .int 0]) t29 = some (.tup (iV [1, 2, 1, 0])) := upd_same
  generalize upd G28 t29 (.tup [.int 1, .int 2, .int 1, .int 0]) = G30 at *
  replace gp4 := st29 _ _ gp4
  replace gp9 := st29 _ _ gp9
  replace gp14 := st29 _ _ gp14
  replace gp19 := st29 _ _ gp19
  replace gq21 := st29 _ _ gq21
  replace gt23 := st29 _ _ gt23
  replace gm25 := st29 _ _ gm25
  replace gt27 := st29 _ _ gt27
  refine ⟨by show 3 ≤ sizeLine; decide, fun t31 ht31 => ?_⟩
  have st31 := Same.new (o := .tup [.int 1, .int 0, .int 0]) ht31
  have gt31 : upd G30 t31 (.tup [.int 1, .int 0, .int 0]) t31 = some (.tup (iV [1, 0, 0])) := upd_same
  generalize upd G30 t31 (.tup [.int 1, .int 0, .int 0]) = G32 at *
  replace gp4 := st31 _ _ gp4
  replace gp9 := st31 _ _ gp9
  replace gp14 := st31 _ _ gp14
  replace gp19 := st31 _ _ gp19
  replace gq21 := st31 _ _ gq21
  replace gt23 := st31 _ _ gt23
  replace gm25 := st31 _ _ gm25
  replace gt27 := st31 _ _ gt27
  replace gt29 := st31 _ _ gt29
  refine ⟨by show 4 ≤ sizeLine; decide, fun q33 hq33 => ?_⟩
  have sq33 := Same.new (o := (.lst [.ref m25, .ref t27, .ref t29, .ref t31])) hq33
  have gq33 : upd G32 q33 (.lst [.ref m25, .ref t27, .ref t29, .ref t31]) q33 = some (.lst [.ref m25, .ref t27, .ref t29, .ref t31]) := upd_same
  generalize upd G32 q33 (.lst [.ref m25, .ref t27, .ref t29, .ref t31]) = G34 at *
  replace gp4 := sq33 _ _ gp4
  replace gp9 := sq33 _ _ gp9
  replace gp14 := sq33 _ _ gp14
  replace gp19 := sq33 _ _ gp19
  replace gq21 := sq33 _ _ gq21
  replace gt23 := sq33 _ _ gt23
  replace gm25 := sq33 _ _ gm25
  replace gt27 := sq33 _ _ gt27
  replace gt29 := sq33 _ _ gt29
  replace gt31 := sq33 _ _ gt31
  refine ⟨.list ([[1, 1, 1, 1, 1, 1, 1], [1, 0, 1, 0, 1, 0, 1], [1, 2, 1, 0], [1, 0, 0]].map dI), .list ([[1, 1, 1, 1, 1, 1, 1], [1, 0, 1, 0, 1, 0, 1], [1, 2, 1, 0], [1, 0, 0]].map dI), .lst (SqL.of gq21) (.cons (.tup (SqT.of gp4) (dp_ints _)) (.cons (.tup (SqT.of gp9) (dp_ints _)) (.cons (.tup (SqT.of gp14) (dp_ints _)) (.cons (.tup (SqT.of gp19) (dp_ints _)) (.nil))))), .lst (SqL.of gq33) (.cons (.tup (SqT.of gm25) (dp_ints _)) (.cons (.tup (SqT.of gt27) (dp_ints _)) (.cons (.tup (SqT.of gt29) (dp_ints _)) (.cons (.tup (SqT.of gt31) (dp_ints _)) (.nil))))), (Shp.lst shp_dI _).shaped (by decide), (Shp.lst shp_dI _).shaped (by decide), _, rfl, ?_⟩
  rw [eqv_self (Shp.lst shp_dI _) (by decide)]
  refine iteF ?_
  refine ⟨by show 4 ≤ sizeLine; decide, fun t35 ht35 => ?_⟩
  have st35 := Same.new (o := .tup [.int 1, .int 1, .int 1, .int 1]) ht35
  have gt35 : upd G34 t35 (.tup [.int 1, .int 1, .int 1, .int 1]) t35 = some (.tup (iV [1, 1, 1, 1])) := upd_same
  generalize upd G34 t35 (.tup [.int 1, .int 1, .int 1, .int 1]) = G36 at *
  refine ⟨_, true, rfl, SerIs.right (SqT.of gt35) (by decide) (by decide) rfl (by decide), (fun e => nomatch e), fun _ => ⟨t35, [1, 1, 1, 1], rfl, SqT.of gt35, by decide, by decide, by decide +kernel, fun G38 p37 sp37 hp37 gp37 => ?_⟩⟩
  rw [show countsOf [1, 1, 1, 1] = [1, 1, 0] by decide +kernel] at gp37
  replace gt35 := sp37 _ _ gt35
  refine ⟨by show 4 ≤ sizeLine; decide, fun t39 ht39 => ?_⟩
  have st39 := Same.new (o := .tup [.int 1, .int 1, .int 0, .int 0]) ht39
  have gt39 : upd G38 t39 (.tup [.int 1, .int 1, .int 0, .int 0]) t39 = some (.tup (iV [1, 1, 0, 0])) := upd_same
  generalize upd G38 t39 (.tup [.int 1, .int 1, .int 0, .int 0]) = G40 at *
  replace gt35 := st39 _ _ gt35
  replace gp37 := st39 _ _ gp37
  refine ⟨_, true, rfl, SerIs.right (SqT.of gt39) (by decide) (by decide) rfl (by decide), (fun e => nomatch e), fun _ => ⟨t39, [1, 1, 0, 0], rfl, SqT.of gt39, by decide, by decide, by decide +kernel, fun G42 p41 sp41 hp41 gp41 => ?_⟩⟩
  rw [show countsOf [1, 1, 0, 0] = [1, 0, 0] by decide +kernel] at gp41
  replace gt35 := sp41 _ _ gt35
  replace gp37 := sp41 _ _ gp37
  replace gt39 := sp41 _ _ gt39
  refine ⟨_, rfl, by show 2 ≤ sizeLine; decide, fun t43 ht43 => ?_⟩
  have st43 := Same.new (o := .tup [.int 1, .int (-1)]) ht43
  have gt43 : upd G42 t43 (.tup [.int 1, .int (-1)]) t43 = some (.tup (iV [1, -1])) := upd_same
  generalize upd G42 t43 (.tup [.int 1, .int (-1)]) = G44 at *
  replace gt35 := st43 _ _ gt35
  replace gp37 := st43 _ _ gp37
  replace gt39 := st43 _ _ gt39
  replace gp41 := st43 _ _ gp41
  refine ⟨_, true, rfl, SerIs.right (SqT.of gt43) (by decide) (by decide) rfl (by decide), (fun e => nomatch e), fun _ => ⟨t43, [1, -1], rfl, SqT.of gt43, by decide, by decide, by decide +kernel, fun G46 p45 sp45 hp45 gp45 => ?_⟩⟩
  rw [show countsOf [1, -1] = [-1] by decide +kernel] at gp45
  replace gt35 := sp45 _ _ gt35
  replace gp37 := sp45 _ _ gp37
  replace gt39 := sp45 _ _ gt39
  replace gp41 := sp45 _ _ gp41
  replace gt43 := sp45 _ _ gt43
  refine ⟨by show 3 ≤ sizeLine; decide, fun t47 ht47 => ?_⟩
  have st47 := Same.new (o := .tup [.int 1, .int 1, .int 0]) ht47
  have gt47 : upd G46 t47 (.tup [.int 1, .int 1, .int 0]) t47 = some (.tup (iV [1, 1, 0])) := upd_same
  generalize upd G46 t47 (.tup [.int 1, .int 1, .int 0]) = G48 at *
  replace gt35 := st47 _ _ gt35
  replace gp37 := st47 _ _ gp37
  replace gt39 := st47 _ _ gt39
  replace gp41 := st47 _ _ gp41
  replace gt43 := st47 _ _ gt43
  replace gp45 := st47 _ _ gp45
  refine ⟨_, true, rfl, TupIs.right (SqT.of gt47) (by decide) (by decide) (by decide) (by decide) (by decide), (fun e => nomatch e), fun _ => ⟨t47, [1, 1, 0], rfl, SqT.of gt47, by decide, by decide +kernel, fun G50 p49 sp49 hp49 gp49 => ?_⟩⟩
  rw [show seriesOf [1, 1, 0] (List.length ([1, 1, 0] : List Int)) = [1, 1, 1, 1] by decide +kernel] at gp49
  replace gt35 := sp49 _ _ gt35
  replace gp37 := sp49 _ _ gp37
  replace gt39 := sp49 _ _ gt39
  replace gp41 := sp49 _ _ gp41
  replace gt43 := sp49 _ _ gt43
  replace gp45 := sp49 _ _ gp45
  replace gt47 := sp49 _ _ gt47
  refine ⟨by show 4 ≤ sizeLine; decide, fun q51 hq51 => ?_⟩
  have sq51 := Same.new (o := (.lst [.ref p37, .ref p41, .ref p45, .ref p49])) hq51
  have gq51 : upd G50 q51 (.lst [.ref p37, .ref p41, .ref p45, .ref p49]) q51 = some (.lst [.ref p37, .ref p41, .ref p45, .ref p49]) := upd_same
  generalize upd G50 q51 (.lst [.ref p37, .ref p41, .ref p45, .ref p49]) = G52 at *
  replace gt35 := sq51 _ _ gt35
  replace gp37 := sq51 _ _ gp37
  replace gt39 := sq51 _ _ gt39
  replace gp41 := sq51 _ _ gp41
  replace gt43 := sq51 _ _ gt43
  replace gp45 := sq51 _ _ gp45
  replace gt47 := sq51 _ _ gt47
  replace gp49 := sq51 _ _ gp49
  refine ⟨_, rfl, ?_⟩
  refine ⟨by show 3 ≤ sizeLine; decide, fun t53 ht53 => ?_⟩
  have st53 := Same.new (o := .tup [.int 1, .int 1, .int 0]) ht53
  have gt53 : upd G52 t53 (.tup [.int 1, .int 1, .int 0]) t53 = some (.tup (iV [1, 1, 0])) := upd_same
  generalize upd G52 t53 (.tup [.int 1, .int 1, .int 0]) = G54 at *
  replace gt35 := st53 _ _ gt35
  replace gp37 := st53 _ _ gp37
  replace gt39 := st53 _ _ gt39
  replace gp41 := st53 _ _ gp41
  replace gt43 := st53 _ _ gt43
  replace gp45 := st53 _ _ gp45
  replace gt47 := st53 _ _ gt47
  replace gp49 := st53 _ _ gp49
  replace gq51 := st53 _ _ gq51
  refine ⟨by show 3 ≤ sizeLine; decide, fun t55 ht55 => ?_⟩
  have st55 := Same.new (o := .tup [.int 1, .int 0, .int 0]) ht55
  have gt55 : upd G54 t55 (.tup [.int 1, .int 0, .int 0]) t55 = some (.tup (iV [1, 0, 0])) := upd_same
  generalize upd G54 t55 (.tup [.int 1, .int 0, .int 0]) = G56 at *
  replace gt35 := st55 _ _ gt35
  replace gp37 := st55 _ _ gp37
  replace gt39 := st55 _ _ gt39
  replace gp41 := st55 _ _ gp41
  replace gt43 := st55 _ _ gt43
  replace gp45 := st55 _ _ gp45
  replace gt47 := st55 _ _ gt47
  replace gp49 := st55 _ _ gp49
  replace gq51 := st55 _ _ gq51
  replace gt53 := st55 _ _ gt53
  refine ⟨_, rfl, by show 1 ≤ sizeLine; decide, fun t57 ht57 => ?_⟩
  have st57 := Same.new (o := .tup [.int (-1)]) ht57
  have gt57 : upd G56 t57 (.tup [.int (-1)]) t57 = some (.tup (iV [-1])) := upd_same
  generalize upd G56 t57 (.tup [.int (-1)]) = G58 at *
  replace gt35 := st57 _ _ gt35
  replace gp37 := st57 _ _ gp37
  replace gt39 := st57 _ _ gt39
  replace gp41 := st57 _ _ gp41
  replace gt43 := st57 _ _ gt43
  replace gp45 := st57 _ _ gp45
  replace gt47 := st57 _ _ gt47
  replace gp49 := st57 _ _ gp49
  replace gq51 := st57 _ _ gq51
  replace gt53 := st57 _ _ gt53
  replace gt55 := st57 _ _ gt55
  refine ⟨by show 4 ≤ sizeLine; decide, fun t59 ht59 => ?_⟩
  have st59 := Same.new (o := .tup [.int 1, .int 1, .int 1, .int 1]) ht59
  have gt59 : upd G58 t59 (.tup [.int 1, .int 1, .int 1, .int 1]) t59 = some (.tup (iV [1, 1, 1, 1])) := upd_same
  generalize upd G58 t59 (.tup [.int 1, .int 1, .int 1, .int 1]) = G60 at *
  replace gt35 := st59 _ _ gt35
  replace gp37 := st59 _ _ gp37
  replace gt39 := st59 _ _ gt39
  replace gp41 := st59 _ _ gp41
  replace gt43 := st59 _ _ gt43
  replace gp45 := st59 _ _ gp45
  replace gt47 := st59 _ _ gt47
  replace gp49 := st59 _ _ gp49
  replace gq51 := st59 _ _ gq51
  replace gt53 := st59 _ _ gt53
  replace gt55 := st59 _ _ gt55
  replace gt57 := st59 _ _ gt57
  refine ⟨by show 4 ≤ sizeLine; decide, fun q61 hq61 => ?_⟩
  have sq61 := Same.new (o := (.lst [.ref t53, .ref t55, .ref t57, .ref t59])) hq61
  have gq61 : upd G60 q61 (.lst [.ref t53, .ref t55, .ref t57, .ref t59]) q61 = some (.lst [.ref t53, .ref t55, .ref t57, .ref t59]) := upd_same
  generalize upd G60 q61 (.lst [.ref t53, .ref t55, .ref t57, .ref t59]) = G62 at *
  replace gt35 := sq61 _ _ gt35
  replace gp37 := sq61 _ _ gp37
  replace gt39 := sq61 _ _ gt39
  replace gp41 := sq61 _ _ gp41
  replace gt43 := sq61 _ _ gt43
  replace gp45 := sq61 _ _ gp45
  replace gt47 := sq61 _ _ gt47
  replace gp49 := sq61 _ _ gp49
  replace gq51 := sq61 _ _ gq51
  replace gt53 := sq61 _ _ gt53
  replace gt55 := sq61 _ _ gt55
  replace gt57 := sq61 _ _ gt57
  replace gt59 := sq61 _ _ gt59
  refine ⟨.list ([[1, 1, 0], [1, 0, 0], [-1], [1, 1, 1, 1]].map dI), .list ([[1, 1, 0], [1, 0, 0], [-1], [1, 1, 1, 1]].map dI), .lst (SqL.of gq51) (.cons (.tup (SqT.of gp37) (dp_ints _)) (.cons (.tup (SqT.of gp41) (dp_ints _)) (.cons (.tup (SqT.of gp45) (dp_ints _)) (.cons (.tup (SqT.of gp49) (dp_ints _)) (.nil))))), .lst (SqL.of gq61) (.cons (.tup (SqT.of gt53) (dp_ints _)) (.cons (.tup (SqT.of gt55) (dp_ints _)) (.cons (.tup (SqT.of gt57) (dp_ints _)) (.cons (.tup (SqT.of gt59) (dp_ints _)) (.nil))))), (Shp.lst shp_dI _).shaped (by decide), (Shp.lst shp_dI _).shaped (by decide), ?_⟩
  rw [eqv_self (Shp.lst shp_dI _) (by decide)]
  refine ⟨_, rfl, iteT ?_⟩
  refine ⟨by show 0 ≤ sizeLine; decide, fun t63 ht63 => ?_⟩
  have st63 := Same.new (o := .tup []) ht63
  have gt63 : upd G62 t63 (.tup []) t63 = some (.tup (iV [])) := upd_same
  generalize upd G62 t63 (.tup []) = G64 at *
  refine ⟨_, true, rfl, TupIs.right (SqT.of gt63) (by decide) (by decide) (by decide) (by decide) (by decide), (fun e => nomatch e), fun _ => ⟨t63, [], rfl, SqT.of gt63, by decide, by decide +kernel, fun G66 p65 sp65 hp65 gp65 => ?_⟩⟩
  rw [show seriesOf [] (List.length ([] : List Int)) = [1] by decide +kernel] at gp65
  replace gt63 := sp65 _ _ gt63
  refine ⟨by show 1 ≤ sizeLine; decide, fun t67 ht67 => ?_⟩
  have st67 := Same.new (o := .tup [.int 1]) ht67
  have gt67 : upd G66 t67 (.tup [.int 1]) t67 = some (.tup (iV [1])) := upd_same
  generalize upd G66 t67 (.tup [.int 1]) = G68 at *
  replace gt63 := st67 _ _ gt63
  replace gp65 := st67 _ _ gp65
  refine ⟨dI [1], dI [1], .tup (SqT.of gp65) (dp_ints _), .tup (SqT.of gt67) (dp_ints _), (shp_dI _).shaped (by decide), (shp_dI _).shaped (by decide), ?_⟩
  rw [eqv_self (shp_dI _) (by decide)]
  refine ⟨_, rfl, iteT ?_⟩
  refine ⟨by show 1 ≤ sizeLine; decide, fun t69 ht69 => ?_⟩
  have st69 := Same.new (o := .tup [.int 1]) ht69
  have gt69 : upd G68 t69 (.tup [.int 1]) t69 = some (.tup (iV [1])) := upd_same
  generalize upd G68 t69 (.tup [.int 1]) = G70 at *
  refine ⟨_, true, rfl, SerIs.right (SqT.of gt69) (by decide) (by decide) rfl (by decide), (fun e => nomatch e), fun _ => ⟨t69, [1], rfl, SqT.of gt69, by decide, by decide, by decide +kernel, fun G72 p71 sp71 hp71 gp71 => ?_⟩⟩
  rw [show countsOf [1] = [] by decide +kernel] at gp71
  replace gt69 := sp71 _ _ gt69
  refine ⟨by show 0 ≤ sizeLine; decide, fun t73 ht73 => ?_⟩
  have st73 := Same.new (o := .tup []) ht73
  have gt73 : upd G72 t73 (.tup []) t73 = some (.tup (iV [])) := upd_same
  generalize upd G72 t73 (.tup []) = G74 at *
  replace gt69 := st73 _ _ gt69
  replace gp71 := st73 _ _ gp71
  refine ⟨dI [], dI [], .tup (SqT.of gp71) (dp_ints _), .tup (SqT.of gt73) (dp_ints _), (shp_dI _).shaped (by decide), (shp_dI _).shaped (by decide), ?_⟩
  rw [eqv_self (shp_dI _) (by decide)]
  exact k _
end
end K8
namespace K8
open PySem PySem.Spec PyProof.Rows L2
/-! ### the facts of the written part -/
structure Has (K : PySem.W.Frag) (x : Str) (st : Stmt) (f : Addr) : Prop where
  at' : PySem.W.nsIn K mainGlobals x = some (some (.ref f))
  kp : PySem.W.keepIn K (.ref f) = true
  look : ∃ (oc : Value) (od : Option Addr) (kV doc pm : Value) (an : Option Addr) (cdv ct : Value) (osl : Array (Option Value)),
    K.lookup f = some ⟨oc, od, .func (PySem.W.fnOf x x (defArgs st) (defBody st) (defScope st) .none kV doc pm an cdv ct), osl⟩ ∧ PySem.W.codeIn K cdv x = true
theorem has_of {K : PySem.W.Frag} {x : Str} {st : Stmt} {f : Addr} {oc kV doc pm cdv ct : Value} {od an : Option Addr} {osl : Array (Option Value)} (a : PySem.W.nsIn K mainGlobals x = some (some (.ref f)))
    (l : K.lookup f = some ⟨oc, od, .func (PySem.W.fnOf x x (defArgs st) (defBody st) (defScope st) .none kV doc pm an cdv ct), osl⟩) (c : PySem.W.codeIn K cdv x = true) (k : PySem.W.keepIn K (.ref f) = true) : Has K x st f :=
  ⟨a, k, oc, od, kV, doc, pm, an, cdv, ct, osl, l, c⟩
theorem Has.fn {K : PySem.W.Frag} {x : Str} {st : Stmt} {f : Addr} (F : Has K x st f) : ∃ fd, Fun K x x st f fd := by
  obtain ⟨oc, od, kV, doc, pm, an, cdv, ct, osl, l, c⟩ := F.look
  exact ⟨_, fun_mk (st := st) l c F.kp⟩
/-- what an except clause over the class at S says of the class at C -/
theorem exm_by {K : PySem.W.Frag} {C S : Addr} {b : Bool} (h1 : PySem.W.subIn K (.ref S) (.type "BaseException") = some true) (h2 : PySem.W.isClsIn K S = true) (h3 : PySem.W.typeIn K (.ref S) = some (.type "type")) (h4 : PySem.W.subIn K (.ref C) (.ref S) = some b) :
    PySem.W.exmOne K (.ref C) (.ref S) = some b := by
  have e1 : (PySem.W.subIn K (.ref S) (.type "BaseException") == some true) = true := by rw [h1] <;> rfl
  have e2 : ((PySem.W.clsIn K S).isSome && PySem.W.typeIn K (.ref S) == some (.type "type")) = true := by
    have h5 : (PySem.W.clsIn K S).isSome = true := h2
    rw [h5, h3] <;> rfl
  unfold PySem.W.exmOne
  rw [if_pos e1]
  exact (if_pos e2).trans h4
/-- a class of errors: of its own, over BaseException -/
structure Cl (K : PySem.W.Frag) (x : Str) (C : Addr) : Prop where
  at' : PySem.W.nsIn K mainGlobals x = some (some (.ref C))
  kp : PySem.W.keepIn K (.ref C) = true
  ex : PySem.W.subIn K (.ref C) (.type "BaseException") = some true
  ty : PySem.W.typeIn K (.ref C) = some (.type "type")
  is : PySem.W.isClsIn K C = true
theorem cl_of {K : PySem.W.Frag} {x : Str} {C : Addr} (a : PySem.W.nsIn K mainGlobals x = some (some (.ref C))) (k : PySem.W.keepIn K (.ref C) = true) (e : PySem.W.subIn K (.ref C) (.type "BaseException") = some true)
    (t : PySem.W.typeIn K (.ref C) = some (.type "type")) (i : PySem.W.isClsIn K C = true) : Cl K x C := ⟨a, k, e, t, i⟩
structure NumFacts (K : PySem.W.Frag) (C i0 : Addr) : Prop where
  made : PySem.W.excInitIn K C K8X.ieB "IndexError.__new__" = true
  over : PySem.W.excOver K C K8X.ieB = true
  dict : PySem.W.hasDictIn K C = true
  stores : PySem.W.findIn K (.ref C) "__setattr__" = some (some (.builtin "object.__setattr__"))
  reads : PySem.W.findIn K (.ref C) "__getattribute__" = some (some (.builtin "BaseException.__getattribute__"))
  reads2 : PySem.W.findIn K (.ref C) "__getattr__" = some none
  noGiven : PySem.W.findIn K (.ref C) "given" = some none
  inits : PySem.W.findIn K (.ref C) "__init__" = some (some (.ref i0))
  isdef : PySem.W.typeIn K (.ref i0) = some (.type "function")
  text : ∃ (oc : Value) (od : Option Addr) (doc pm : Value) (an : Option Addr) (cdv ct : Value) (osl : Array (Option Value)) (r1 r2 r3 r4 r5 r6 : Pos),
    K.lookup i0 = some ⟨oc, od, .func (PySem.W.fnOf "__init__" "InvalidNumber.__init__" (K8X.nuA r1 r2) (K8X.nuB r3 r4 r5 r6) K8X.nuS .none .none doc pm an cdv ct), osl⟩ ∧ PySem.W.codeIn K cdv "InvalidNumber.__init__" = true
theorem num_of {K : PySem.W.Frag} {C i0 : Addr} {oc doc pm cdv ct : Value} {od an : Option Addr} {osl : Array (Option Value)} (j : PySem.W.findIn K (.ref C) "__init__" = some (some (.ref i0)))
    (l : K.lookup i0 = some ⟨oc, od, .func (PySem.W.fnOf "__init__" "InvalidNumber.__init__" (K8X.nuA ⟨13, 17, 13, 21⟩ ⟨13, 23, 13, 28⟩) (K8X.nuB ⟨14, 8, 14, 12⟩ ⟨14, 8, 14, 18⟩ ⟨14, 21, 14, 26⟩ ⟨14, 8, 14, 26⟩) K8X.nuS .none .none doc pm an cdv ct), osl⟩)
    (u : PySem.W.codeIn K cdv "InvalidNumber.__init__" = true) (m : PySem.W.excInitIn K C K8X.ieB "IndexError.__new__" = true) (v : PySem.W.excOver K C K8X.ieB = true) (d : PySem.W.hasDictIn K C = true)
    (s : PySem.W.findIn K (.ref C) "__setattr__" = some (some (.builtin "object.__setattr__"))) (g : PySem.W.findIn K (.ref C) "__getattribute__" = some (some (.builtin "BaseException.__getattribute__")))
    (n : PySem.W.findIn K (.ref C) "__getattr__" = some none) (e : PySem.W.findIn K (.ref C) "given" = some none) (t : PySem.W.typeIn K (.ref i0) = some (.type "function")) : NumFacts K C i0 :=
  ⟨m, v, d, s, g, n, e, j, t, oc, od, doc, pm, an, cdv, ct, osl, _, _, _, _, _, _, l, u⟩
theorem all_mk {l : PySem.W.OpenLaw} {w : World} {K : PySem.W.Frag} {h : Heap} {mg : Str → Option Value} {fa CL CO CN i0 : Addr} (X : K.In h) (G : h.Ns mainGlobals mg) (hfa : mg "law" = some (.ref fa))
    {fWh fII fBe fCB fOn fIL fLo fCs fSc fCo fSe fWF fDi fRo fPi fNe fCh fFa fTi fCd fLs fRA fRB fRC f2 : Addr} {oc2 kV2 dc2 pm2 cd2 ct2 : Value} {od2 an2 : Option Addr} {sl2 : Array (Option Value)}
    (aR : Cl K "InvalidLetters" CL) (mR : PySem.W.excIn K CL PySem.HandSPX.veTail "ValueError.__new__" = true) (aO : Cl K "InvalidOperation" CO) (mO : PySem.W.excIn K CO PySem.HandSPX.veTail "ValueError.__new__" = true)
    (aN : Cl K "InvalidNumber" CN) (nF : NumFacts K CN i0) (nn : PySem.W.subIn K (.ref CN) (.ref CN) = some true)
    (z_int : PySem.W.nsIn K mainGlobals "int" = some none)
    (z_bool : PySem.W.nsIn K mainGlobals "bool" = some none)
    (z_tuple : PySem.W.nsIn K mainGlobals "tuple" = some none)
    (z_list : PySem.W.nsIn K mainGlobals "list" = some none)
    (z_isinstance : PySem.W.nsIn K mainGlobals "isinstance" = some none)
    (z_len : PySem.W.nsIn K mainGlobals "len" = some none)
    (z_abs : PySem.W.nsIn K mainGlobals "abs" = some none)
    (z_max : PySem.W.nsIn K mainGlobals "max" = some none)
    (z_min : PySem.W.nsIn K mainGlobals "min" = some none)
    (z_range : PySem.W.nsIn K mainGlobals "range" = some none)
    (z_sum : PySem.W.nsIn K mainGlobals "sum" = some none)
    (z_all : PySem.W.nsIn K mainGlobals "all" = some none)
    (z_enumerate : PySem.W.nsIn K mainGlobals "enumerate" = some none)
    (z_repr : PySem.W.nsIn K mainGlobals "repr" = some none)
    (y_0 : ∃ t, mg "_LIMIT" = some (.int (10 ^ 60) t))
    (y_1 : ∃ t, mg "MAX_LETTERS" = some (.int (24) t))
    (y_2 : ∃ t, mg "MAX_LETTER" = some (.int (40) t))
    (y_3 : ∃ t, mg "MOST_LOOP" = some (.int (60) t))
    (y_4 : ∃ t, mg "_LEAST_DEGREE" = some (.int (2) t))
    (y_5 : ∃ t, mg "_MOST_COUNT" = some (.int (1000) t))
    (hWh : Has K "is_whole" sIsWhole fWh)
    (hII : Has K "is_integer" sIsInt fII)
    (hBe : Has K "is_between" sBetween fBe)
    (hCB : Has K "check_between" sChkB fCB)
    (hOn : Has K "one_series" sOne fOn)
    (hIL : Has K "is_letters" sIsLetters fIL)
    (hLo : Has K "loop_series" sLoop fLo)
    (hCs : Has K "counts_of_series" sCoS fCs)
    (hSc : Has K "series_of_counts" sSoC fSc)
    (hCo : Has K "_counts_of" sCtsOf fCo)
    (hSe : Has K "_series_of" sSerOf fSe)
    (hWF : Has K "_with_factor" sWF fWF)
    (hDi : Has K "_law_dice" sDice fDi)
    (hRo : Has K "_law_roll" sRoll fRo)
    (hPi : Has K "_law_pick" sPick fPi)
    (hNe : Has K "_law_near" sNear fNe)
    (hCh : Has K "_law_any_choose" sChoose fCh)
    (hFa : Has K "_law_loop_factor" sFactor fFa)
    (hTi : Has K "_law_series_times" sTimes fTi)
    (hCd : Has K "_law_counted_series" sCounted fCd)
    (hLs : Has K "_law_series_counts" sSCounts fLs)
    (hRA : Has K "_law_letters_right" sLetR fRA)
    (hRB : Has K "_law_series_right" sSerR fRB)
    (hRC : Has K "_law_counts_right" sCntR fRC)
    (a2 : PySem.W.nsIn K mainGlobals "law" = some (some (.ref f2))) (l2 : K.lookup f2 = some ⟨oc2, od2, .func (PySem.W.fnOf "law" "law" (defArgs sLaw) (defBody sLaw) (defScope sLaw) .none kV2 dc2 pm2 an2 cd2 ct2), sl2⟩) (c2 : PySem.W.codeIn K cd2 "law" = true) (k2 : PySem.W.keepIn K (.ref f2) = true) :
    ∃ fd : FuncData, (∀ (s : Shared) (v : Value), BindsTo s fd ⟨[v], []⟩ [("script", v)]) ∧ ∀ base : Heap, K.In base → base.Ns mainGlobals mg → FnOk l.prog w K mg base CX0 7 fa fd ["script"] (spLaw K) := by
  have e := hfa.symm.trans (PySem.W.mg_of X G a2)
  cases e
  have F2 := fun_mk (st := sLaw) l2 c2 k2
  have NT : K8X.NumTxt K mg CN i0 := ⟨PySem.W.mg_of X G aN.at', nF.made, nF.over, nF.dict, nF.stores, nF.reads, nF.reads2, nF.noGiven, nF.inits, nF.isdef, aN.kp, aN.ex, aN.ty, exm_by aN.ex aN.is aN.ty nn, nF.text⟩
  have ER : ErrTxt K mg "InvalidLetters" CL := ⟨PySem.W.mg_of X G aR.at', mR, aR.kp, aR.ex, aR.ty⟩
  have EO : ErrTxt K mg "InvalidOperation" CO := ⟨PySem.W.mg_of X G aO.at', mO, aO.kp, aO.ex, aO.ty⟩
  have T : Txt K mg := ⟨PySem.W.mg_none_of X G z_int, PySem.W.mg_none_of X G z_bool, PySem.W.mg_none_of X G z_tuple, PySem.W.mg_none_of X G z_list, PySem.W.mg_none_of X G z_isinstance, PySem.W.mg_none_of X G z_len, PySem.W.mg_none_of X G z_abs, PySem.W.mg_none_of X G z_max, PySem.W.mg_none_of X G z_min, PySem.W.mg_none_of X G z_range, PySem.W.mg_none_of X G z_sum, PySem.W.mg_none_of X G z_all, PySem.W.mg_none_of X G z_enumerate, PySem.W.mg_none_of X G z_repr, y_0, y_1, y_2, y_3, y_4, y_5⟩
  obtain ⟨dWh, FWh⟩ := hWh.fn
  have gWh := PySem.W.mg_of X G hWh.at'
  have kWh := hWh.kp
  have bWh := FWh.binds (ps := ["value"]) fun _ _ _ _ _ _ us hl => match us, hl with | [_], _ => rfl
  obtain ⟨dII, FII⟩ := hII.fn
  have gII := PySem.W.mg_of X G hII.at'
  have kII := hII.kp
  have bII := FII.binds (ps := ["value"]) fun _ _ _ _ _ _ us hl => match us, hl with | [_], _ => rfl
  obtain ⟨dBe, FBe⟩ := hBe.fn
  have gBe := PySem.W.mg_of X G hBe.at'
  have kBe := hBe.kp
  have bBe := FBe.binds (ps := ["value", "least", "most"]) fun _ _ _ _ _ _ us hl => match us, hl with | [_, _, _], _ => rfl
  obtain ⟨dCB, FCB⟩ := hCB.fn
  have gCB := PySem.W.mg_of X G hCB.at'
  have kCB := hCB.kp
  have bCB := FCB.binds (ps := ["value", "least", "most"]) fun _ _ _ _ _ _ us hl => match us, hl with | [_, _, _], _ => rfl
  obtain ⟨dOn, FOn⟩ := hOn.fn
  have gOn := PySem.W.mg_of X G hOn.at'
  have kOn := hOn.kp
  have bOn := FOn.binds (ps := ["most"]) fun _ _ _ _ _ _ us hl => match us, hl with | [_], _ => rfl
  obtain ⟨dIL, FIL⟩ := hIL.fn
  have gIL := PySem.W.mg_of X G hIL.at'
  have kIL := hIL.kp
  have bIL := FIL.binds (ps := ["value"]) fun _ _ _ _ _ _ us hl => match us, hl with | [_], _ => rfl
  obtain ⟨dLo, FLo⟩ := hLo.fn
  have gLo := PySem.W.mg_of X G hLo.at'
  have kLo := hLo.kp
  have bLo := FLo.binds (ps := ["letters", "most"]) fun _ _ _ _ _ _ us hl => match us, hl with | [_, _], _ => rfl
  obtain ⟨dCs, FCs⟩ := hCs.fn
  have gCs := PySem.W.mg_of X G hCs.at'
  have kCs := hCs.kp
  have bCs := FCs.binds (ps := ["series"]) fun _ _ _ _ _ _ us hl => match us, hl with | [_], _ => rfl
  obtain ⟨dSc, FSc⟩ := hSc.fn
  have gSc := PySem.W.mg_of X G hSc.at'
  have kSc := hSc.kp
  have bSc := FSc.binds (ps := ["counts"]) fun _ _ _ _ _ _ us hl => match us, hl with | [_], _ => rfl
  obtain ⟨dCo, FCo⟩ := hCo.fn
  have gCo := PySem.W.mg_of X G hCo.at'
  have kCo := hCo.kp
  have bCo := FCo.binds (ps := ["series"]) fun _ _ _ _ _ _ us hl => match us, hl with | [_], _ => rfl
  obtain ⟨dSe, FSe⟩ := hSe.fn
  have gSe := PySem.W.mg_of X G hSe.at'
  have kSe := hSe.kp
  have bSe := FSe.binds (ps := ["counts", "most"]) fun _ _ _ _ _ _ us hl => match us, hl with | [_, _], _ => rfl
  obtain ⟨dWF, FWF⟩ := hWF.fn
  have gWF := PySem.W.mg_of X G hWF.at'
  have kWF := hWF.kp
  have bWF := FWF.binds (ps := ["series", "size", "count"]) fun _ _ _ _ _ _ us hl => match us, hl with | [_, _, _], _ => rfl
  obtain ⟨dDi, FDi⟩ := hDi.fn
  have gDi := PySem.W.mg_of X G hDi.at'
  have kDi := hDi.kp
  have bDi := FDi.binds (ps := ["script", "spot"]) fun _ _ _ _ _ _ us hl => match us, hl with | [_, _], _ => rfl
  obtain ⟨dRo, FRo⟩ := hRo.fn
  have gRo := PySem.W.mg_of X G hRo.at'
  have kRo := hRo.kp
  have bRo := FRo.binds (ps := ["dice", "total"]) fun _ _ _ _ _ _ us hl => match us, hl with | [_, _], _ => rfl
  obtain ⟨dPi, FPi⟩ := hPi.fn
  have gPi := PySem.W.mg_of X G hPi.at'
  have kPi := hPi.kp
  have bPi := FPi.binds (ps := ["dice", "items"]) fun _ _ _ _ _ _ us hl => match us, hl with | [_, _], _ => rfl
  obtain ⟨dNe, FNe⟩ := hNe.fn
  have gNe := PySem.W.mg_of X G hNe.at'
  have kNe := hNe.kp
  have bNe := FNe.binds (ps := ["dice", "most"]) fun _ _ _ _ _ _ us hl => match us, hl with | [_, _], _ => rfl
  obtain ⟨dCh, FCh⟩ := hCh.fn
  have gCh := PySem.W.mg_of X G hCh.at'
  have kCh := hCh.kp
  have bCh := FCh.binds (ps := ["many", "few"]) fun _ _ _ _ _ _ us hl => match us, hl with | [_, _], _ => rfl
  obtain ⟨dFa, FFa⟩ := hFa.fn
  have gFa := PySem.W.mg_of X G hFa.at'
  have kFa := hFa.kp
  have bFa := FFa.binds (ps := ["degree", "many", "size"]) fun _ _ _ _ _ _ us hl => match us, hl with | [_, _, _], _ => rfl
  obtain ⟨dTi, FTi⟩ := hTi.fn
  have gTi := PySem.W.mg_of X G hTi.at'
  have kTi := hTi.kp
  have bTi := FTi.binds (ps := ["one", "other"]) fun _ _ _ _ _ _ us hl => match us, hl with | [_, _], _ => rfl
  obtain ⟨dCd, FCd⟩ := hCd.fn
  have gCd := PySem.W.mg_of X G hCd.at'
  have kCd := hCd.kp
  have bCd := FCd.binds (ps := ["counts", "size"]) fun _ _ _ _ _ _ us hl => match us, hl with | [_, _], _ => rfl
  obtain ⟨dLs, FLs⟩ := hLs.fn
  have gLs := PySem.W.mg_of X G hLs.at'
  have kLs := hLs.kp
  have bLs := FLs.binds (ps := ["series"]) fun _ _ _ _ _ _ us hl => match us, hl with | [_], _ => rfl
  obtain ⟨dRA, FRA⟩ := hRA.fn
  have gRA := PySem.W.mg_of X G hRA.at'
  have kRA := hRA.kp
  have bRA := FRA.binds (ps := ["dice"]) fun _ _ _ _ _ _ us hl => match us, hl with | [_], _ => rfl
  obtain ⟨dRB, FRB⟩ := hRB.fn
  have gRB := PySem.W.mg_of X G hRB.at'
  have kRB := hRB.kp
  have bRB := FRB.binds (ps := ["dice"]) fun _ _ _ _ _ _ us hl => match us, hl with | [_], _ => rfl
  obtain ⟨dRC, FRC⟩ := hRC.fn
  have gRC := PySem.W.mg_of X G hRC.at'
  have kRC := hRC.kp
  have bRC := FRC.binds (ps := ["dice"]) fun _ _ _ _ _ _ us hl => match us, hl with | [_], _ => rfl
  refine ⟨PySem.W.fnOf "law" "law" (defArgs sLaw) (defBody sLaw) (defScope sLaw) .none kV2 dc2 pm2 an2 cd2 ct2, fun s v => .of_eq rfl, fun base _ _ => ?_⟩
  have qWh := ok_iswhole (P := l.prog) (w := w) (base := base) FWh T 
  have qII := ok_isint FII T gWh kWh bWh qWh
  have qBe := ok_betw FBe gII kII bII qII
  have qCB := ok_chkbE FCB NT gBe kBe bBe qBe
  have qIL := ok_isletters FIL T gBe kBe bBe qBe
  have qOn := ok_one (P := l.prog) (w := w) (base := base) (mg := mg) FOn 
  have qWF := ok_wf (P := l.prog) (w := w) (base := base) FWF T 
  have qCo := ok_co FCo T gWF kWF bWF qWF
  have qSeL := ok_serL FSe T gWF kWF bWF qWF gOn kOn bOn qOn
  have qSeT := ok_serT FSe T gWF kWF bWF qWF gOn kOn bOn qOn
  have qLo := ok_loop FLo T ER gIL kIL bIL qIL gCB kCB bCB qCB gSe kSe bSe qSeL
  have qCs := ok_cos FCs T EO gII kII bII qII gCo kCo bCo qCo
  have qSc := ok_soc FSc T EO gBe kBe bBe qBe gSe kSe bSe qSeT
  have qRo := ok_roll (P := l.prog) (w := w) (base := base) FRo T 
  have qDi := ok_dice (P := l.prog) (w := w) (base := base) FDi T 
  have qPi := ok_pick FPi T gRo kRo bRo qRo
  have qNe := ok_near FNe gRo kRo bRo qRo
  have qCh := ok_choose (P := l.prog) (w := w) (base := base) FCh T 
  have qFa := ok_factor FFa T gCh kCh bCh qCh
  have qTi := ok_times (P := l.prog) (w := w) (base := base) FTi T 
  have qCd := ok_counted FCd T gFa kFa bFa qFa gTi kTi bTi qTi
  have qLs := ok_lsc FLs T gCd kCd bCd qCd
  have qRA := ok_letR FRA T gPi kPi bPi qPi gRo kRo bRo qRo gLo kLo bLo qLo gCs kCs bCs qCs gSc kSc bSc qSc gCd kCd bCd qCd
  have qRB := ok_serR FRB T gPi kPi bPi qPi gRo kRo bRo qRo gNe kNe bNe qNe gCs kCs bCs qCs gSc kSc bSc qSc gLs kLs bLs qLs gCd kCd bCd qCd
  have qRC := ok_cntR FRC T gPi kPi bPi qPi gRo kRo bRo qRo gNe kNe bNe qNe gCs kCs bCs qCs gSc kSc bSc qSc gCd kCd bCd qCd
  exact ok_law F2 T gDi kDi bDi qDi gRA kRA bRA qRA gRB kRB bRB qRB gRC kRC bRC qRC gLo kLo bLo qLo gCs kCs bCs qCs gSc kSc bSc qSc
end K8
open PySem PySem.W PyProof.Rows
set_option maxRecDepth 100000 in
set_option maxHeartbeats 0 in
theorem PySem.Challenge.cw_stepletters_k55_whole_loop_series_and_co_holds : PySem.Challenge.rw_stepletters_k55_whole_loop_series_and_co.Holds := by
  w_on; o_law; k_head; (case hw => w_witness2)
  k_fill
  refine L2.walk_of (l := PySem.Challenge.rw_stepletters_k55_whole_loop_series_and_co) (n := 63) (k := 7) (x := "script") (CX := fun _ => L2.CX0) (sp := fun w => K8.spLaw _) rfl (by decide) rfl ⟨rfl, by decide, by decide⟩ (fun w h Y => PySem.W.kIn_of Y) ?F (fun _ _ a ns hl _ hS => ⟨a, ns, rfl, hS, by omega, fun _ => rfl⟩) (fun _ _ _ _ _ h => h)
  case F =>
    intro w mg fa h KX G hmg
    refine' K8.all_mk KX G hmg ?aR ?mR ?aO ?mO ?aN ?nF ?nn ?z_int ?z_bool ?z_tuple ?z_list ?z_isinstance ?z_len ?z_abs ?z_max ?z_min ?z_range ?z_sum ?z_all ?z_enumerate ?z_repr ?y_0 ?y_1 ?y_2 ?y_3 ?y_4 ?y_5 ?hWh ?hII ?hBe ?hCB ?hOn ?hIL ?hLo ?hCs ?hSc ?hCo ?hSe ?hWF ?hDi ?hRo ?hPi ?hNe ?hCh ?hFa ?hTi ?hCd ?hLs ?hRA ?hRB ?hRC ?a2 ?l2 ?c2 ?k2
    (case aR => refine' K8.cl_of ?a ?k ?e ?t ?i; (case a => k_is); (case k => k_is); (case e => k_is); (case t => k_is); (case i => k_is))
    (case aO => refine' K8.cl_of ?a ?k ?e ?t ?i; (case a => k_is); (case k => k_is); (case e => k_is); (case t => k_is); (case i => k_is))
    (case aN => refine' K8.cl_of ?a ?k ?e ?t ?i; (case a => k_is); (case k => k_is); (case e => k_is); (case t => k_is); (case i => k_is))
    (case nF => refine' K8.num_of ?j ?l ?u ?m ?v ?d ?s ?g ?n ?e ?t; (case j => k_is); (case l => k_is); (case u => k_is); (case m => kernel_rfl); (case v => kernel_rfl); (case d => k_is); (case s => k_is); (case g => k_is); (case n => k_is); (case e => k_is); (case t => k_is))
    (case mR => kernel_rfl)
    (case mO => kernel_rfl)
    (case nn => first | rfl | k_is)
    (case z_int => k_is)
    (case z_bool => k_is)
    (case z_tuple => k_is)
    (case z_list => k_is)
    (case z_isinstance => k_is)
    (case z_len => k_is)
    (case z_abs => k_is)
    (case z_max => k_is)
    (case z_min => k_is)
    (case z_range => k_is)
    (case z_sum => k_is)
    (case z_all => k_is)
    (case z_enumerate => k_is)
    (case z_repr => k_is)
    (case y_0 => exact ⟨_, PySem.W.mg_of KX G (by k_is)⟩)
    (case y_1 => exact ⟨_, PySem.W.mg_of KX G (by k_is)⟩)
    (case y_2 => exact ⟨_, PySem.W.mg_of KX G (by k_is)⟩)
    (case y_3 => exact ⟨_, PySem.W.mg_of KX G (by k_is)⟩)
    (case y_4 => exact ⟨_, PySem.W.mg_of KX G (by k_is)⟩)
    (case y_5 => exact ⟨_, PySem.W.mg_of KX G (by k_is)⟩)
    (case hWh => refine' K8.has_of ?a ?l ?c ?k; (case a => k_is); (case l => k_is); (case c => k_is); (case k => k_is))
    (case hII => refine' K8.has_of ?a ?l ?c ?k; (case a => k_is); (case l => k_is); (case c => k_is); (case k => k_is))
    (case hBe => refine' K8.has_of ?a ?l ?c ?k; (case a => k_is); (case l => k_is); (case c => k_is); (case k => k_is))
    (case hCB => refine' K8.has_of ?a ?l ?c ?k; (case a => k_is); (case l => k_is); (case c => k_is); (case k => k_is))
    (case hOn => refine' K8.has_of ?a ?l ?c ?k; (case a => k_is); (case l => k_is); (case c => k_is); (case k => k_is))
    (case hIL => refine' K8.has_of ?a ?l ?c ?k; (case a => k_is); (case l => k_is); (case c => k_is); (case k => k_is))
    (case hLo => refine' K8.has_of ?a ?l ?c ?k; (case a => k_is); (case l => k_is); (case c => k_is); (case k => k_is))
    (case hCs => refine' K8.has_of ?a ?l ?c ?k; (case a => k_is); (case l => k_is); (case c => k_is); (case k => k_is))
    (case hSc => refine' K8.has_of ?a ?l ?c ?k; (case a => k_is); (case l => k_is); (case c => k_is); (case k => k_is))
    (case hCo => refine' K8.has_of ?a ?l ?c ?k; (case a => k_is); (case l => k_is); (case c => k_is); (case k => k_is))
    (case hSe => refine' K8.has_of ?a ?l ?c ?k; (case a => k_is); (case l => k_is); (case c => k_is); (case k => k_is))
    (case hWF => refine' K8.has_of ?a ?l ?c ?k; (case a => k_is); (case l => k_is); (case c => k_is); (case k => k_is))
    (case hDi => refine' K8.has_of ?a ?l ?c ?k; (case a => k_is); (case l => k_is); (case c => k_is); (case k => k_is))
    (case hRo => refine' K8.has_of ?a ?l ?c ?k; (case a => k_is); (case l => k_is); (case c => k_is); (case k => k_is))
    (case hPi => refine' K8.has_of ?a ?l ?c ?k; (case a => k_is); (case l => k_is); (case c => k_is); (case k => k_is))
    (case hNe => refine' K8.has_of ?a ?l ?c ?k; (case a => k_is); (case l => k_is); (case c => k_is); (case k => k_is))
    (case hCh => refine' K8.has_of ?a ?l ?c ?k; (case a => k_is); (case l => k_is); (case c => k_is); (case k => k_is))
    (case hFa => refine' K8.has_of ?a ?l ?c ?k; (case a => k_is); (case l => k_is); (case c => k_is); (case k => k_is))
    (case hTi => refine' K8.has_of ?a ?l ?c ?k; (case a => k_is); (case l => k_is); (case c => k_is); (case k => k_is))
    (case hCd => refine' K8.has_of ?a ?l ?c ?k; (case a => k_is); (case l => k_is); (case c => k_is); (case k => k_is))
    (case hLs => refine' K8.has_of ?a ?l ?c ?k; (case a => k_is); (case l => k_is); (case c => k_is); (case k => k_is))
    (case hRA => refine' K8.has_of ?a ?l ?c ?k; (case a => k_is); (case l => k_is); (case c => k_is); (case k => k_is))
    (case hRB => refine' K8.has_of ?a ?l ?c ?k; (case a => k_is); (case l => k_is); (case c => k_is); (case k => k_is))
    (case hRC => refine' K8.has_of ?a ?l ?c ?k; (case a => k_is); (case l => k_is); (case c => k_is); (case k => k_is))
    (case a2 => k_is)
    (case l2 => k_is)
    (case c2 => k_is)
    (case k2 => k_is)
