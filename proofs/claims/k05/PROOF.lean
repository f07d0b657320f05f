import PyProof.Rows.All
import Wide.All
import OpenK.AllK
import Wide.FinOn
import PyProof.EqAt
import PyProof.EqKinds
import PyProof.TupleCall
import HandS.ForMost
import HandS.ForExc
import HandS.Wide
import HandS.Gcd
import HandS.FStr
import HandS.IsInst
import HandS.Lambda
import HandS.EndTab
import HandS.CallLocal
import HandS.CallSlots
import HandS.RaiseMore
import PySem.Challenge.RW_stepletters_k05_errors_of_words
import HandS.Zip
import HandS.NoneIn
import HandS.TupAny
import HandS.TupMul
import HandS.Walk
import HandS.Rev
import HandS.Style
import HandS.Steps
import HandS.SetFor
import HandS.TupLe
import KE.GoesMore
import KE.KTupSum
import HandS.Deep
import HandS.Conv
import HandS.RevRange
import HandS.GenBody
import HandS.GenYield
import HandS.GenCall
import HandS.GenList
import KE.KExcInit
import HandS.WordsExc
import HandS.Defaults
set_option Elab.async false
set_option linter.all false
set_option maxRecDepth 100000
set_option maxHeartbeats 4000000
set_option exponentiation.threshold 5000
namespace K6
/-! ### numbers of words, by series -/
def sh (a : Nat) (f : Nat → Nat) (d : Nat) : Nat := if a ≤ d then f (d - a) else 0
def opO (a : Nat) (f : Nat → Nat) (d : Nat) : Nat := f d + sh a f d
def opE (a : Nat) (f : Nat → Nat) (d : Nat) : Nat := if h : 1 ≤ a ∧ a ≤ d then f d + opE a f (d - a) else f d
termination_by d
decreasing_by omega
theorem opE_eq {a : Nat} (h : 1 ≤ a) (f : Nat → Nat) (d : Nat) : opE a f d = f d + sh a (opE a f) d := by
  rw [opE]
  unfold sh
  by_cases c : a ≤ d
  · rw [dif_pos ⟨h, c⟩, if_pos c]
  · rw [dif_neg (fun z => c z.2), if_neg c, Nat.add_zero]
theorem opE_uniq {a : Nat} (h : 1 ≤ a) {f g : Nat → Nat} (e : ∀ d, g d = f d + sh a g d) : ∀ d, g d = opE a f d := by
  intro d
  induction d using Nat.strongRecOn with
  | ind d ih =>
    rw [e d, opE_eq h]
    unfold sh
    by_cases c : a ≤ d
    · rw [if_pos c, if_pos c, ih (d - a) (by omega)]
    · rw [if_neg c, if_neg c]
theorem sh_comm (a b : Nat) (f : Nat → Nat) (d : Nat) : sh a (sh b f) d = sh b (sh a f) d := by
  unfold sh
  by_cases c : a ≤ d
  · by_cases e : b ≤ d
    · by_cases g : a + b ≤ d
      · rw [if_pos c, if_pos e, if_pos (by omega), if_pos (by omega), Nat.sub_right_comm]
      · rw [if_pos c, if_pos e, if_neg (by omega), if_neg (by omega)]
    · rw [if_pos c, if_neg e, if_neg (by omega)]
  · by_cases e : b ≤ d
    · rw [if_neg c, if_pos e, if_neg (by omega)]
    · rw [if_neg c, if_neg e]
theorem sh_add (a : Nat) (f g : Nat → Nat) (d : Nat) : sh a (fun e => f e + g e) d = sh a f d + sh a g d := by
  unfold sh
  split
  · rfl
  · rfl
theorem sh_congr {a : Nat} {f g : Nat → Nat} {d : Nat} (h : ∀ e, e ≤ d - a → f e = g e) : sh a f d = sh a g d := by
  unfold sh
  split
  · exact h _ (Nat.le_refl _)
  · rfl
def op (h : Nat) (f : Nat → Nat) : Nat → Nat := if h % 2 = 1 then opO h f else opE h f
theorem oo (a b : Nat) (f : Nat → Nat) : opO a (opO b f) = opO b (opO a f) := funext fun d => by
  show f d + sh b f d + sh a (fun e => f e + sh b f e) d = f d + sh a f d + sh b (fun e => f e + sh a f e) d
  rw [sh_add, sh_add, sh_comm a b]
  omega
theorem oe {b : Nat} (hb : 1 ≤ b) (a : Nat) (f : Nat → Nat) : opO a (opE b f) = opE b (opO a f) := funext fun d => by
  refine opE_uniq hb (fun d => ?_) d
  have e : ∀ d, opE b f d = f d + sh b (opE b f) d := opE_eq hb f
  show opE b f d + sh a (opE b f) d = f d + sh a f d + sh b (fun e => opE b f e + sh a (opE b f) e) d
  rw [sh_add, sh_comm b a]
  have e2 : sh a (opE b f) d = sh a (fun e => f e + sh b (opE b f) e) d := sh_congr fun x _ => e x
  rw [sh_add] at e2
  have := e d
  omega
theorem ee {a b : Nat} (ha : 1 ≤ a) (hb : 1 ≤ b) (f : Nat → Nat) : opE a (opE b f) = opE b (opE a f) := funext fun d => by
  refine opE_uniq hb (fun d => ?_) d
  induction d using Nat.strongRecOn with
  | ind d ih =>
    have e1 := opE_eq ha (opE b f) d
    have e2 := opE_eq hb f d
    have e3 := opE_eq ha f d
    have e4 : sh a (opE a (opE b f)) d = sh a (fun e => opE a f e + sh b (opE a (opE b f)) e) d := by
      unfold sh
      by_cases c : a ≤ d
      · rw [if_pos c, if_pos c]
        exact ih (d - a) (by omega)
      · rw [if_neg c, if_neg c]
    rw [sh_add, sh_comm a b] at e4
    have e5 : sh b (opE a (opE b f)) d = sh b (fun e => opE b f e + sh a (opE a (opE b f)) e) d := sh_congr fun x _ => opE_eq ha (opE b f) x
    rw [sh_add] at e5
    omega
theorem op_comm {a b : Nat} (ha : 1 ≤ a) (hb : 1 ≤ b) (f : Nat → Nat) : op a (op b f) = op b (op a f) := by
  unfold op
  by_cases c : a % 2 = 1
  · by_cases d : b % 2 = 1
    · rw [if_pos c, if_pos d, if_pos d, if_pos c, oo]
    · rw [if_pos c, if_neg d, if_neg d, if_pos c, oe hb]
  · by_cases d : b % 2 = 1
    · rw [if_neg c, if_pos d, if_pos d, if_neg c, oe ha]
    · rw [if_neg c, if_neg d, if_neg d, if_neg c, ee ha hb]
def dl (d : Nat) : Nat := if d = 0 then 1 else 0
def cnt (L : List Int) : Nat → Nat := L.foldr (fun h f => op h.toNat f) dl
theorem cnt_cons (h : Int) (L : List Int) : cnt (h :: L) = op h.toNat (cnt L) := rfl
abbrev Pos1 (L : List Int) : Prop := ∀ h ∈ L, (1 : Int) ≤ h
theorem cnt_perm {L M : List Int} (p : L.Perm M) (h : Pos1 L) : cnt L = cnt M := by
  induction p with
  | nil => rfl
  | cons x p ih => rw [cnt_cons, cnt_cons, ih fun y hy => h y (List.mem_cons_of_mem _ hy)]
  | swap x y l =>
    have hx := h x (by simp)
    have hy := h y (by simp)
    rw [cnt_cons, cnt_cons, cnt_cons, cnt_cons, op_comm (by omega) (by omega)]
  | trans p q ih1 ih2 => rw [ih1 h, ih2 fun y hy => h y (p.mem_iff.mpr hy)]
/-- letter by letter from the front -/
theorem cnt_foldl : ∀ (L : List Int) (M : List Int), Pos1 L → Pos1 M → L.foldl (fun f h => op h.toNat f) (cnt M) = cnt (L ++ M)
  | [], M, _, _ => rfl
  | h :: L, M, hL, hM => by
    have h1 := hL h List.mem_cons_self
    have p : (L ++ h :: M).Perm (h :: L ++ M) := List.perm_middle
    rw [← cnt_perm p fun y hy => ?_]
    · rw [← cnt_foldl L (h :: M) (fun y hy => hL y (List.mem_cons_of_mem _ hy)) (fun y hy => by
        rcases List.mem_cons.mp hy with e | e
        · rw [e]
          exact h1
        · exact hM y e)]
      rfl
    · rcases List.mem_append.mp hy with e | e
      · exact hL y (List.mem_cons_of_mem _ e)
      · rcases List.mem_cons.mp e with e | e
        · rw [e]
          exact h1
        · exact hM y e
/-! ### all words of a degree -/
def mx (h : Int) (d : Nat) : Nat := if h.toNat % 2 = 1 then min 1 (d / h.toNat) else d / h.toNat
def wds : List Int → Nat → List (List Int)
  | [], d => if d = 0 then [[]] else []
  | h :: L, d => (List.range (mx h d + 1)).flatMap fun e => (wds L (d - e * h.toNat)).map fun w => (e : Int) :: w
theorem wds_cons (h : Int) (L : List Int) (d : Nat) : wds (h :: L) d = (List.range (mx h d + 1)).flatMap fun e => (wds L (d - e * h.toNat)).map fun w => (e : Int) :: w := rfl
theorem sum_even (a : Nat) (ha : 1 ≤ a) (f : Nat → Nat) : ∀ d : Nat, ((List.range (d / a + 1)).map fun e => f (d - e * a)).sum = opE a f d := by
  intro d
  induction d using Nat.strongRecOn with
  | ind d ih =>
    rw [opE_eq ha]
    unfold sh
    by_cases c : a ≤ d
    · rw [if_pos c, ← ih (d - a) (by omega)]
      have e : d / a = (d - a) / a + 1 := by
        rw [Nat.div_eq d a, if_pos ⟨by omega, c⟩]
      rw [e, List.range_succ_eq_map, List.map_cons, List.sum_cons, List.map_map]
      have z : d - 0 * a = d := by omega
      rw [z]
      congr 2
      refine List.map_congr_left fun x _ => ?_
      show f (d - (x + 1) * a) = f (d - a - x * a)
      rw [Nat.add_mul, Nat.one_mul, Nat.add_comm, Nat.sub_add_eq]
    · rw [if_neg c, Nat.div_eq_of_lt (by omega)]
      show (f (d - 0 * a) + 0) = f d + 0
      rw [Nat.zero_mul, Nat.sub_zero]
theorem wds_len : ∀ (L : List Int) (d : Nat), Pos1 L → (wds L d).length = cnt L d
  | [], d, _ => by
    show (if d = 0 then [[]] else [] : List (List Int)).length = if d = 0 then 1 else 0
    split <;> rfl
  | h :: L, d, hp => by
    have ih := fun d => wds_len L d fun y hy => hp y (List.mem_cons_of_mem _ hy)
    have h1 := hp h List.mem_cons_self
    rw [cnt_cons]
    unfold wds op mx
    rw [List.length_flatMap]
    have e : (fun e : Nat => ((wds L (d - e * h.toNat)).map fun w => (e : Int) :: w).length) = fun e : Nat => cnt L (d - e * h.toNat) := funext fun e => by rw [List.length_map, ih]
    rw [e]
    by_cases c : h.toNat % 2 = 1
    · rw [if_pos c, if_pos c]
      unfold opO sh
      by_cases q : h.toNat ≤ d
      · have z : min 1 (d / h.toNat) = 1 := by
          have : 1 ≤ d / h.toNat := (Nat.le_div_iff_mul_le (by omega)).mpr (by omega)
          omega
        rw [z, if_pos q]
        show (cnt L (d - 0 * h.toNat) + (cnt L (d - 1 * h.toNat) + 0)) = _
        rw [Nat.zero_mul, Nat.one_mul, Nat.sub_zero, Nat.add_zero]
      · have z : min 1 (d / h.toNat) = 0 := by
          rw [Nat.div_eq_of_lt (by omega)]
          rfl
        rw [z, if_neg q]
        show (cnt L (d - 0 * h.toNat) + 0) = _
        rw [Nat.zero_mul, Nat.sub_zero]
    · rw [if_neg c, if_neg c]
      exact sum_even h.toNat (by omega) (cnt L) d
/-- the degree of a word -/
def dg : List Int → List Int → Int
  | h :: L, e :: w => h * e + dg L w
  | _, _ => 0
/-- its exponents are as told -/
structure Wo (L w : List Int) (d : Nat) : Prop where
  len : w.length = L.length
  deg : dg L w = d
theorem wds_mem : ∀ {L : List Int} {d : Nat} {w : List Int}, Pos1 L → w ∈ wds L d → Wo L w d ∧ ∀ e ∈ w, 0 ≤ e ∧ e ≤ d
  | [], d, w, _, h => by
    unfold wds at h
    split at h
    · rw [List.mem_singleton.mp h]
      rename_i e
      rw [e]
      exact ⟨⟨rfl, rfl⟩, fun _ z => absurd z List.not_mem_nil⟩
    · cases h
  | h :: L, d, w, hp, hw => by
    have h1 := hp h List.mem_cons_self
    unfold wds at hw
    obtain ⟨e, he, hw⟩ := List.mem_flatMap.mp hw
    obtain ⟨v, hv, rfl⟩ := List.mem_map.mp hw
    obtain ⟨⟨a, b⟩, c⟩ := wds_mem (fun y hy => hp y (List.mem_cons_of_mem _ hy)) hv
    have em := List.mem_range.mp he
    have ed : e * h.toNat ≤ d := by
      have : e ≤ d / h.toNat := by
        unfold mx at em
        split at em <;> omega
      exact (Nat.le_div_iff_mul_le (by omega)).mp this
    have e1 : e ≤ d := Nat.le_trans (Nat.le_mul_of_pos_right e (by omega)) ed
    refine ⟨⟨by rw [List.length_cons, List.length_cons, a], ?_⟩, fun x hx => ?_⟩
    · show h * (e : Int) + dg L v = d
      rw [b]
      have z : h * (e : Int) = ((e * h.toNat : Nat) : Int) := by
        rw [Int.natCast_mul, Int.mul_comm, Int.toNat_of_nonneg (by omega)]
      rw [z]
      omega
    · rcases List.mem_cons.mp hx with q | q
      · rw [q]
        omega
      · have := c x q
        omega
/-- the least one -/
def fstE (h : Int) (L : List Int) (d : Nat) : Nat := ((List.range (mx h d + 1)).find? fun e => decide (0 < cnt L (d - e * h.toNat))).getD 0
def least : List Int → Nat → List Int
  | [], _ => []
  | h :: L, d => (fstE h L d : Int) :: least L (d - fstE h L d * h.toNat)
theorem head_flatMap {α β : Type} (f : α → List β) : ∀ l : List α, (l.flatMap f).head? = (l.find? fun x => decide (0 < (f x).length)).bind fun x => (f x).head?
  | [] => rfl
  | x :: l => by
    rw [List.flatMap_cons, List.find?_cons]
    cases e : f x with
    | nil =>
      rw [List.nil_append, head_flatMap f l]
      rfl
    | cons y r => simp [e]
theorem wds_head : ∀ {L : List Int} {d : Nat}, Pos1 L → (wds L d).head? = if 0 < cnt L d then some (least L d) else none
  | [], d, _ => by
    by_cases c : d = 0
    · subst c
      rfl
    · have e1 : wds [] d = [] := if_neg c
      have e2 : cnt [] d = 0 := if_neg c
      rw [e1, e2]
      rfl
  | h :: L, d, hp => by
    have hp' : Pos1 L := fun y hy => hp y (List.mem_cons_of_mem _ hy)
    have ih := fun d => wds_head (L := L) (d := d) hp'
    have eq : (fun e : Nat => decide (0 < ((wds L (d - e * h.toNat)).map fun w => (e : Int) :: w).length)) = fun e : Nat => decide (0 < cnt L (d - e * h.toNat)) := funext fun e => by rw [List.length_map, wds_len L _ hp']
    have q : (wds (h :: L) d).head? = ((List.range (mx h d + 1)).find? fun e => decide (0 < cnt L (d - e * h.toNat))).bind fun e : Nat => ((wds L (d - e * h.toNat)).map fun w => (e : Int) :: w).head? := by
      rw [wds_cons, head_flatMap, eq]
    cases c : (List.range (mx h d + 1)).find? fun e => decide (0 < cnt L (d - e * h.toNat)) with
    | none =>
      rw [c] at q
      have z : wds (h :: L) d = [] := by
        cases y : wds (h :: L) d with
        | nil => rfl
        | cons a r => rw [y] at q; cases q
      have n : cnt (h :: L) d = 0 := by rw [← wds_len _ _ hp, z]; rfl
      rw [z, n, if_neg (Nat.lt_irrefl 0)]
      rfl
    | some e =>
      have hc : 0 < cnt L (d - e * h.toNat) := of_decide_eq_true (List.find?_some (p := fun e : Nat => decide (0 < cnt L (d - e * h.toNat))) c)
      rw [c] at q
      have q2 : (wds (h :: L) d).head? = some ((e : Int) :: least L (d - e * h.toNat)) := by
        rw [q]
        show ((wds L (d - e * h.toNat)).map fun w => (e : Int) :: w).head? = _
        rw [List.head?_map, ih, if_pos hc]
        rfl
      have f : fstE h L d = e := by
        unfold fstE
        rw [c]
        rfl
      have n : 0 < cnt (h :: L) d := by
        rw [← wds_len _ _ hp]
        cases y : wds (h :: L) d with
        | nil => rw [y] at q2; cases q2
        | cons a r => exact Nat.succ_pos _
      rw [q2, if_pos n]
      show _ = some ((fstE h L d : Int) :: least L (d - fstE h L d * h.toNat))
      rw [f]
/-! ### the next word -/
/-- how far an exponent can rise -/
def mr (h : Int) (e : Int) (r : Nat) : Nat := if h.toNat % 2 = 1 then min (r / h.toNat) (1 - e).toNat else r / h.toNat
def rise (h : Int) (L : List Int) (e : Int) (r : Nat) : Option Nat := (List.range (mr h e r)).find? fun k => decide (0 < cnt L (r - (k + 1) * h.toNat))
def nxt : List Int → List Int → Option (List Int)
  | h :: L, e :: w => match nxt L w with
    | some v => some (e :: v)
    | none => (rise h L e (dg L w).toNat).map fun k => (e + (k + 1 : Nat)) :: least L ((dg L w).toNat - (k + 1) * h.toNat)
  | _, _ => none
def Good {α : Type} (f : α → Option α) (A : List α) (o : Option α) : Prop := ∀ (j : Nat) (w : α), A[j]? = some w → f w = (A[j + 1]?).or o
theorem Good.app {α : Type} {f : α → Option α} {A B : List α} {o : Option α} (h1 : Good f A (B.head?.or o)) (h2 : Good f B o) : Good f (A ++ B) o := by
  intro j w hj
  by_cases c : j < A.length
  · rw [List.getElem?_append_left c] at hj
    rw [h1 j w hj]
    by_cases c2 : j + 1 < A.length
    · rw [List.getElem?_append_left c2, List.getElem?_eq_getElem c2]
      rfl
    · rw [List.getElem?_append_right (by omega), List.getElem?_eq_none (by omega), show j + 1 - A.length = 0 by omega]
      show B.head?.or o = (B[0]?).or o
      rw [List.head?_eq_getElem?]
  · rw [List.getElem?_append_right (by omega)] at hj
    rw [h2 _ w hj, List.getElem?_append_right (by omega), show j + 1 - A.length = j - A.length + 1 by omega]
theorem find_shift {p : Nat → Bool} {a : Nat} : ∀ (n : Nat), ((List.range' a n).find? p) = ((List.range n).find? fun k => p (a + k)).map (a + ·) := by
  intro n
  rw [List.range'_eq_map_range, List.find?_map]
  rfl
/-- the blocks from e on -/
theorem good_blocks {h : Int} {L : List Int} {d : Nat} (hp : Pos1 (h :: L)) (ih : ∀ r, Good (nxt L) (wds L r) none) : ∀ (n e : Nat), e + n = mx h d + 1 → Good (nxt (h :: L)) ((List.range' e n).flatMap fun e => (wds L (d - e * h.toNat)).map fun w => (e : Int) :: w) none
  | 0, e, _ => by
    intro j w hj
    cases hj
  | n + 1, e, he => by
    have hp' : Pos1 L := fun y hy => hp y (List.mem_cons_of_mem _ hy)
    have h1 := hp h List.mem_cons_self
    rw [List.range'_succ, List.flatMap_cons]
    refine Good.app ?_ (good_blocks hp ih n (e + 1) (by omega))
    rw [Option.or_none]
    intro j w hj
    rw [List.getElem?_map] at hj
    obtain ⟨v, hv, rfl⟩ := Option.map_eq_some_iff.mp hj
    obtain ⟨⟨a, b⟩, _⟩ := wds_mem hp' (List.mem_of_getElem? hv)
    have q := ih _ j v hv
    rw [Option.or_none] at q
    have em : e ≤ mx h d := by omega
    have ed : e ≤ d / h.toNat := by
      unfold mx at em
      split at em <;> omega
    have eh : e * h.toNat ≤ d := (Nat.le_div_iff_mul_le (by omega)).mp ed
    show (match nxt L v with
      | some v => some ((e : Int) :: v)
      | none => (rise h L e (dg L v).toNat).map fun k => ((e : Int) + (k + 1 : Nat)) :: least L ((dg L v).toNat - (k + 1) * h.toNat)) = _
    rw [q, b, List.getElem?_map]
    cases c : (wds L (d - e * h.toNat))[j + 1]? with
    | some u => rfl
    | none =>
      show (rise h L e ((d - e * h.toNat : Nat) : Int).toNat).map _ = _
      rw [show (((d - e * h.toNat : Nat) : Int)).toNat = d - e * h.toNat by omega]
      rw [Option.map_none, Option.none_or, head_flatMap]
      have eq : (fun e : Nat => decide (0 < ((wds L (d - e * h.toNat)).map fun w => (e : Int) :: w).length)) = fun e : Nat => decide (0 < cnt L (d - e * h.toNat)) := funext fun e => by rw [List.length_map, wds_len L _ hp']
      rw [eq, find_shift]
      have em2 : mr h e (d - e * h.toNat) = n := by
        have dv : (d - e * h.toNat) / h.toNat = d / h.toNat - e := by
          rw [Nat.mul_comm]
          exact Nat.sub_mul_div d h.toNat e
        unfold mr
        unfold mx at he
        rw [dv]
        split at he
        · rename_i o
          rw [if_pos o]
          omega
        · rename_i o
          rw [if_neg o]
          omega
      have pq : (fun k : Nat => decide (0 < cnt L (d - e * h.toNat - (k + 1) * h.toNat))) = fun k : Nat => decide (0 < cnt L (d - (e + 1 + k) * h.toNat)) := funext fun k => by
        rw [show d - e * h.toNat - (k + 1) * h.toNat = d - (e + 1 + k) * h.toNat by rw [Nat.sub_sub, ← Nat.add_mul, show e + (k + 1) = e + 1 + k by omega]]
      unfold rise
      rw [em2, pq]
      cases z : (List.range n).find? fun k : Nat => decide (0 < cnt L (d - (e + 1 + k) * h.toNat)) with
      | none => rfl
      | some k =>
        have hc : 0 < cnt L (d - (e + 1 + k) * h.toNat) := of_decide_eq_true (List.find?_some (p := fun k : Nat => decide (0 < cnt L (d - (e + 1 + k) * h.toNat))) z)
        show some (((e : Int) + (k + 1 : Nat)) :: least L (d - e * h.toNat - (k + 1) * h.toNat)) = ((wds L (d - (e + 1 + k) * h.toNat)).map fun w => ((e + 1 + k : Nat) : Int) :: w).head?
        rw [List.head?_map, wds_head hp', if_pos hc]
        show _ = some (((e + 1 + k : Nat) : Int) :: least L (d - (e + 1 + k) * h.toNat))
        rw [show d - e * h.toNat - (k + 1) * h.toNat = d - (e + 1 + k) * h.toNat by rw [Nat.sub_sub, ← Nat.add_mul, show e + (k + 1) = e + 1 + k by omega], show (e : Int) + ((k + 1 : Nat) : Int) = ((e + 1 + k : Nat) : Int) by omega]
theorem nxt_good : ∀ (L : List Int) (d : Nat), Pos1 L → Good (nxt L) (wds L d) none
  | [], d, _ => by
    intro j w hj
    by_cases c : d = 0
    · have e : wds [] d = [[]] := if_pos c
      rw [e] at hj ⊢
      cases j with
      | zero =>
        cases hj
        rfl
      | succ j => cases hj
    · have e : wds [] d = [] := if_neg c
      rw [e] at hj
      cases hj
  | h :: L, d, hp => by
    have q := good_blocks (h := h) (L := L) (d := d) hp (fun r => nxt_good L r fun y hy => hp y (List.mem_cons_of_mem _ hy)) (mx h d + 1) 0 (by omega)
    rw [wds_cons, List.range_eq_range']
    exact q
/-! ### the law's listing -/
def rch (L : List Int) (d : Nat) : Bool := decide (0 < cnt L d)
def lstep (h : Int) (L : List Int) (ps : List (List Int × Nat)) : List (List Int × Nat) := ps.flatMap fun q => ((List.range (mx h q.2 + 1)).filter fun e => rch L (q.2 - e * h.toNat)).map fun e : Nat => (q.1 ++ [(e : Int)], q.2 - e * h.toNat)
def lwk : List Int → List (List Int × Nat) → List (List Int × Nat)
  | [], ps => ps
  | h :: L, ps => lwk L (lstep h L ps)
theorem flatMap_filter {α β : Type} {p : α → Bool} {f : α → List β} : ∀ l : List α, (∀ x ∈ l, p x = false → f x = []) → (l.filter p).flatMap f = l.flatMap f
  | [], _ => rfl
  | x :: l, h => by
    have ih := flatMap_filter (p := p) (f := f) l fun y hy => h y (List.mem_cons_of_mem _ hy)
    rw [List.filter_cons]
    cases c : p x with
    | true => rw [if_pos rfl, List.flatMap_cons, List.flatMap_cons, ih]
    | false => rw [if_neg Bool.false_ne_true, List.flatMap_cons, h x List.mem_cons_self c, List.nil_append, ih]
theorem rch_false {L : List Int} {d : Nat} (hp : Pos1 L) (h : rch L d = false) : wds L d = [] := by
  have := of_decide_eq_false h
  rw [← wds_len L d hp] at this
  exact List.eq_nil_of_length_eq_zero (by omega)
theorem lwk_words : ∀ (L : List Int) (ps : List (List Int × Nat)), Pos1 L → (∀ q ∈ ps, rch L q.2 = true) → (lwk L ps).map (·.1) = ps.flatMap fun q => (wds L q.2).map (q.1 ++ ·)
  | [], ps, _, hr => by
    show ps.map (·.1) = _
    induction ps with
    | nil => rfl
    | cons q ps ih =>
      have h0 := of_decide_eq_true (hr q List.mem_cons_self)
      have z : q.2 = 0 := by
        cases c : q.2 with
        | zero => rfl
        | succ n =>
          rw [c] at h0
          have : cnt [] (n + 1) = 0 := rfl
          omega
      rw [List.map_cons, List.flatMap_cons, ih fun y hy => hr y (List.mem_cons_of_mem _ hy), z]
      show q.1 :: _ = [q.1 ++ []] ++ _
      rw [List.append_nil]
      rfl
  | h :: L, ps, hp, hr => by
    have hp' : Pos1 L := fun y hy => hp y (List.mem_cons_of_mem _ hy)
    show (lwk L (lstep h L ps)).map (·.1) = _
    rw [lwk_words L (lstep h L ps) hp' fun q hq => ?_]
    · unfold lstep
      rw [List.flatMap_assoc]
      congr 1
      funext q
      rw [List.flatMap_map, wds_cons, List.map_flatMap]
      rw [flatMap_filter]
      · congr 1
        funext e
        rw [List.map_map]
        refine List.map_congr_left fun w _ => ?_
        show q.1 ++ [(e : Int)] ++ w = q.1 ++ ((e : Int) :: w)
        rw [List.append_assoc]
        rfl
      · intro e _ he
        rw [rch_false hp' he]
        rfl
    · obtain ⟨q', _, hm⟩ := List.mem_flatMap.mp hq
      obtain ⟨e, he, rfl⟩ := List.mem_map.mp hm
      exact (List.mem_filter.mp he).2
def lfirst (L : List Int) (d : Nat) : List (List Int × Nat) := if rch L d = true then [([], d)] else []
theorem lw_words {L : List Int} {d : Nat} (hp : Pos1 L) : (lwk L (lfirst L d)).map (·.1) = wds L d := by
  rw [lwk_words L _ hp]
  · unfold lfirst
    cases c : rch L d with
    | true =>
      rw [if_pos rfl, List.flatMap_cons]
      show ((wds L d).map fun w => [] ++ w) ++ [] = _
      rw [List.append_nil]
      exact List.map_id' _
    | false =>
      rw [if_neg Bool.false_ne_true, rch_false hp c]
      rfl
  · intro q hq
    unfold lfirst at hq
    split at hq
    · rw [List.mem_singleton.mp hq]
      assumption
    · cases hq
/-! ### the highest word of odd letters -/
def sn (L : List Int) : Nat := (L.map Int.toNat).sum
theorem cnt_pos_cons {h : Int} {L : List Int} (o : h.toNat % 2 = 1) (d : Nat) : cnt (h :: L) d = cnt L d + (if h.toNat ≤ d then cnt L (d - h.toNat) else 0) := by
  rw [cnt_cons]
  unfold op
  rw [if_pos o]
  rfl
theorem cnt_high : ∀ {L : List Int}, (∀ h ∈ L, (h.toNat) % 2 = 1) → ∀ d, sn L < d → cnt L d = 0
  | [], _, d, h => by
    have e : (0 : Nat) < d := h
    exact if_neg (by omega)
  | h :: L, o, d, hd => by
    have ih := cnt_high (L := L) fun y hy => o y (List.mem_cons_of_mem _ hy)
    have e : sn (h :: L) = h.toNat + sn L := by
      unfold sn
      rw [List.map_cons, List.sum_cons]
    rw [e] at hd
    rw [cnt_pos_cons (o h List.mem_cons_self), ih d (by omega)]
    split
    · rw [ih _ (by omega)]
    · rfl
theorem wds_top : ∀ {L : List Int}, Pos1 L → (∀ h ∈ L, (h.toNat) % 2 = 1) → wds L (sn L) = [List.replicate L.length 1]
  | [], _, _ => rfl
  | h :: L, hp, o => by
    have hp' : Pos1 L := fun y hy => hp y (List.mem_cons_of_mem _ hy)
    have o' : ∀ h ∈ L, (h.toNat) % 2 = 1 := fun y hy => o y (List.mem_cons_of_mem _ hy)
    have h1 := hp h List.mem_cons_self
    have ih := wds_top hp' o'
    have e : sn (h :: L) = h.toNat + sn L := by
      unfold sn
      rw [List.map_cons, List.sum_cons]
    have z : mx h (h.toNat + sn L) = 1 := by
      have : 1 ≤ (h.toNat + sn L) / h.toNat := (Nat.le_div_iff_mul_le (by omega)).mpr (by omega)
      unfold mx
      rw [if_pos (o h List.mem_cons_self)]
      omega
    have n : wds L (h.toNat + sn L - 0 * h.toNat) = [] := by
      refine List.eq_nil_of_length_eq_zero ?_
      rw [wds_len L _ hp']
      exact cnt_high o' _ (by omega)
    have m : wds L (h.toNat + sn L - 1 * h.toNat) = [List.replicate L.length 1] := by
      rw [← ih]
      congr 1
      omega
    rw [e, wds_cons, z]
    show ((wds L (h.toNat + sn L - 0 * h.toNat)).map _ ++ ((wds L (h.toNat + sn L - 1 * h.toNat)).map _ ++ [])) = _
    rw [n, m]
    rfl
theorem cnt_top {L : List Int} (hp : Pos1 L) (o : ∀ h ∈ L, (h.toNat) % 2 = 1) : cnt L (sn L) = 1 := by
  rw [← wds_len L _ hp, wds_top hp o]
  rfl
theorem sn_sum : ∀ {L : List Int}, Pos1 L → ((sn L : Nat) : Int) = L.sum
  | [], _ => rfl
  | h :: L, hp => by
    have ih := sn_sum (L := L) fun y hy => hp y (List.mem_cons_of_mem _ hy)
    have := hp h List.mem_cons_self
    unfold sn at ih ⊢
    rw [List.map_cons, List.sum_cons, List.sum_cons]
    omega
/-- no words of even letters in odd degrees -/
theorem dg_even : ∀ {L w : List Int}, (∀ h ∈ L, h % 2 = 0) → dg L w % 2 = 0
  | [], _, _ => rfl
  | _ :: _, [], _ => rfl
  | h :: L, e :: w, o => by
    have ih := dg_even (L := L) (w := w) fun y hy => o y (List.mem_cons_of_mem _ hy)
    have h0 := o h List.mem_cons_self
    show (h * e + dg L w) % 2 = 0
    have : (h * e) % 2 = 0 := by
      rw [Int.mul_emod, h0, Int.zero_mul]
      rfl
    omega
theorem wds_evens {L : List Int} {d : Nat} (hp : Pos1 L) (o : ∀ h ∈ L, h % 2 = 0) (hd : d % 2 = 1) : wds L d = [] := by
  cases c : wds L d with
  | nil => rfl
  | cons w r =>
    have m := (wds_mem hp (show w ∈ wds L d by rw [c]; exact List.mem_cons_self)).1.deg
    have := dg_even (w := w) o
    omega
/-- the law's series: odd letters first, then even ones -/
theorem cnt_series {L : List Int} (hp : Pos1 L) : (L.filter fun h => decide (h % 2 = 0)).foldl (fun f h => op h.toNat f) ((L.filter fun h => decide (h % 2 = 1)).foldl (fun f h => op h.toNat f) dl) = cnt L := by
  have e1 := cnt_foldl (L.filter fun h => decide (h % 2 = 1)) [] (fun y hy => hp y (List.mem_filter.mp hy).1) fun _ z => absurd z List.not_mem_nil
  have e2 := cnt_foldl (L.filter fun h => decide (h % 2 = 0)) (L.filter fun h => decide (h % 2 = 1)) (fun y hy => hp y (List.mem_filter.mp hy).1) fun y hy => hp y (List.mem_filter.mp hy).1
  rw [List.append_nil] at e1
  have e0 : cnt [] = dl := rfl
  rw [e0] at e1
  rw [e1, e2]
  refine cnt_perm ?_ fun y hy => ?_
  · have q := List.filter_append_perm (fun h : Int => decide (h % 2 = 0)) L
    have z : (L.filter fun h => !decide (h % 2 = 0)) = L.filter fun h => decide (h % 2 = 1) := by
      refine List.filter_congr fun x _ => ?_
      rw [Bool.eq_iff_iff, Bool.not_eq_true', decide_eq_false_iff_not, decide_eq_true_eq]
      omega
    rw [z] at q
    exact q
  · rcases List.mem_append.mp hy with z | z <;> exact hp y (List.mem_filter.mp z).1
end K6
namespace K6
open PySem PySem.Spec PyProof.Rows GenW L2
/-! ### a for loop in a generator's body -/
section
variable {M : Model} {A : Around} {R : GenEnd} {Y : Protocol} {n : Nat} {s₀ : Shared} {c : Code} {fs : List Frame} {s : Shared} {env : Env} {K : Flow → Sem PySem.Fin} {H : Value → Sem PySem.Fin} {gd : Bool → Bool} {lv : List Value → List Value}
theorem seg_For {tg iter : Expr} {body orelse : List Stmt} {pos : Pos}
    (h : wpAny M (A.over c fs) (eval iter env) (fun x s1 => wpAny M (A.over c fs) (pyIter x) (fun it s2 => ∀ p, Seg M A R Y n s₀ (.forLoop tg it body orelse env) (M.den (.forLoop tg it body orelse env))
      (.ret (fun r => ((match r with | .ok f => (.pure f : Sem Flow) | .error e => .raise e).onRaise fun (x : Value) => do
        if (← field x 1) == Value.none then unsupported "frame.own-activation:exception-without-traceback"
        setFlight x env.frame).wrap K H gd lv) none (gd false) (lv []) c p [] :: fs) s2) (fun x s' => Seg M A R Y n s₀ c (H x) fs s') s1) (fun x s' => Seg M A R Y n s₀ c (H x) fs s') s)
    (hs : ∀ x, foldedSetIterable iter env x = pure x := by intro _; rfl) :
    Seg M A R Y n s₀ c ((exec (.For tg iter body orelse pos) env).wrap K H gd lv) fs s := by
  rw [exec_For]
  refine seg_bind_wrap (wpAny_standAt ?_)
  refine seg_bind_wrap (wpAny_mono h (fun x s1 h1 => ?_) fun _ _ z => z)
  refine seg_bind_wrap (wpAny_of_eq (hs x) ?_)
  refine seg_bind_wrap (wpAny_standAt ?_)
  refine seg_bind_wrap (wpAny_holding (wpAny_mono h1 (fun it s2 h2 => ?_) fun _ _ z => z))
  exact seg_call h2
end
section
variable {prog : Program} {w : World} {A : Around} {R : GenEnd} {Y : Protocol} {n : Nat} {s₀ : Shared} {fs : List Frame} {s : Shared} {env : Env}
/-- what an exception does that leaves a turn -/
abbrev noted (env : Env) : Value → Sem PySem.Fin := fun e => (do noteFrame e env; theTreesLotGoes e : Sem Unit).wrap (fun _ => .raise e) .raise id id
theorem seg_forLoop {tg : Expr} {it : Value} {body : List Stmt}
    (h : wpAny (model prog w) (A.over (.forLoop tg it body [] env) fs) (pyNext it) (fun r s1 => match r with
        | none => Seg (model prog w) A R Y n s₀ (.block [] env) (.pure (.done .next)) fs s1
        | some v => wpAny (model prog w) (A.over (.forLoop tg it body [] env) fs) (letOwnedTupleGo tg it v) (fun _ s2 => wpAny (model prog w) (A.over (.forLoop tg it body [] env) fs) (assign tg env v) (fun _ s3 =>
            Seg (model prog w) A R Y n s₀ (.forLoop tg it body [] env) ((execs body env).wrap (fun f => match f with
              | .next | .cont => .pure (.again (.forLoop tg it body [] env))
              | .brk => .pure (.done .next)
              | .ret v => .pure (.done (.ret v))) (noted env) id id) fs s3)
            (fun x s' => Seg (model prog w) A R Y n s₀ (.forLoop tg it body [] env) (noted env x) fs s') s2) (fun x s' => Seg (model prog w) A R Y n s₀ (.forLoop tg it body [] env) (noted env x) fs s') s1)
      (fun x s' => Seg (model prog w) A R Y n s₀ (.forLoop tg it body [] env) (noted env x) fs s') s) :
    Seg (model prog w) A R Y n s₀ (.forLoop tg it body [] env) ((model prog w).den (.forLoop tg it body [] env)) fs s := by
  show Seg _ A R Y n s₀ _ ((forTurn tg it body [] env).onRaise (fun x => do noteFrame x env; theTreesLotGoes x)) fs s
  unfold forTurn
  rw [Sem.onRaise_eq_wrap]
  have eN : (fun e => (do noteFrame e env; theTreesLotGoes e : Sem Unit).bind fun _ => (.raise e : Sem PySem.Fin)) = noted env := funext fun e => Sem.bind_eq_wrap _ _
  refine seg_bind_wrap (wpAny_standAt ?_)
  refine seg_bind_wrap (wpAny_onRaise (wpAny_mono h (fun r s1 h1 => ?_) fun x s' h' => wpAny_standAt ?_))
  · cases r with
    | none =>
      dsimp only at h1 ⊢
      show Seg _ A R Y n s₀ _ (.pure (.again (.block [] env))) fs s1
      refine seg_again rfl ?_
      show Seg _ A R Y n s₀ _ (.pure (.done .next)) fs s1
      exact h1
    | some v =>
      dsimp only at h1 ⊢
      have ex : ∀ (x : Value) (s' : Shared), Seg (model prog w) A R Y n s₀ (.forLoop tg it body [] env) (noted env x) fs s' → Seg (model prog w) A R Y n s₀ (.forLoop tg it body [] env) ((do noteFrame x env; theTreesLotGoes x : Sem Unit).bind fun _ => (.raise x : Sem PySem.Fin)) fs s' := fun x s' hx => by
        rw [show ((do noteFrame x env; theTreesLotGoes x : Sem Unit).bind fun _ => (.raise x : Sem PySem.Fin)) = noted env x from congrFun eN x]
        exact hx
      refine seg_bind_wrap (wpAny_mono h1 (fun _ s2 h2 => ?_) fun x s' hx => ex x s' hx)
      refine seg_bind_wrap (wpAny_mono h2 (fun _ s3 h3 => ?_) fun x s' hx => ex x s' hx)
      rw [Sem.bind_eq_wrap', Sem.wrap_wrap]
      exact cast (congrArg (fun t => Seg (model prog w) A R Y n s₀ (.forLoop tg it body [] env) t fs s3) (Sem.wrap_congr (execs body env) id id (fun f => by cases f <;> rfl) fun e => (congrFun eN e).symm)) h3
  · show Seg _ A R Y n s₀ _ ((do noteFrame x env; theTreesLotGoes x : Sem Unit).bind fun _ => (.raise x : Sem PySem.Fin)) fs s'
    rw [show ((do noteFrame x env; theTreesLotGoes x : Sem Unit).bind fun _ => (.raise x : Sem PySem.Fin)) = noted env x from congrFun eN x]
    exact h'
end
end K6
namespace L2
open PySem PySem.Spec PyProof.Rows GenW
section
variable {X : Cx}
def tGFor (wi : TI) (g : TG) (tb : TGn) : TGn := fun D ys σ H => wi σ H fun J H1 => ∃ W : Nat → Nat → List V → St → Hp → Prop, (∃ m, W 0 m ys σ H1) ∧ ∀ i m ys σ H, W i m ys σ H →
  (J.stop i H ∧ D.nx ys σ H) ∨ (J.go i H ∧ ∃ N : List V → St → Hp → Prop, (∀ ys' σ' H', N ys' σ' H' → ∃ m', m' < m ∧ W (i + 1) m' ys' σ' H') ∧ ∀ x H', J.yld i H x H' → g x σ H' fun σ2 H2 => tb { D with nx := N, ct := N, bk := D.nx } ys σ2 H2)
theorem GI.sub {S : Addr} {ip pl : List (Addr × Obj)} {ys : List V} {σ : St} {H : Hp} {s : Shared} (h : GI X S (ip ++ pl) ys σ H s) : GI X S ip ys σ H s := by
  obtain ⟨acc, c, r, I⟩ := h
  refine ⟨acc, c, r, I.pins_of fun p hp => I.pin p (List.mem_append_right _ ?_)⟩
  rcases List.mem_cons.mp hp with z | z
  · rw [z]
    exact List.mem_cons_self
  · exact List.mem_cons_of_mem _ (List.mem_append_left _ z)
theorem gs_for {tg iter : Expr} {body : List Stmt} {pos : Pos} {wi : TI} {g : TG} {tb : TGn} (hp : PassesOwn (model X.prog X.w) X.A X.env X.xe) (hc : X.calm = true) (hi : PI X tg iter wi) (hg : PG X tg g) (hb : GSs X body tb)
    (hs : ∀ x, foldedSetIterable iter X.env x = pure x := by intro _; rfl) : GS X (.For tg iter body [] pos) (tGFor wi g tb) := by
  refine ⟨fun A S ip R n ys s₀ c fs K J gd lv s σ H D gc hn k hI ht => ?_⟩
  obtain ⟨acc, cc, r, I⟩ := hI
  refine K6.seg_For ?_ hs
  rw [gc.over]
  refine wpAny_mono (hi.run _ s σ H _ I ht) (fun v s1 h1 => ?_) fun x s' hx => k.exc n s₀ x s' hx
  refine wpAny_mono h1 (fun itv s2 h2 => ?_) fun x s' hx => k.exc n s₀ x s' hx
  obtain ⟨it, fp, tn, Jt, H2, e, I2, T, st2, f2, W, ⟨m0, w0⟩, turn⟩ := h2
  subst e
  intro p
  have gl := fun (ip' : List (Addr × Obj)) (g' : GC X S ip' A c fs gd) (kk : Result → Sem PySem.Fin) => gc_loop (k := kk) (c' := .forLoop tg (.ref it) body [] X.env) (l := lv []) (kp := []) (p := p) g' rfl rfl
  -- an iterator's object is not the consumer's list
  have apart : ∀ b ∈ fp, b ≠ S := fun b hb z => (f2 b hb).2.2.2.2.2 (S, lstObj acc cc) (List.mem_append_right _ List.mem_cons_self) z.symm
  have stat : ∀ {H' : Hp} {acc' : Array Value} {c' : Nat}, (∀ b ∈ fp, H' b = none) → ∀ b ∈ fp, FpOk X ((S, lstObj acc' c') :: ip) H' b := fun {H' acc' c'} hn b hb => by
    obtain ⟨_, a1, a2, a3, a4, a5⟩ := f2 b hb
    refine ⟨hn b hb, a1, a2, a3, a4, fun p hp => ?_⟩
    rcases List.mem_append.mp hp with z | z
    · exact a5 p (List.mem_append_left _ z)
    · rcases List.mem_cons.mp z with z | z
      · rw [z]
        exact (apart b hb).symm
      · exact a5 p (List.mem_append_right _ (List.mem_cons_of_mem _ z))
  have loop : ∀ (m i n : Nat) (ys : List V) (s₀ s : Shared) (σ : St) (H : Hp), n + ys.length = sizeLine → W i m ys σ H → GI X S ip ys σ H s → tn i s.heap → (∀ b ∈ fp, H b = none) →
      Seg (model X.prog X.w) A R (GY X S) n s₀ (.forLoop tg (.ref it) body [] X.env) ((model X.prog X.w).den (.forLoop tg (.ref it) body [] X.env))
        (.ret (fun r => ((match r with | .ok f => (.pure f : Sem Flow) | .error e => .raise e).onRaise (cameBack X.env)).wrap K J gd lv) none (gd false) (lv []) c p [] :: fs) s := by
    intro m
    induction m using Nat.strongRecOn with
    | ind m ih =>
      intro i n ys s₀ s3 σ3 H3 hn w hI st3 fr3
      have ee : ∀ (n : Nat) (s₀ : Shared) (x : Value) (s' : Shared), X.xe x s' → Seg (model X.prog X.w) A R (GY X S) n s₀ (.forLoop tg (.ref it) body [] X.env)
          (K6.noted X.env x)
          (.ret (fun r => ((match r with | .ok f => (.pure f : Sem Flow) | .error e => .raise e).onRaise (cameBack X.env)).wrap K J gd lv) none (gd false) (lv []) c p [] :: fs) s' := fun n s₀ x s' hx => by
        refine seg_wrap ?_
        rw [(gl ip gc _).over]
        refine wpAny_bind (wpAny_mono (hp x s' hx) (fun _ s'' hcb => wpAny_theTreesLotGoes ?_) fun y s'' hcb => ?_)
        · exact seg_leaf (.error x) (seg_cameBack gc k hcb)
        · exact seg_leaf (.error y) (seg_cameBack gc k hcb)
      refine K6.seg_forLoop ?_
      rw [(gl ip gc _).over]
      obtain ⟨acc, cc, r, I3⟩ := hI
      rcases turn i m ys σ3 H3 w with ⟨stop, qn⟩ | ⟨go, N, hN, step⟩
      · refine wpAny_mono (T.done X rfl rfl rfl hc i _ s3 σ3 H3 X.xe I3 (stat fr3) st3 stop) (fun r' s4 ⟨hr, I4⟩ => ?_) fun x s' hx => ee n s₀ x s' hx
        subst hr
        exact seg_leaf (.ok .next) (k.ok n ys s₀ s4 .next hn ⟨σ3, H3, ⟨acc, cc, r, I4⟩, qn⟩)
      · refine wpAny_mono (T.item X rfl rfl rfl hc i _ s3 σ3 H3 X.xe I3 (stat fr3) st3 go) (fun r' s4 ⟨u, hr, h4⟩ => ?_) fun x s' hx => ee n s₀ x s' hx
        subst hr
        refine wpAny_mono h4 (fun _ s5 ⟨x, H5, I5, r5, y5, st5, fr5⟩ => ?_) fun x s' hx => ee n s₀ x s' hx
        have I5' := I5.pinned (stat fr5) (T.obj _ _ st5)
        refine wpAny_mono (hg.run _ s5 σ3 H5 x u _ I5' r5 (step x H5 y5)) (fun _ s6 ⟨σ6, H6, I6, q6⟩ => ?_) fun x s' hx => ee n s₀ x s' hx
        have gc' : GC X S (ip ++ pinsAt fp s5.heap) A c fs gd := { gc with ip := fun p hp => (List.mem_append.mp hp).elim (fun z => gc.ip p z) fun z => apart p.1 (of_pinsAt z).1 }
        have back : ∀ {ys7 : List V} {σ7 : St} {H7 : Hp} {s7 : Shared}, GI X S (ip ++ pinsAt fp s5.heap) ys7 σ7 H7 s7 → GI X S ip ys7 σ7 H7 s7 ∧ tn (i + 1) s7.heap ∧ ∀ b ∈ fp, H7 b = none := fun {ys7 σ7 H7 s7} I7 => by
          refine ⟨I7.sub, ?_, fun b hb => ?_⟩
          · obtain ⟨acc7, c7, r7, J7⟩ := I7
            exact T.keep _ _ _ st5 fun b hb o e => (J7.pin (b, o) (List.mem_append_right _ (List.mem_cons_of_mem _ (List.mem_append_right _ (mem_pinsAt hb e))))).1
          · obtain ⟨acc7, c7, r7, J7⟩ := I7
            obtain ⟨o, e, d⟩ := T.obj _ _ st5 b hb
            exact (J7.pin (b, o) (List.mem_append_right _ (List.mem_cons_of_mem _ (List.mem_append_right _ (mem_pinsAt hb e))))).2.1
        refine hb.run A S (ip ++ pinsAt fp s5.heap) R n ys s₀ _ _ _ _ id id s6 σ6 H6 { D with nx := N, ct := N, bk := D.nx } (gl _ gc' _) hn ⟨fun n' ys' s₀' s7 f hn' hs => ?_, fun n' s₀' x s7 hx => ee n' s₀' x s7 hx⟩ ⟨acc, cc, r, I6⟩ q6
        cases f with
        | next =>
          obtain ⟨σ7, H7, I7, n7⟩ := hs
          obtain ⟨m', hm, w7⟩ := hN ys' σ7 H7 n7
          obtain ⟨b1, b2, b3⟩ := back I7
          exact seg_again rfl (ih m' hm (i + 1) n' ys' s₀' s7 σ7 H7 hn' w7 b1 b2 b3)
        | cont =>
          obtain ⟨σ7, H7, I7, n7⟩ := hs
          obtain ⟨m', hm, w7⟩ := hN ys' σ7 H7 n7
          obtain ⟨b1, b2, b3⟩ := back I7
          exact seg_again rfl (ih m' hm (i + 1) n' ys' s₀' s7 σ7 H7 hn' w7 b1 b2 b3)
        | brk =>
          obtain ⟨σ7, H7, I7, n7⟩ := hs
          exact seg_leaf (.ok .next) (k.ok n' ys' s₀' s7 .next hn' ⟨σ7, H7, (back I7).1, n7⟩)
        | ret v =>
          obtain ⟨x7, σ7, H7, I7, r7, n7⟩ := hs
          exact seg_leaf (.ok (.ret v)) (k.ok n' ys' s₀' s7 (.ret v) hn' ⟨x7, σ7, H7, (back I7).1, r7, n7⟩)
  exact loop m0 0 n ys s₀ s2 σ H2 hn w0 ⟨acc, cc, r, I2⟩ st2 fun b hb => (f2 b hb).1
end
end L2
namespace K6
open PySem PySem.Spec PyProof.Rows L2
/-! ### the text -/
def topS (i : Nat) : Stmt := PySem.Challenge.pw_stepletters_k05_errors_of_words.main.body.getD i (.Pass ⟨0, 0, 0, 0⟩)
abbrev sIsWhole : Stmt := topS 1
abbrev sIsInt : Stmt := topS 11
abbrev sBetween : Stmt := topS 12
abbrev sChkB : Stmt := topS 13
abbrev sIsLetters : Stmt := topS 21
abbrev sIsWord : Stmt := topS 22
abbrev sWDeg : Stmt := topS 23
abbrev sWLen : Stmt := topS 24
abbrev sWProd : Stmt := topS 25
abbrev sWordsOf : Stmt := topS 26
abbrev sWordCount : Stmt := topS 27
abbrev sEvenL : Stmt := topS 28
abbrev sOddL : Stmt := topS 29
abbrev sTopW : Stmt := topS 30
abbrev sSorted : Stmt := topS 31
abbrev sEach : Stmt := topS 32
abbrev sChkL : Stmt := topS 33
abbrev sChkW : Stmt := topS 34
abbrev sIsIndex : Stmt := topS 35
abbrev sIsExp : Stmt := topS 36
abbrev sIsPass : Stmt := topS 37
abbrev sOdds : Stmt := topS 38
abbrev sUnit : Stmt := topS 39
abbrev sDegOf : Stmt := topS 40
abbrev sLenOf : Stmt := topS 41
abbrev sJoined : Stmt := topS 42
abbrev sCount : Stmt := topS 43
abbrev sListed : Stmt := topS 44
abbrev sSuffix : Stmt := topS 45
abbrev sFirst : Stmt := topS 46
abbrev sNext : Stmt := topS 47
abbrev sCntW : Stmt := topS 48
abbrev sLeast : Stmt := topS 49
abbrev sRise : Stmt := topS 50
abbrev sIsInds : Stmt := topS 51
abbrev sDice : Stmt := topS 53
abbrev sRoll : Stmt := topS 54
abbrev sPick : Stmt := topS 55
abbrev sMet : Stmt := topS 56
abbrev sAreMet : Stmt := topS 57
abbrev sWordsR : Stmt := topS 58
abbrev sOthersR : Stmt := topS 59
abbrev sLaw : Stmt := topS 60
/-- what the top has written -/
structure Txt (K : PySem.W.Frag) (mg : Str → Option Value) : Prop where
  int : mg "int" = none
  bool : mg "bool" = none
  tuple : mg "tuple" = none
  list : mg "list" = none
  isi : mg "isinstance" = none
  len : mg "len" = none
  abs : mg "abs" = none
  max : mg "max" = none
  min : mg "min" = none
  range : mg "range" = none
  sum : mg "sum" = none
  all : mg "all" = none
  enumerate : mg "enumerate" = none
  reversed : mg "reversed" = none
  zip : mg "zip" = none
  repr : mg "repr" = none
  cLIMIT : ∃ t, mg "_LIMIT" = some (.int (10 ^ 60) t)
  cMAXLETTERS : ∃ t, mg "MAX_LETTERS" = some (.int (24) t)
  cMAXLETTER : ∃ t, mg "MAX_LETTER" = some (.int (40) t)
  cMAXDEGREE : ∃ t, mg "MAX_DEGREE" = some (.int (80) t)
  cMAXWORDS : ∃ t, mg "MAX_WORDS" = some (.int (400) t)
  cMAXPASSED : ∃ t, mg "_MAX_PASSED" = some (.int (400) t)
  cMAXINDICES : ∃ t, mg "_MAX_INDICES" = some (.int (40) t)
/-! ### the dice -/
/-- a list of three ints, the first one at least 0 -/
def DiceL (L : List V) : Prop := ∃ a b c : Int, L = [.int a, .int b, .int c] ∧ 0 ≤ a
def spRoll : Sp := fun vs H Q _ => ∃ (d : Addr) (n : Int) (L : List V), vs = [.ref d, .int n] ∧ 0 < n ∧ n.natAbs < 2 ^ 500 ∧ H d = some (.lst L) ∧ DiceL L ∧
  ∀ (i : Int) (L' : List V), 0 ≤ i → i < n → DiceL L' → Q (.int i) (upd H d (.lst L'))
theorem scRoll : FnScope ["dice", "total", "found", "one", "two"] ["dice", "total"] (defScope sRoll) := ⟨rfl, rfl, rfl, by decide +kernel, rfl, by decide +kernel, by decide +kernel⟩
theorem bootInt : bootBuiltins "int" = some (.type "int") := by decide +kernel
section
variable {P : Program} {w : World} {K : PySem.W.Frag} {mg : Str → Option Value} {base : Heap}
theorem ok_roll {f : Addr} {fd : FuncData} (F : Fun K "_law_roll" "_law_roll" sRoll f fd) (T : Txt K mg) : FnOk P w K mg base CX0 1 f fd ["dice", "total"] spRoll := by
  refine F.ok scRoll (fun vs H Q E h => ?_) (fun cdv A outer s H vs Q E hr h => ?_)
  · obtain ⟨d, n, L, rfl, _⟩ := h; rfl
  obtain ⟨d, n, L, rfl, hn, hb, hd, ⟨a, b, c, rfl, ha⟩, k⟩ := h
  refine ⟨_, pss_cons (ps_if (pt_cmpR op_gt (pe_ix ix_list (pv 0) pe_int (fun _ _ => rfl)) pe_int (nomark _))
      (pss_cons (ps_set (i := 2) scRoll.nd rfl (.inl rfl) (pe_op op_mod (pe_callTy call_int1 (by rfl) T.int bootInt (pa_cons (pe_ix ix_list (pv 0) pe_int (fun _ _ => rfl)) pa_nil)) (pv 1)))
      (pss_cons (ps_asg (pe_op op_fdivW (pe_ix ix_list (pv 0) pe_int (fun _ _ => rfl)) (pv 1)) (pg_sub (pv 0) pe_int set_list))
      (pss_one (ps_ret (pv 2))))) pss_nil)
    (pss_cons (ps_asg (pe_op op_add (pe_ix ix_list (pv 0) pe_int (fun _ _ => rfl)) pe_int) (pg_sub (pv 0) pe_int set_list))
    (pss_cons (ps_set (i := 3) scRoll.nd rfl (.inl rfl) (pe_op op_mod (pe_callTy call_int1 (by rfl) T.int bootInt (pa_cons (pe_op op_add (pe_ix ix_list (pv 0) pe_int (fun _ _ => rfl)) (pe_op op_mul pe_int (pe_ix ix_list (pv 0) pe_int (fun _ _ => rfl)))) pa_nil)) pe_int))
    (pss_cons (ps_set (i := 4) scRoll.nd rfl (.inl rfl) (pe_op op_add (pe_op op_mul (pe_op op_mod (pe_callTy call_int1 (by rfl) T.int bootInt (pa_cons (pe_op op_add (pe_op op_mul (pv 3) (pv 3)) (pe_op op_mul pe_int (pe_ix ix_list (pv 0) pe_int (fun _ _ => rfl)))) pa_nil)) pe_int) pe_int) (pv 3)))
    (pss_one (ps_ret (pe_op op_mod (pe_callTy call_int1 (by rfl) T.int bootInt (pa_cons (pe_op op_fdiv (pv 4) pe_int) pa_nil)) (pv 1))))))), ?_⟩
  have S := SqL.of (K := K) hd
  refine ⟨_, rfl, d, _, _, _, rfl, rfl, S, rfl, _, _, rfl, rfl, _, rfl, ?_⟩
  refine ite2 (fun c0 => ?_) (fun c0 => ?_)
  · refine ⟨_, rfl, d, _, _, _, rfl, rfl, S, rfl, .inl ⟨_, rfl, _, rfl, _, _, rfl, rfl, hn, ?_⟩⟩
    refine ⟨_, rfl, d, _, _, _, rfl, rfl, S, rfl, _, rfl, _, _, rfl, rfl, wide_div hn hb (by decide) (by decide), _, rfl, d, _, _, 0, rfl, rfl, hd, rfl, _, rfl, ?_⟩
    refine k _ _ (Int.emod_nonneg _ (by omega)) (Int.emod_lt_of_pos _ hn) ⟨_, _, _, rfl, ?_⟩
    exact Int.ediv_nonneg ha (by omega)
  · refine ⟨_, rfl, d, _, _, _, rfl, rfl, S, rfl, _, _, rfl, rfl, _, rfl, d, _, _, 2, rfl, rfl, hd, rfl, ?_⟩
    have S2 := SqL.of (K := K) (upd_same (H := H) (a := d) (o := .lst [.int a, .int b, .int (c + 1)]))
    refine ⟨_, rfl, d, _, _, _, rfl, rfl, S2, rfl, _, rfl, d, _, _, _, rfl, rfl, S2, rfl, _, _, rfl, rfl, .inl ⟨by decide, by decide⟩, _, _, rfl, rfl, .inl ⟨_, rfl, _, _, rfl, rfl, (by show (0 : Int) < 2305843009213693723; decide), ?_⟩⟩
    have m1 := Int.emod_lt_of_pos (b + 67867979 * (c + 1)) (show (0 : Int) < 2305843009213693723 by decide)
    have m0 := Int.emod_nonneg (b + 67867979 * (c + 1)) (show (2305843009213693723 : Int) ≠ 0 by decide)
    generalize ez : (b + 67867979 * (c + 1)) % 2305843009213693723 = z at *
    refine ⟨_, rfl, _, rfl, _, _, rfl, rfl, .inl ⟨by omega, by omega⟩, _, rfl, d, _, _, _, rfl, rfl, S2, rfl, _, _, rfl, rfl, .inl ⟨by decide, by decide⟩, _, _, rfl, rfl, .inl ⟨_, rfl, _, _, rfl, rfl, (by show (0 : Int) < 2305843009213693549; decide), ?_⟩⟩
    have y1 := Int.emod_lt_of_pos (z * z + 103 * (c + 1)) (show (0 : Int) < 2305843009213693549 by decide)
    have y0 := Int.emod_nonneg (z * z + 103 * (c + 1)) (show (2305843009213693549 : Int) ≠ 0 by decide)
    generalize ey : (z * z + 103 * (c + 1)) % 2305843009213693549 = y at *
    refine ⟨_, _, rfl, rfl, .inl ⟨by omega, by omega⟩, _, rfl, _, _, rfl, rfl, ?_⟩
    refine ⟨_, rfl, _, _, rfl, rfl, ⟨by decide, by decide⟩, .inl ⟨_, rfl, _, rfl, _, _, rfl, rfl, hn, ?_⟩⟩
    exact k _ _ (Int.emod_nonneg _ (by omega)) (Int.emod_lt_of_pos _ hn) ⟨_, _, _, rfl, ha⟩
end

theorem bootMax : bootBuiltins "max" = some (.builtin "max") := by decide +kernel
theorem bootAbs : bootBuiltins "abs" = some (.builtin "abs") := by decide +kernel
theorem bootStr : bootBuiltins "str" = some (.type "str") := by decide +kernel
/-! ### making, picking, near -/
def spDice (K : PySem.W.Frag) : Sp := fun vs H Q _ => ∃ (a : Addr) (i : Int) (ns : List Int), vs = [.ref a, .int i] ∧ SqL K H a (ns.map V.int) ∧ 0 ≤ i ∧
  ∀ (L : List V) (p : Addr), DiceL L → H p = none → Q (.ref p) (upd H p (.lst L))
def spPick : Sp := fun vs H Q _ => ∃ (d l : Addr) (xs L : List V), vs = [.ref d, .ref l] ∧ H d = some (.lst L) ∧ DiceL L ∧ H l = some (.lst xs) ∧ l ≠ d ∧ xs ≠ [] ∧ xs.length < 1000 ∧
  ∀ (x : V) (L' : List V), x ∈ xs → DiceL L' → Q x (upd H d (.lst L'))
theorem scDice : FnScope ["script", "spot", "cell", "left"] ["script", "spot"] (defScope sDice) := ⟨rfl, rfl, rfl, by decide +kernel, rfl, by decide +kernel, by decide +kernel⟩
theorem scPick : FnScope ["dice", "items"] ["dice", "items"] (defScope sPick) := ⟨rfl, rfl, rfl, by decide +kernel, rfl, by decide +kernel, by decide +kernel⟩
section
variable {P : Program} {w : World} {K : PySem.W.Frag} {mg : Str → Option Value} {base : Heap}
theorem ok_dice {f : Addr} {fd : FuncData} (F : Fun K "_law_dice" "_law_dice" sDice f fd) (T : Txt K mg) : FnOk P w K mg base CX0 1 f fd ["script", "spot"] (spDice K) := by
  refine F.ok scDice (fun vs H Q E h => ?_) (fun cdv A outer s H vs Q E hr h => ?_)
  · obtain ⟨d, n, L, rfl, _⟩ := h; rfl
  obtain ⟨a, i, ns, rfl, hS, hi, k⟩ := h
  refine ⟨_, pss_cons (ps_set (i := 2) scDice.nd rfl (.inl rfl) (pe_ifExp (pt_cmpR op_lt (pv 1) (pe_callB call_len_seq (by rfl) T.len PySem.boot_len (pa_cons (pv 0) pa_nil)) (nomark _))
      (pe_callTy call_int1 (by rfl) T.int bootInt (pa_cons (pe_ix ix_list (pv 0) (pv 1) (fun _ _ => rfl)) pa_nil)) (pe_op op_add (pe_op op_mul pe_int (pv 1)) pe_int)))
    (pss_cons (ps_set (i := 3) scDice.nd rfl (.inl rfl) (pe_op op_mod (pe_callB (call_max2 rfl) (by rfl) T.max bootMax (pa_cons pe_int (pa_cons (pe_op op_sub (pe_callB call_abs (by rfl) T.abs bootAbs (pa_cons (pv 2) pa_nil)) (pe_op op_pow pe_int pe_int)) pa_nil)))
        (pe_op op_mulW (pe_op op_pow pe_int pe_int) (pe_op op_pow pe_int pe_int))))
    (pss_one (ps_ret (pe_lst (pa_cons (pv 3) (pa_cons (pe_op op_add (pe_op op_add (pe_op op_add (pe_op op_mul (pe_op op_mod (pe_callB call_abs (by rfl) T.abs bootAbs (pa_cons (pv 2) pa_nil)) pe_int) pe_int) (pe_op op_mul pe_int (pv 1)))
        (pe_op op_mul pe_int (pe_callTy call_int1 (by rfl) T.int bootInt (pa_cons (pe_cmpR op_lt (pv 2) pe_int (nomark _)) pa_nil)))) pe_int) (pa_cons pe_int pa_nil))))))), ?_⟩
  have rest : ∀ (c : Int), tSeq (tAsg (tOp (rI (fun _ j => 0 < j) fun i j => .int (i % j)) (tCB (fun xs H Q => ∃ i j, xs = [.int i, .int j] ∧ Q (.int (if j > i then j else i)) H) (tCons (tC (.int 0)) (tCons (tOp (rI0 fun i j => .int (i - j)) (tCB (fun xs H Q => ∃ i, xs = [.int i] ∧ Q (.int (if i < 0 then -i else i)) H) (tCons (tVar 2) tNil)) (tOp (rI CPow fun i j => .int (i ^ j.toNat)) (tC (.int 10)) (tC (.int 17)))) tNil)))
        (tOp (rI CMulW fun i j => .int (i * j)) (tOp (rI CPow fun i j => .int (i ^ j.toNat)) (tC (.int 10)) (tC (.int 58))) (tOp (rI CPow fun i j => .int (i ^ j.toNat)) (tC (.int 10)) (tC (.int 60))))) (gName 3))
      (tRet (tLst (tCons (tVar 3) (tCons (tOp (rI0 fun i j => .int (i + j)) (tOp (rI0 fun i j => .int (i + j)) (tOp (rI0 fun i j => .int (i + j)) (tOp (rI CMul fun i j => .int (i * j)) (tOp (rI (fun _ j => 0 < j) fun i j => .int (i % j)) (tCB (fun xs H Q => ∃ i, xs = [.int i] ∧ Q (.int (if i < 0 then -i else i)) H) (tCons (tVar 2) tNil)) (tC (.int 1152921504606846883))) (tC (.int 67))) (tOp (rI CMul fun i j => .int (i * j)) (tC (.int 937)) (tVar 1)))
        (tOp (rI CMul fun i j => .int (i * j)) (tC (.int 37)) (tCB (fun xs H Q => (∃ i, xs = [.int i] ∧ Q (.int i) H) ∨ ∃ k, xs = [.bl k] ∧ Q (.int (if k then 1 else 0)) H) (tCons (tOp (rI0 fun i j => .bl (decide (i < j))) (tVar 2) (tC (.int 0))) tNil)))) (tC (.int 29))) (tCons (tC (.int 0)) tNil)))))
      { nx := fun _ H' => Q .non H', rt := Q } [some (.ref a), some (.int i), some (.int c), none] H := fun c => by
    have pw : ∀ k : Int, 0 ≤ k → k ≤ 1000000 → CPow 10 k := fun k h1 h2 => ⟨h1, h2, by decide⟩
    refine ⟨_, rfl, _, rfl, _, _, rfl, rfl, pw _ (by decide) (by decide), _, _, rfl, rfl, _, _, rfl, _, _, rfl, rfl, pw _ (by decide) (by decide), _, _, rfl, rfl, pw _ (by decide) (by decide), _, _, rfl, rfl,
      wide_mul (i := 10 ^ (58 : Int).toNat) (j := 10 ^ (60 : Int).toNat) (a := 300) (b := 300) (by decide +kernel) (by decide +kernel) (by decide) (by decide) (by decide), _, _, rfl, rfl, (by show (0 : Int) < 10 ^ (58 : Int).toNat * 10 ^ (60 : Int).toNat; decide +kernel), ?_⟩
    have nn := Int.emod_nonneg (if (if c < 0 then -c else c) - 10 ^ (17 : Int).toNat > 0 then (if c < 0 then -c else c) - 10 ^ (17 : Int).toNat else 0) (show (10 : Int) ^ (58 : Int).toNat * 10 ^ (60 : Int).toNat ≠ 0 by decide +kernel)
    have m1 := Int.emod_lt_of_pos (if c < 0 then -c else c) (show (0 : Int) < 1152921504606846883 by decide)
    have m0 := Int.emod_nonneg (if c < 0 then -c else c) (show (1152921504606846883 : Int) ≠ 0 by decide)
    refine ⟨_, rfl, _, rfl, _, rfl, _, _, rfl, rfl, (by show (0 : Int) < 1152921504606846883; decide), _, _, rfl, rfl, .inr ⟨by decide, by decide⟩, _, rfl, _, _, rfl, rfl, .inl ⟨by decide, by decide⟩, _, _, rfl, rfl, _, rfl, _, _, rfl, rfl, .inr ⟨_, rfl, _, _, rfl, rfl, .inl ⟨by decide, by decide⟩, _, _, rfl, rfl, _, _, rfl, rfl, ?_⟩⟩
    exact ⟨by show 3 ≤ sizeLine; decide, fun p hp => k _ p ⟨_, _, _, rfl, nn⟩ hp⟩
  refine ⟨_, rfl, _, rfl, a, _, rfl, .inl hS, _, _, rfl, rfl, _, rfl, ?_⟩
  refine ite2 (fun c0 => ?_) (fun c0 => ?_)
  · have c1 : i < ((ns.map V.int).length : Int) := of_decide_eq_true c0
    rw [List.length_map] at c1
    have c2 : i.toNat < ns.length := by omega
    have e : (ns.map V.int)[i.toNat]? = some (.int ns[i.toNat]) := by rw [List.getElem?_map, List.getElem?_eq_getElem c2]; rfl
    exact ⟨_, rfl, _, rfl, a, _, _, _, rfl, rfl, hS, at_of (by omega) e, .inl ⟨_, rfl, rest _⟩⟩
  · exact ⟨_, rfl, _, _, rfl, rfl, .inl ⟨by decide, by decide⟩, _, _, rfl, rfl, rest _⟩
theorem ok_pick {f fR : Addr} {fd fdR : FuncData} (F : Fun K "_law_pick" "_law_pick" sPick f fd) (T : Txt K mg) (gR : mg "_law_roll" = some (.ref fR)) (kR : PySem.W.keepIn K (.ref fR) = true) (bR : Binds K fdR ["dice", "total"] [])
    (R : FnOk P w K mg base CX0 1 fR fdR ["dice", "total"] spRoll) : FnOk P w K mg base CX0 2 f fd ["dice", "items"] spPick := by
  refine F.ok scPick (fun vs H Q E h => ?_) (fun cdv A outer s H vs Q E hr h => ?_)
  · obtain ⟨d, n, L, M, rfl, _⟩ := h; rfl
  obtain ⟨d, l, xs, L, rfl, hd, hL, hl, ne, h0, hz, k⟩ := h
  refine ⟨_, pss_one (ps_ret (pe_ix ix_list (pv 1) (pe_call R hr (by rfl) gR kR bR .nil pass0 (pa_cons (pv 0) (pa_cons (pe_callB call_len_seq (by rfl) T.len PySem.boot_len (pa_cons (pv 1) pa_nil)) pa_nil))) (fun _ _ => rfl))), ?_⟩
  have hp : 0 < xs.length := List.length_pos_iff.mpr h0
  refine ⟨_, rfl, _, rfl, _, rfl, l, _, rfl, .inl (SqL.of hl), d, (xs.length : Int), L, rfl, by omega, Nat.lt_trans (by omega : (xs.length : Int).natAbs < 1000) (by decide), hd, hL, fun i L' i0 i1 hL' => ?_⟩
  have hx : xs[i.toNat]? = some xs[i.toNat] := List.getElem?_eq_getElem (by omega)
  exact ⟨l, _, _, _, rfl, rfl, SqL.of (by rw [upd_ne ne]; exact hl), at_of (by omega) hx, k _ L' (List.getElem_mem _) hL'⟩

end
end K6
namespace K6
open PySem PySem.Spec PyProof.Rows L2
/-! ### values of any kind -/
inductive Vk (K : PySem.W.Frag) (H : Hp) : V → Prop
  | non : Vk K H .non
  | bl (b : Bool) : Vk K H (.bl b)
  | int (i : Int) : Vk K H (.int i)
  | str (z : Str) : Vk K H (.str z)
  | tup {a : Addr} {xs : List V} (h : SqT K H a xs) : Vk K H (.ref a)
  | lst {a : Addr} {xs : List V} (h : H a = some (.lst xs)) : Vk K H (.ref a)
  | dic {a : Addr} {kvs : List (Key × V)} (h : H a = some (.dK kvs)) : Vk K H (.ref a)
def isI : V → Bool
  | .int _ => true
  | _ => false
theorem tyT {K : PySem.W.Frag} {H : Hp} {a : Addr} {xs : List V} (h : SqT K H a xs) : TyX K H (.ref a) (.type "tuple") := by
  rcases h with (h | ⟨o, h⟩) | ⟨o, its, n, h1, h2, _⟩
  · exact .base (.tup h)
  · exact .fTuple h
  · exact .kTuple h1 h2
/-- the name of the type, and what isinstance says of int, bool and tuple -/
def isT : V → Bool
  | .ref _ => true
  | _ => false
theorem vk_ty {K : PySem.W.Frag} {H : Hp} {x : V} (h : Vk K H x) : ∃ T : String, TyX K H x (.type T) ∧ ∃ bi bb : Bool, kitB T "int" = some bi ∧ kitB T "bool" = some bb ∧ (bi && !bb) = isI x := by
  cases h with
  | non => exact ⟨"NoneType", .base .non, false, false, by decide +kernel, by decide +kernel, rfl⟩
  | bl b => exact ⟨"bool", .base (.bl _), true, true, by decide +kernel, by decide +kernel, rfl⟩
  | int i => exact ⟨"int", .base (.int _), true, false, by decide +kernel, by decide +kernel, rfl⟩
  | str z => exact ⟨"str", .base (.str _), false, false, by decide +kernel, by decide +kernel, rfl⟩
  | tup h => exact ⟨"tuple", tyT h, false, false, by decide +kernel, by decide +kernel, rfl⟩
  | lst h => exact ⟨"list", .base (.lst h), false, false, by decide +kernel, by decide +kernel, rfl⟩
  | dic h => exact ⟨"dict", .base (.dK h), false, false, by decide +kernel, by decide +kernel, rfl⟩
/-- integers of at most sixty digits -/
def i60 : V → Bool
  | .int i => decide (-(10 ^ 60) < i) && decide (i < 10 ^ 60)
  | _ => false
def spIsWhole (K : PySem.W.Frag) : Sp := fun vs H Q _ => ∃ x : V, vs = [x] ∧ Vk K H x ∧ Q (.bl (isI x)) H
def spIsInt (K : PySem.W.Frag) : Sp := fun vs H Q _ => ∃ x : V, vs = [x] ∧ Vk K H x ∧ Q (.bl (i60 x)) H
theorem scIsWhole : FnScope ["value"] ["value"] (defScope sIsWhole) := ⟨rfl, rfl, rfl, by decide +kernel, rfl, by decide +kernel, by decide +kernel⟩
theorem scIsInt : FnScope ["value"] ["value"] (defScope sIsInt) := ⟨rfl, rfl, rfl, by decide +kernel, rfl, by decide +kernel, by decide +kernel⟩
theorem bootIsi : bootBuiltins "isinstance" = some (.builtin "isinstance") := by decide +kernel
theorem bootBool : bootBuiltins "bool" = some (.type "bool") := by decide +kernel
theorem bootTuple : bootBuiltins "tuple" = some (.type "tuple") := by decide +kernel
def betw (x : V) (a b : Int) : Bool := match x with
  | .int i => i60 (.int i) && (decide (a ≤ i) && decide (i ≤ b))
  | _ => false
def spBetw (K : PySem.W.Frag) : Sp := fun vs H Q _ => ∃ (x : V) (a b : Int), vs = [x, .int a, .int b] ∧ Vk K H x ∧ Q (.bl (betw x a b)) H
theorem scBetw : FnScope ["value", "least", "most"] ["value", "least", "most"] (defScope sBetween) := ⟨rfl, rfl, rfl, by decide +kernel, rfl, by decide +kernel, by decide +kernel⟩
section
variable {P : Program} {w : World} {K : PySem.W.Frag} {mg : Str → Option Value} {base : Heap}
theorem ok_iswhole {f : Addr} {fd : FuncData} (F : Fun K "is_whole" "is_whole" sIsWhole f fd) (T : Txt K mg) : FnOk P w K mg base CX0 1 f fd ["value"] (spIsWhole K) := by
  refine F.ok scIsWhole (fun vs H Q E h => ?_) (fun cdv A outer s H vs Q E hr h => ?_)
  · obtain ⟨a, rfl, _⟩ := h; rfl
  obtain ⟨x, rfl, hx, k⟩ := h
  refine ⟨_, pss_one (ps_ret (pe_and (pe_callB call_isi (by rfl) T.isi bootIsi (pa_cons (pv 0) (pa_cons (pe_bltn (v := .ty "int") (by rfl) T.int bootInt rfl) pa_nil)))
    (pe_one (pe_not (pe_callB call_isi (by rfl) T.isi bootIsi (pa_cons (pv 0) (pa_cons (pe_bltn (v := .ty "bool") (by rfl) T.bool bootBool rfl) pa_nil))))))), ?_⟩
  obtain ⟨Ty, ty, bi, bb, e1, e2, e3⟩ := vk_ty hx
  refine ⟨_, rfl, x, _, _, _, bi, rfl, .ty "int", ty, kit_ty e1, _, rfl, ?_⟩
  cases bi with
  | false =>
    refine iteF ?_
    have e4 : isI x = false := by rw [← e3]; rfl
    rw [← e4]
    exact k
  | true =>
    refine iteT ⟨_, rfl, x, _, _, _, bb, rfl, .ty "bool", ty, kit_ty e2, _, rfl, ?_⟩
    have e4 : isI x = !bb := by rw [← e3]; rfl
    rw [← e4]
    exact k
theorem ok_isint {f fW : Addr} {fd fdW : FuncData} (F : Fun K "is_integer" "is_integer" sIsInt f fd) (T : Txt K mg) (gW : mg "is_whole" = some (.ref fW)) (kW : PySem.W.keepIn K (.ref fW) = true) (bW : Binds K fdW ["value"] [])
    (W : FnOk P w K mg base CX0 1 fW fdW ["value"] (spIsWhole K)) : FnOk P w K mg base CX0 2 f fd ["value"] (spIsInt K) := by
  refine F.ok scIsInt (fun vs H Q E h => ?_) (fun cdv A outer s H vs Q E hr h => ?_)
  · obtain ⟨a, rfl, _⟩ := h; rfl
  obtain ⟨x, rfl, hx, k⟩ := h
  obtain ⟨t, hB⟩ := T.cLIMIT
  refine ⟨_, pss_one (ps_ret (pe_and (pe_call W hr (by rfl) gW kW bW .nil pass0 (pa_cons (pv 0) pa_nil))
    (pe_one (pe_chain op_lt op_lt (pe_un un_neg (pe_glob (v := .int (10 ^ 60)) (by rfl) hB ⟨_, rfl⟩)) (pv 0) (pe_glob (v := .int (10 ^ 60)) (by rfl) hB ⟨_, rfl⟩))))), ?_⟩
  refine ⟨_, rfl, x, rfl, hx, _, rfl, ?_⟩
  cases x with
  | int i =>
    refine iteT ⟨_, rfl, _, rfl, _, _, rfl, rfl, _, rfl, ?_⟩
    have q : Q (.bl (decide (-(10 ^ 60) < i) && decide (i < 10 ^ 60))) H := k
    by_cases c : -(10 ^ 60 : Int) < i
    · rw [decide_eq_true c] at q ⊢
      exact iteT ⟨_, _, rfl, rfl, q⟩
    · rw [decide_eq_false c] at q ⊢
      exact iteF q
  | non => exact iteF k
  | bl b => exact iteF k
  | str z => exact iteF k
  | byt z => exact iteF k
  | flt z => exact iteF k
  | ref a => exact iteF k
  | ty n => exact iteF k
theorem ok_betw {f fW : Addr} {fd fdW : FuncData} (F : Fun K "is_between" "is_between" sBetween f fd) (gW : mg "is_integer" = some (.ref fW)) (kW : PySem.W.keepIn K (.ref fW) = true) (bW : Binds K fdW ["value"] [])
    (W : FnOk P w K mg base CX0 2 fW fdW ["value"] (spIsInt K)) : FnOk P w K mg base CX0 3 f fd ["value", "least", "most"] (spBetw K) := by
  refine F.ok scBetw (fun vs H Q E h => ?_) (fun cdv A outer s H vs Q E hr h => ?_)
  · obtain ⟨a, b, c, rfl, _⟩ := h; rfl
  obtain ⟨x, a, b, rfl, hx, k⟩ := h
  refine ⟨_, pss_one (ps_ret (pe_and (pe_call W hr (by rfl) gW kW bW .nil pass0 (pa_cons (pv 0) pa_nil)) (pe_one (pe_chain op_le op_le (pv 1) (pv 0) (pv 2))))), ?_⟩
  refine ⟨_, rfl, x, rfl, hx, _, rfl, ?_⟩
  cases x with
  | int i =>
    have q : Q (.bl (i60 (.int i) && (decide (a ≤ i) && decide (i ≤ b)))) H := k
    cases c0 : i60 (.int i) with
    | false =>
      rw [c0] at q
      exact iteF q
    | true =>
      rw [c0] at q
      refine iteT ⟨_, rfl, _, rfl, _, _, rfl, rfl, _, rfl, ?_⟩
      by_cases c : a ≤ i
      · rw [decide_eq_true c] at q ⊢
        exact iteT ⟨_, rfl, _, _, rfl, rfl, q⟩
      · rw [decide_eq_false c] at q ⊢
        exact iteF q
  | non => exact iteF k
  | bl b => exact iteF k
  | str z => exact iteF k
  | byt z => exact iteF k
  | flt z => exact iteF k
  | ref a => exact iteF k
  | ty n => exact iteF k
end
end K6
namespace K6
open PySem PySem.Spec PyProof.Rows L2
theorem _root_.L2.Same.new {H : Hp} {p : Addr} {o : HO} (h : H p = none) : Same H (upd H p o) := fun b u e => by
  rw [upd_ne (ne_of_none e h)]
  exact e
theorem Vk.mono {K : PySem.W.Frag} {H H' : Hp} {x : V} (h : Vk K H x) (s : Same H H') : Vk K H' x := by
  cases h with
  | non => exact .non
  | bl b => exact .bl b
  | int i => exact .int i
  | str z => exact .str z
  | tup h =>
    rcases h with (h | ⟨o, h⟩) | h
    · exact .tup (.inl (.inl (s _ _ h)))
    · exact .tup (.inl (.inr ⟨o, s _ _ h⟩))
    · exact .tup (.inr h)
  | lst h => exact .lst (s _ _ h)
  | dic h => exact .dic (s _ _ h)
theorem tupSame {K : PySem.W.Frag} {H H' : Hp} {a : Addr} {xs : List V} (s : Same H H') (h : SqT K H a xs) : SqT K H' a xs := by
  rcases h with (h | ⟨o, h⟩) | h
  · exact .inl (.inl (s _ _ h))
  · exact .inl (.inr ⟨o, s _ _ h⟩)
  · exact .inr h
theorem bootAll : bootBuiltins "all" = some (.builtin "all") := by decide +kernel
theorem bootSum : bootBuiltins "sum" = some (.builtin "sum") := by decide +kernel
theorem bootList : bootBuiltins "list" = some (.type "list") := by decide +kernel
theorem bootMin : bootBuiltins "min" = some (.builtin "min") := by decide +kernel
/-- what is_letters says -/
inductive LetIs (K : PySem.W.Frag) (H : Hp) : V → Bool → Prop
  | non : LetIs K H .non false
  | bl (b : Bool) : LetIs K H (.bl b) false
  | int (i : Int) : LetIs K H (.int i) false
  | str (z : Str) : LetIs K H (.str z) false
  | lst {a : Addr} {xs : List V} (h : H a = some (.lst xs)) : LetIs K H (.ref a) false
  | dic {a : Addr} {kvs : List (Key × V)} (h : H a = some (.dK kvs)) : LetIs K H (.ref a) false
  | long {a : Addr} {xs : List V} (h : SqT K H a xs) (n : 24 < xs.length) : LetIs K H (.ref a) false
  | tup {a : Addr} {xs : List V} (h : SqT K H a xs) (n : xs.length ≤ 24) (v : ∀ x ∈ xs, Vk K H x) : LetIs K H (.ref a) (xs.all fun x => betw x 1 40)
def spIsLet (K : PySem.W.Frag) : Sp := fun vs H Q _ => ∃ (x : V) (b : Bool), vs = [x] ∧ LetIs K H x b ∧ ∀ H', Same H H' → Q (.bl b) H'
theorem scIsLet : FnScope ["value", "degree"] ["value"] (defScope sIsLetters) := ⟨rfl, rfl, rfl, by decide +kernel, rfl, by decide +kernel, by decide +kernel⟩
/-- the list that a comprehension of booleans makes, behind i turns -/
def blT (f : V → Bool) (xs : List V) : HO := .lst (xs.map fun x => V.bl (f x))
theorem take_snoc {α : Type} {xs : List α} {i : Nat} {x : α} (h : xs[i]? = some x) : xs.take (i + 1) = xs.take i ++ [x] := by
  rw [List.take_add_one, h]
  rfl
section
variable {P : Program} {w : World} {K : PySem.W.Frag} {mg : Str → Option Value} {base : Heap}
theorem ok_isletters {f fB : Addr} {fd fdB : FuncData} (F : Fun K "is_letters" "is_letters" sIsLetters f fd) (T : Txt K mg) (gB : mg "is_between" = some (.ref fB)) (kB : PySem.W.keepIn K (.ref fB) = true) (bB : Binds K fdB ["value", "least", "most"] [])
    (B : FnOk P w K mg base CX0 3 fB fdB ["value", "least", "most"] (spBetw K)) : FnOk P w K mg base CX0 4 f fd ["value"] (spIsLet K) := by
  refine F.ok scIsLet (fun vs H Q E h => ?_) (fun cdv A outer s H vs Q E hr h => ?_)
  · obtain ⟨a, b, rfl, _⟩ := h; rfl
  obtain ⟨x, b, rfl, hx, k⟩ := h
  obtain ⟨t1, m1⟩ := T.cMAXLETTERS
  obtain ⟨t2, m2⟩ := T.cMAXLETTER
  refine ⟨_, pss_cons (ps_if (PW.pt (pw_or (pt_not (pt_val (pe_callB call_isi (by rfl) T.isi bootIsi (pa_cons (pv 0) (pa_cons (pe_bltn (v := .ty "tuple") (by rfl) T.tuple bootTuple rfl) pa_nil)))))
        (pw_or1 (pt_cmpR op_gt (pe_callB call_len_seq (by rfl) T.len PySem.boot_len (pa_cons (pv 0) pa_nil)) (pe_glob (v := .int 24) (by rfl) m1 ⟨_, rfl⟩) (nomark _))))) (pss_one (ps_ret pe_bl)) pss_nil)
    (pss_one (ps_ret (pe_callB (cr_all rfl) (by rfl) T.all bootAll (pa_cons (pe_lc (own := [("degree", 1)]) (g := gName 1) rfl scIsLet.nd (pi_tup (pv 0)) (blkOk_by (N := ["value", "degree"]) (sc := defScope sIsLetters) (by decide +kernel)) (fun _ _ _ _ _ => pg_name (i := 1) scIsLet.nd rfl (Or.inl rfl)) (fun _ _ _ _ _ => pts_nil)
      (fun _ _ _ _ _ => pe_call B hr (by rfl) gB kB bB .nil pass0 (by exact (pa_cons (pv 1) (pa_cons pe_int (pa_cons (pe_glob (v := .int 40) (by rfl) m2 ⟨_, rfl⟩) pa_nil)))))) pa_nil)))), ?_⟩
  have no := k H (Same.refl H)
  cases hx with
  | non => exact ⟨_, rfl, _, _, _, _, false, rfl, .ty "tuple", .base .non, kit_ty (by decide +kernel), _, rfl, iteT (iteT no)⟩
  | bl b => exact ⟨_, rfl, _, _, _, _, false, rfl, .ty "tuple", .base (.bl _), kit_ty (by decide +kernel), _, rfl, iteT (iteT no)⟩
  | int i => exact ⟨_, rfl, _, _, _, _, false, rfl, .ty "tuple", .base (.int _), kit_ty (by decide +kernel), _, rfl, iteT (iteT no)⟩
  | str z => exact ⟨_, rfl, _, _, _, _, false, rfl, .ty "tuple", .base (.str _), kit_ty (by decide +kernel), _, rfl, iteT (iteT no)⟩
  | lst h => exact ⟨_, rfl, _, _, _, _, false, rfl, .ty "tuple", .base (.lst h), kit_ty (by decide +kernel), _, rfl, iteT (iteT no)⟩
  | dic h => exact ⟨_, rfl, _, _, _, _, false, rfl, .ty "tuple", .base (.dK h), kit_ty (by decide +kernel), _, rfl, iteT (iteT no)⟩
  | long h n =>
    refine ⟨_, rfl, _, _, _, _, true, rfl, .ty "tuple", tyT h, kit_ty (by decide +kernel), _, rfl, iteF ⟨_, rfl, _, _, rfl, .inr h, _, _, rfl, rfl, _, rfl, ?_⟩⟩
    rw [decide_eq_true (by omega)]
    exact iteT no
  | @tup a xs h n v =>
    refine ⟨_, rfl, _, _, _, _, true, rfl, .ty "tuple", tyT h, kit_ty (by decide +kernel), _, rfl, iteF ⟨_, rfl, _, _, rfl, .inr h, _, _, rfl, rfl, _, rfl, ?_⟩⟩
    rw [decide_eq_false (by omega)]
    refine iteF ⟨_, rfl, a, rfl, ⟨_, h⟩, fun D hD => lc_tup (K := K) (a := a) (xs := xs) (fun i H' => H' = upd H D (blT (fun x => betw x 1 40) (xs.take i))) rfl ?_ ?_ ?_⟩
    · rintro i H' _ rfl
      exact tupSame (Same.new hD) h
    · rintro i x H' hx rfl
      have vx := (v x (List.mem_of_getElem? hx)).mono (Same.new (o := blT (fun x => betw x 1 40) (xs.take i)) hD)
      have il := (List.getElem?_eq_some_iff.mp hx).1
      refine ⟨rfl, iteT (B := True) ⟨_, rfl, x, 1, 40, rfl, vx, xs.take i |>.map fun x => V.bl (betw x 1 40), upd_same, small1000 (by rw [List.length_map, List.length_take]; omega), ?_⟩⟩
      show upd _ D (.lst ((xs.take i |>.map fun x => V.bl (betw x 1 40)) ++ [.bl (betw x 1 40)])) = _
      rw [upd_upd, take_snoc hx]
      unfold blT
      rw [List.map_append]
      rfl
    rintro H' rfl
    refine ⟨D, xs.map fun x => betw x 1 40, rfl, SqL.of ?_, ?_⟩
    · rw [upd_same, List.take_length]
      unfold blT
      rw [List.map_map]
      rfl
    · have q := k _ (Same.new (o := blT (fun x => betw x 1 40) (xs.take xs.length)) hD)
      rw [List.all_map]
      exact q
end
end K6
namespace K6
open PySem PySem.Spec PyProof.Rows L2 RZ
/-! ### enumerate(tuple) -/
set_option maxHeartbeats 4000000 in
theorem meets_enumT (l : Addr) (items : Array Value) :
    Meets (Builtin.«enumerate.__new__» ⟨[.type "enumerate", .ref l], []⟩) (fun _ R s => s.heap.IsTuple l items ∧
      R (.ok (.ret (.ref (s.heap.push { cls := .type "tuple_iterator", data := .fields #[.ref l, .int 0 0] }).objs.size)))
        { s with heap := (s.heap.push { cls := .type "tuple_iterator", data := .fields #[.ref l, .int 0 0] }).push { cls := .type "enumerate", data := .fields #[.none, .bool false, .ref s.heap.objs.size, rawInt 0, .none, .none] } }) :=
  .of_wp fun prog w A R s h => by
    obtain ⟨hp, g, d, tk, os⟩ := s
    obtain ⟨hl, h⟩ := h
    have sub := sub_enumerate
    have it : ∀ {A' : Around} {E : Value → Shared → Prop} {Q : Value → Shared → Prop}, Q (.ref hp.objs.size) ⟨hp.push { cls := .type "tuple_iterator", data := .fields #[.ref l, .int 0 0] }, g, d, tk, os⟩ → wpAny (model prog w) A' (pyIter (.ref l)) Q E ⟨hp, g, d, tk, os⟩ :=
      fun q => wpAny_pyIter_tuple (s := ⟨hp, g, d, tk, os⟩) hl q
    wp_walk using it
    refine wpAny_stack_any fun _ => wpAny_pure ?_
    split
    · rename_i c _ _ _ _ _
      cases (c == Value.type "enumerate") <;> (wp_walk using it; exact ⟨_, rfl, h⟩)
    · wp_walk using it
      exact ⟨_, rfl, h⟩
section
variable {prog : Program} {w : World} {A : Around} {E : Value → Shared → Prop} {s : Shared}
theorem call_enumT {l : Addr} {items : Array Value} {Q : Value → Shared → Prop} (hL : s.heap.IsTuple l items)
    (h : ∀ h', IsEnum h' (s.heap.objs.size + 1) s.heap.objs.size 0 .none → h'.IsTupleIter s.heap.objs.size l 0 → h'.objs.size = s.heap.objs.size + 2 → (∀ b o, s.heap.get? b = some o → h'.get? b = some o) → Q (.ref (s.heap.objs.size + 1)) { s with heap := h' }) :
    wpAny (model prog w) A (call (.type "enumerate") [.ref l]) Q E s := by
  refine callType_new F.called_enumerate (by decide) (F.typeCall_enumerate_1 _) (F.newCall_enumerate_1 _) (fun obj => F.args_object_init_2 obj _) F.entry_enumerate_new (meets_enumT l items) ⟨hL, ?_⟩
  show _ ∧ _
  have z1 : (s.heap.push { cls := .type "tuple_iterator", data := .fields #[.ref l, .int 0 0] }).objs.size = s.heap.objs.size + 1 := Heap.size_push ..
  have he := Heap.get?_push_size (s.heap.push { cls := .type "tuple_iterator", data := .fields #[.ref l, .int 0 0] }) (o := { cls := .type "enumerate", data := .fields #[.none, .bool false, .ref s.heap.objs.size, rawInt 0, .none, .none] }) rfl
  rw [z1] at he ⊢
  refine ⟨⟨_, he, rfl⟩, h _ he ⟨_, Heap.get?_push_of_some _ (Heap.get?_push_size _ rfl), rfl, rfl⟩ ?_ fun b o x => Heap.get?_push_of_some _ (Heap.get?_push_of_some _ x)⟩
  rw [Heap.size_push, z1]
end
section
variable {prog : Program} {w : World} {A : Around} {E : Value → Shared → Prop} {s : Shared}
theorem enum_endT {e it l : Addr} {i : Nat} {k : Int} {items : Array Value} {old : Value} {Q : Option Value → Shared → Prop} (hh : A.handled = none) (he : IsEnum s.heap e it k old) (hit : s.heap.IsTupleIter it l i) (hl : s.heap.IsTuple l items) (hx : items[i]? = none)
    (q : ∀ h', Heap.ExtBut it s.heap h' → Q none { s with heap := h' }) : wpAny (model prog w) A (pyNext (.ref e)) Q E s := by
  have ty : s.TypeIs (.ref e) "enumerate" := ⟨_, he, rfl⟩
  unfold pyNext
  refine wpAny_bind (wpAny_attempt (wpAny_callSpecial?_slot (name := Str.ofString "__next__") ty F.slot_enumerate_next (wpAny_call_entry F.slot_enumerate_next ty F.entry_enumerate_next ?_ (F.args_enumerate_next_1 _))))
  show wpAny _ _ (field (.ref e) 2 >>= _) _ _ s
  refine wpAny_bind (wpAny_field he rfl (x := .ref it) rfl (wpAny_bind (nextOf_tuple_end hh hit hl hx fun h' x eb sx => ?_)))
  obtain ⟨o, go, co⟩ := sx
  exact wpAny_bind (wpAny_isInstance (T := "StopIteration") (b := true) ⟨o, go, co⟩ isSubtype_stop (wpAny_pure (q _ eb)))
end
/-- the tuple at a, each item in a new pair behind its index -/
def IteT (K : PySem.W.Frag) (a : Addr) : It :=
  ⟨fun i H => ∃ (xs : List V) (x : V), SqT K H a xs ∧ xs[i]? = some x, fun i H v H' => ∃ T x, v = .ref T ∧ H T = none ∧ H' = upd H T (.tup [.int (i : Nat), x]) ∧ ∀ xs, SqT K H a xs → xs[i]? = some x, fun i H => ∃ xs : List V, SqT K H a xs ∧ xs.length ≤ i⟩
theorem turn_enumT {P : Program} {w : World} {K : PySem.W.Frag} {elts : List Expr} {kk : Nat} {tpos : Pos} (a e it : Addr) :
    Turn P w K (.Tuple elts kk tpos) (IteT K a) [e, it] e (fun i h => (∃ old, IsEnum h e it ((i : Nat) : Int) old) ∧ h.IsTupleIter it a i ∧ e ≠ it ∧ a ≠ it ∧ a ≠ e) where
  mem := by simp
  obj := fun i h st b hb => by
    obtain ⟨⟨old, he⟩, ⟨o, ho, hc, hd⟩, _⟩ := st
    rcases List.mem_cons.mp hb with z | z
    · rw [z]
      exact ⟨_, he, fun v q => nomatch q⟩
    · rw [List.mem_singleton.mp z]
      exact ⟨o, ho, fun v q => by rw [hd] at q; cases q⟩
  keep := fun i h h' st k => by
    obtain ⟨⟨old, he⟩, hi, r⟩ := st
    exact ⟨⟨old, k e (by simp) _ he⟩, hi.at fun o q => k it (by simp) o q, r⟩
  item := by
    intro X hP hw hK hc i pins s σ H E I hf st hg
    subst hP hw hK
    obtain ⟨⟨old, he⟩, hit, hne, nai, nae⟩ := st
    obtain ⟨xs, x, hq, hx⟩ := hg
    obtain ⟨its, rv, p, hz⟩ := I.tuple hq
    have ht : s.heap.IsTuple a its.toArray := p
    obtain ⟨u, hu, ru⟩ := rv.get hx
    have hel : e < s.heap.objs.size := Heap.lt_size he
    have hil : it < s.heap.objs.size := by
      obtain ⟨_, q, _⟩ := hit
      exact Heap.lt_size q
    have hu2 : its.toArray[i]? = some u := by simpa using hu
    have hlt : i < its.toArray.size := (Array.getElem?_eq_some_iff.mp hu2).1
    refine wpAny_pyNext_enum_itemD (Draws.tuple (A := X.A.in1) (I.ok.hd hc) it a nai its.toArray) he ⟨hit, ht⟩ hlt hne (by simp only [List.mem_cons, List.not_mem_nil, or_false, not_or]; exact ⟨hne, fun z => nae z.symm⟩) fun y h' tk hP ho st' hT hsz hk => ?_
    have ey : y = u := by
      have hP' : its.toArray[i]? = some y := hP
      rw [hu2] at hP'
      exact (Option.some.inj hP').symm
    subst ey
    refine ⟨_, rfl, wpAny_letOwnedTupleGo_enum (s := { s with heap := h', toks := tk + 1 }) ho fun h'' he' sb => ?_⟩
    have hT2 : h''.get? s.heap.objs.size = some { cls := .type "tuple", data := .seq #[.int i tk, y] } := (sb.2 _ (Nat.ne_of_gt hel)).trans hT
    have new : ObjOk X.prog X.w (upd H s.heap.objs.size (.tup [.int (i : Nat), x])) h'' s.heap.objs.size (.tup [.int (i : Nat), x]) := ⟨by show 2 ≤ sizeLine; decide, [.int i tk, y], .cons ⟨_, rfl⟩ (.cons ru .nil), ⟨_, hT2, rfl, _, rfl⟩⟩
    have I1 : Inv X pins σ (upd H s.heap.objs.size (.tup [.int (i : Nat), x])) { s with heap := h'', toks := tk + 1 } :=
      I.turnedNew (t' := tk + 1) (ch := [e, it]) (fun b ob hb q => (sb.2 b (fun z => hb (by simp [z]))).trans (hk b ob (fun z => hb (by simp [z])) (fun z => hb (by simp [z])) q)) hf (Nat.le_refl _) new
    refine ⟨.ref s.heap.objs.size, _, I1, rfl, ⟨_, x, rfl, I.hok.fresh (Nat.le_refl _), rfl, fun ys hy => by rw [I.tuple_inj hy hq]; exact hx⟩, ⟨⟨y, ?_⟩, st'.1.at fun o q => (sb.2 it (Ne.symm hne)).trans q, hne, nai, nae⟩, fun b hb => ?_⟩
    · have e1 : ((i + 1 : Nat) : Int) = (i : Int) + 1 := by omega
      rw [e1]
      exact he'
    · have hb' : b < s.heap.objs.size := by
        rcases List.mem_cons.mp hb with z | z
        · rw [z]
          exact hel
        · rw [List.mem_singleton.mp z]
          exact hil
      rw [upd_ne (Nat.ne_of_lt hb')]
      exact (hf b hb).1
  done := by
    intro X hP hw hK hc i pins s σ H E I hf st hg
    subst hP hw hK
    obtain ⟨⟨old, he⟩, hit, hne, nai, nae⟩ := st
    obtain ⟨xs, hq, hx⟩ := hg
    obtain ⟨its, rv, p, hz⟩ := I.tuple hq
    have ht : s.heap.IsTuple a its.toArray := p
    have hl := rv.length
    have none' : its.toArray[i]? = none := by
      rw [Array.getElem?_eq_none_iff, List.size_toArray]
      omega
    refine enum_endT (I.ok.hd hc) he hit ht none' fun h' eb => ⟨rfl, I.turnedL (t' := s.toks) (ch := [e, it]) (fun b o hb q => eb b o (fun z => hb (by simp [z])) q) hf⟩
  self := fun A i s Q E st h => by
    obtain ⟨⟨_, he⟩, _⟩ := st
    exact wpAny_pyIter_enum he h
def iEnumT (K : PySem.W.Frag) (ta : TA) : TI := fun σ H R => ta σ H fun vs H1 => ∃ a xs, vs = [.ref a] ∧ SqT K H1 a xs ∧ R (IteT K a) H1
theorem pi_enumT {X : Cx} {e : Expr} {ta : TA} {p pos tpos : Pos} {elts : List Expr} {kk : Nat} (hg : Gl X "enumerate") (hm : X.mg "enumerate" = none) (ha : PA X [e] ta) (hs : starEach [e] X.env = [(false, eval e X.env)] := by rfl) :
    PI X (.Tuple elts kk tpos) (.Call (.Name "enumerate" p) [e] [] pos) (iEnumT X.K ta) := by
  refine ⟨fun pins s σ H R I h => Call_ (ld_blt I hg hm boot_enumerate (PyProof.Rows.callWith_type1 (thn (ha.run pos pins s σ H _ I h) fun us s1 ⟨vs, H1, I1, r1, q1⟩ => ?_) hs rfl))⟩
  obtain ⟨a, xs, rfl, hq, q⟩ := q1
  rw [Vals.ref1 r1]
  obtain ⟨its, rv, p', hz⟩ := I1.tuple hq
  have ht : s1.heap.IsTuple a its.toArray := p'
  have al : a < s1.heap.objs.size := by
    obtain ⟨o, ho, _⟩ := ht
    exact Heap.lt_size ho
  refine call_enumT ht fun h' he hit hsz hk => wpAny_pyIter_enum he ?_
  refine ⟨s1.heap.objs.size + 1, [s1.heap.objs.size + 1, s1.heap.objs.size], _, _, H1, rfl, I1.kept (t' := s1.toks) hk, turn_enumT a (s1.heap.objs.size + 1) s1.heap.objs.size, ⟨⟨.none, he⟩, hit, Nat.succ_ne_self _, Nat.ne_of_lt al, Nat.ne_of_lt (Nat.lt_succ_of_lt al)⟩, fun b hb => ?_, q⟩
  have hle : s1.heap.objs.size ≤ b := by
    rcases List.mem_cons.mp hb with z | z
    · rw [z]
      exact Nat.le_add_right _ _
    · rw [List.mem_singleton.mp z]
      exact Nat.le_refl _
  exact I1.fpOk hle (I1.hok.fresh hle)
theorem walk_enumT {K : PySem.W.Frag} {a : Addr} {xs : List V} : Walk (IteT K a) xs.length (fun H => SqT K H a xs) (YPair (fun i => some (.int (i : Nat))) (fun i => xs[i]?)) := by
  refine ⟨fun i _ hi q => ⟨xs, xs[i], q, by simp [hi]⟩, fun _ q => ⟨xs, q, Nat.le_refl _⟩, fun i H v H' _ q y => ?_⟩
  obtain ⟨T, x, h1, h2, h3, h4⟩ := y
  exact ⟨T, _, x, h1, h2, h3, rfl, h4 xs q⟩
theorem walk_zipT {K : PySem.W.Frag} {a b : Addr} {xs ys : List V} {n : Nat} (hn : n = min xs.length ys.length) : Walk (ItzT K a b) n (fun H => SqT K H a xs ∧ SqT K H b ys) (YPair (fun i => xs[i]?) (fun i => ys[i]?)) := by
  subst hn
  refine ⟨fun i _ hi q => ?_, fun _ q => ⟨xs, ys, q.1, q.2, by omega⟩, fun i H v H' _ q y => ?_⟩
  · have h1 : i < xs.length := by omega
    have h2 : i < ys.length := by omega
    exact ⟨xs, ys, xs[i], ys[i], q.1, q.2, by simp [h1], by simp [h2]⟩
  · obtain ⟨T, x, z, h1, h2, h3, h4, h5⟩ := y
    exact ⟨T, x, z, h1, h2, h3, h4 xs q.1, h5 ys q.2⟩
/-! ### sum(tuple) -/
def rSumT (K : PySem.W.Frag) : List V → Hp → VK → Prop := fun vs H Q => ∃ (a : Addr) (ns : List Int), vs = [V.ref a] ∧ SqT K H a (ns.map V.int) ∧ Q (.int ns.sum) H
theorem cr_sumT {X : Cx} (hc : X.calm = true) : CallR X (.builtin "sum") (rSumT X.K) := by
  intro pins s σ H vs us Q I r h
  obtain ⟨a, ns, rfl, hs, q⟩ := h
  obtain ⟨its, rv, p, _⟩ := I.tuple hs
  rw [Vals.ref1 r]
  have hl : s.heap.IsTuple a its.toArray := p
  obtain ⟨xs, hx⟩ := rv.ints.allInts.items
  have hn : numsOf its.toArray.toList = ns := by rw [show its.toArray.toList = its from rfl, rv.ints.numsOf]
  rw [hx] at hl hn
  rw [nums_intItems] at hn
  refine PySem.W.ktm_sumG (I.ok.hd hc) hl fun h' tk t' hk => ?_
  rw [preSum_eq, List.take_of_length_le (by simp), hn]
  exact ⟨.int _, H, I.kept hk, ⟨_, rfl⟩, q⟩
end K6
namespace K6
open PySem PySem.Spec PyProof.Rows L2
/-! ### tuple * int, also 0 and 1 times -/
theorem tup_times1 (l : Addr) (items : Array Value) (n : Nat) (dd : Option Addr) (sl : Array (Option Value)) (u : Tok) :
    Meets (Builtin.«tuple.__mul__» ⟨[.ref l, .int 1 u], []⟩) (fun _ R s => s.heap.get? l = some { cls := .type "tuple", dict := dd, data := .seq items n, slots := sl } ∧ R (.ok (.ret (Value.ref l))) s) :=
  .of_wp fun prog w A R s h => by
    obtain ⟨hp, g, d, tk, os⟩ := s
    obtain ⟨hl, h⟩ := h
    have f1 := AutoSeq1.idx_int
    have c1 : (items.isEmpty || (1 : Int) == 1) = true := by simp
    wp_walk using wpAny_loadPart' hl
    repeat (first
      | (refine wpAny_ite_true (decide_eq_true (by rw [c1])) ?_; wp_walk using wpAny_loadPart' hl)
      | (refine wpAny_ite_false (decide_eq_false (by decide)) ?_; wp_walk using wpAny_loadPart' hl))
    all_goals exact ⟨_, rfl, h⟩
theorem tup_times0 (l : Addr) (items : Array Value) (n : Nat) (dd : Option Addr) (sl : Array (Option Value)) (u : Tok) (c1 : (items.isEmpty || (0 : Int) == 1) = false) :
    Meets (Builtin.«tuple.__mul__» ⟨[.ref l, .int 0 u], []⟩) (fun _ R s => s.heap.get? l = some { cls := .type "tuple", dict := dd, data := .seq items n, slots := sl } ∧
      R (.ok (.ret (Value.ref s.heap.objs.size))) { s with heap := s.heap.push { cls := Value.type "tuple", data := Data.seq #[] }, toks := s.toks }) :=
  .of_wp fun prog w A R s h => by
    obtain ⟨hp, g, d, tk, os⟩ := s
    obtain ⟨hl, h⟩ := h
    have f1 := AutoSeq1.idx_int
    wp_walk using wpAny_loadPart' hl
    repeat (first
      | (refine wpAny_ite_false (decide_eq_false (by rw [c1]; exact Bool.false_ne_true)) ?_; wp_walk using wpAny_loadPart' hl)
      | (refine wpAny_ite_true (decide_eq_true (by rfl)) ?_; wp_walk using wpAny_loadPart' hl)
      | (refine wpAny_ite_false (decide_eq_false (by decide)) ?_; wp_walk using wpAny_loadPart' hl))
    all_goals exact ⟨_, rfl, h⟩
def rMulT (K : PySem.W.Frag) : R2 := fun x y H Q => ∃ l k xs, x = .ref l ∧ y = .int k ∧ SqT K H l xs ∧ xs ≠ [] ∧ 0 ≤ k ∧ k ≤ 1000 ∧ xs.length ≤ 1000 ∧ (k = 1 → Q (.ref l) H) ∧ (k ≠ 1 → ∀ p, H p = none → Q (.ref p) (upd H p (.tup (List.replicate k.toNat xs).flatten)))
theorem op_mulT {X : Cx} : OpR X (binaryOp .Mult) (rMulT X.K) := by
  intro pins s σ H x y v u Q I rx ry h
  obtain ⟨l, k, xs, rfl, rfl, hT, hne, h0, h2, hz, q1, q2⟩ := h
  by_cases k2 : 2 ≤ k
  · exact op_repT pins s σ H _ _ v u Q I rx ry ⟨l, k, xs, rfl, rfl, hT, hne, k2, h2, hz, q2 (by omega)⟩
  cases rx
  obtain ⟨t, rfl⟩ := ry
  obtain ⟨its, r, ⟨⟨cls, dd, data, sl⟩, ho, hc, n, hd⟩, hs⟩ := I.tuple hT
  simp only at hc hd
  subst hc hd
  by_cases k1 : k = 1
  · subst k1
    exact wpAny_binaryOp_repeat_ref (T := "tuple") (U := "int") (by decide) ⟨_, ho, rfl⟩ (fun s' => typeIs_int s' 1 t) noFill_tuple_mul F.fills_int_mul F.slot_int_rmul repeat_tuple F.slot_int_index.lookup
      (call_meets F.slot_int_rmul (typeIs_int s 1 t) F.entry_int_rmul (F.args_int_rmul_2 _ _) (int_rmul_tuple 1 t l its.toArray n dd sl)
        ⟨ho, rfl, ⟨_, ho, rfl⟩, call_meets F.slot_tuple_mul ⟨_, ho, rfl⟩ F.entry_tuple_mul (F.args_tuple_mul_2 _ _) (tup_times1 l its.toArray n dd sl t) ⟨ho, ⟨.ref l, H, I, rfl, q1 rfl⟩⟩⟩)
  · have k0 : k = 0 := by omega
    subst k0
    have hle : its.length = xs.length := r.length.symm
    have hi : (its.toArray.isEmpty || (0 : Int) == 1) = false := by
      cases its with
      | nil =>
        rw [List.length_nil] at hle
        exact absurd (List.eq_nil_of_length_eq_zero hle.symm) hne
      | cons a b => rfl
    exact wpAny_binaryOp_repeat_ref (T := "tuple") (U := "int") (by decide) ⟨_, ho, rfl⟩ (fun s' => typeIs_int s' 0 t) noFill_tuple_mul F.fills_int_mul F.slot_int_rmul repeat_tuple F.slot_int_index.lookup
      (call_meets F.slot_int_rmul (typeIs_int s 0 t) F.entry_int_rmul (F.args_int_rmul_2 _ _) (int_rmul_tuple 0 t l its.toArray n dd sl)
        ⟨ho, rfl, ⟨_, ho, rfl⟩, call_meets F.slot_tuple_mul ⟨_, ho, rfl⟩ F.entry_tuple_mul (F.args_tuple_mul_2 _ _) (tup_times0 l its.toArray n dd sl t hi)
          ⟨ho, ⟨.ref s.heap.objs.size, _, I.laid (t' := s.toks) (o := .tup []) (fun b ob q => Heap.get?_push_of_some _ q) (Nat.le_refl _) ⟨by show 0 ≤ sizeLine; decide, [], .nil, IsTup.new _ _⟩, rfl, q2 (by decide) _ (I.hok.fresh (Nat.le_refl _))⟩⟩⟩)
end K6
namespace K6
open PySem PySem.Spec PyProof.Rows L2 RZ
abbrev iV (L : List Int) : List V := L.map V.int
/-- what a comprehension's walk asks -/
abbrev LcW (J : It) (g : TG) (tt : TT) (te : TE) (vs : List Nat) (σ : L2.St) (H : Hp) (D : Addr) (Qd : Hp → Prop) : Prop :=
  ∃ W : Nat → Nat → Hp → Prop, (∃ m, W 0 m (upd H D (.lst []))) ∧ ∀ i m H1, W i m H1 → (J.stop i H1 ∧ Qd H1) ∨ (J.go i H1 ∧ ∃ Nx : Hp → Prop, (∀ H', Nx H' → ∃ m', m' < m ∧ W (i + 1) m' H') ∧
    ∀ x H', J.yld i H1 x H' → g x (wipe σ vs) H' fun σ2 H2 => wipe σ2 vs = wipe σ vs ∧ tt σ2 H2 fun b H3 => if b = true then te σ2 H3 fun y H4 => ∃ acc, H4 D = some (.lst acc) ∧ acc.length < sizeLine ∧ Nx (upd H4 D (.lst (acc ++ [y]))) else Nx H3)
theorem take_more {α : Type} {xs : List α} {i : Nat} {x : α} (h : xs[i]? = some x) : xs.take (i + 1) = xs.take i ++ [x] := by
  rw [List.take_add_one, h]
  rfl
theorem Same.back {H H1 : Hp} {D : Addr} {o : HO} (s : Same H H1) (hD : H D = none) : Same H (upd H1 D o) := fun b u e => by
  rw [upd_ne (ne_of_none e hD)]
  exact s b u e
/-- over zip of two tuples of ints -/
theorem lc_zip2 {K : PySem.W.Frag} {a b : Addr} {L W : List Int} {i j : Nat} {te : TE} {vs : List Nat} {σ : L2.St} {H : Hp} {D : Addr} {Qd : Hp → Prop} (f : Int → Int → V) (hD : H D = none) (ha : SqT K H a (iV L)) (hb : SqT K H b (iV W)) (ln : L.length ≤ 1000)
    (hw : ∀ x y : V, wipe (((wipe σ vs).set i (some x)).set j (some y)) vs = wipe σ vs)
    (he : ∀ (n : Nat) (d e : Int) (H1 : Hp) (Q : VK), L[n]? = some d → W[n]? = some e → Same H H1 → (∀ H2, Same H1 H2 → Q (f d e) H2) → te (((wipe σ vs).set i (some (.int d))).set j (some (.int e))) H1 Q)
    (hd : ∀ H', Same H H' → H' D = some (.lst (List.zipWith f L W)) → Qd H') : LcW (ItzT K a b) (gTup K 2 (gCons (gName i) (gCons (gName j) gNil))) tYes te vs σ H D Qd := by
  have zl : (List.zipWith f L W).length = min L.length W.length := List.length_zipWith
  refine lc_it (walk_zipT (xs := iV L) (ys := iV W) rfl) (fun n H' => Same H H' ∧ H' D = some (.lst ((List.zipWith f L W).take n))) ⟨Same.new hD, upd_same⟩ (fun _ H' _ p => ⟨tupSame p.1 ha, tupSame p.1 hb⟩) (fun n x H1 H2 hn p y => ?_) fun H' p => ?_
  · obtain ⟨T, u, v, rfl, hT, rfl, hu, hv⟩ := y
    have hu : (iV L)[n]? = some u := hu
    have hv : (iV W)[n]? = some v := hv
    rw [List.getElem?_map] at hu hv
    obtain ⟨d, hd1, rfl⟩ := Option.map_eq_some_iff.mp hu
    obtain ⟨e, he1, rfl⟩ := Option.map_eq_some_iff.mp hv
    have s1 : Same H1 (upd H1 T (.tup [.int d, .int e])) := Same.new hT
    refine ⟨T, [.int d, .int e], rfl, SqT.of upd_same, rfl, .int d, [.int e], rfl, .int e, [], rfl, rfl, hw _ _, iteT (B := True) (he n d e _ _ hd1 he1 (p.1.trans s1) fun H2 s2 => ?_)⟩
    have zg : (List.zipWith f L W)[n]? = some (f d e) := by
      rw [List.getElem?_zipWith, hd1, he1]
    refine ⟨(List.zipWith f L W).take n, (s1.trans s2) _ _ p.2, small1000 (by rw [List.length_take]; omega), Same.back (p.1.trans (s1.trans s2)) hD, ?_⟩
    rw [upd_same, take_more zg]
  · refine hd H' p.1 ?_
    rw [p.2, List.take_of_length_le (by rw [zl, List.length_map, List.length_map]; omega)]
/-- over a tuple -/
theorem lc_tup1 {K : PySem.W.Frag} {a : Addr} {xs : List V} {i : Nat} {te : TE} {vs : List Nat} {σ : L2.St} {H : Hp} {D : Addr} {Qd : Hp → Prop} (f : V → V) (hD : H D = none) (ha : SqT K H a xs) (ln : xs.length ≤ 1000)
    (hw : ∀ x : V, wipe ((wipe σ vs).set i (some x)) vs = wipe σ vs)
    (he : ∀ (n : Nat) (x : V) (H1 : Hp) (Q : VK), xs[n]? = some x → Same H H1 → (∀ H2, Same H1 H2 → Q (f x) H2) → te ((wipe σ vs).set i (some x)) H1 Q)
    (hd : ∀ H', Same H H' → H' D = some (.lst (xs.map f)) → Qd H') : LcW (Itt K a) (gName i) tYes te vs σ H D Qd := by
  refine lc_it (walk_tup (xs := xs)) (fun n H' => Same H H' ∧ H' D = some (.lst ((xs.take n).map f))) ⟨Same.new hD, upd_same⟩ (fun _ H' _ p => tupSame p.1 ha) (fun n x H1 H2 hn p y => ?_) fun H' p => ?_
  · obtain ⟨rfl, hx⟩ := y
    refine ⟨hw _, iteT (B := True) (he n x _ _ hx p.1 fun H2 s2 => ?_)⟩
    refine ⟨(xs.take n).map f, s2 _ _ p.2, small1000 (by rw [List.length_map, List.length_take]; omega), Same.back (p.1.trans s2) hD, ?_⟩
    rw [upd_same, take_more hx, List.map_append]
    rfl
  · refine hd H' p.1 ?_
    rw [p.2, List.take_length]
/-- over range(n) -/
theorem lc_range1 {lo : Int} {N i : Nat} {te : TE} {vs : List Nat} {σ : L2.St} {H : Hp} {D : Addr} {Qd : Hp → Prop} (f : Int → V) (hD : H D = none) (ln : N ≤ 1000)
    (hw : ∀ x : V, wipe ((wipe σ vs).set i (some x)) vs = wipe σ vs)
    (he : ∀ (n : Nat) (H1 : Hp) (Q : VK), n < N → Same H H1 → (∀ H2, Same H1 H2 → Q (f (lo + n)) H2) → te ((wipe σ vs).set i (some (.int (lo + n)))) H1 Q)
    (hd : ∀ H', Same H H' → H' D = some (.lst ((List.range N).map fun n : Nat => f (lo + n))) → Qd H') : LcW (Itr lo N) (gName i) tYes te vs σ H D Qd := by
  refine lc_it (walk_range (lo := lo) (n := N)) (fun n H' => Same H H' ∧ H' D = some (.lst ((List.range n).map fun n : Nat => f (lo + n)))) ⟨Same.new hD, upd_same⟩ (fun _ H' _ p => trivial) (fun n x H1 H2 hn p y => ?_) fun H' p => ?_
  · obtain ⟨rfl, rfl⟩ := y
    refine ⟨hw _, iteT (B := True) (he n _ _ hn p.1 fun H2 s2 => ?_)⟩
    refine ⟨(List.range n).map fun n : Nat => f (lo + n), s2 _ _ p.2, small1000 (by rw [List.length_map, List.length_range]; omega), Same.back (p.1.trans s2) hD, ?_⟩
    rw [upd_same, List.range_succ, List.map_append]
    rfl
  · exact hd H' p.1 p.2
/-- the indices of the odd ones, from k on -/
def od (k : Int) : List Int → List Int
  | [] => []
  | d :: L => if d % 2 = 1 then k :: od (k + 1) L else od (k + 1) L
theorem od_append : ∀ (L M : List Int) (k : Int), od k (L ++ M) = od k L ++ od (k + L.length) M
  | [], M, k => by
    show od k M = [] ++ od (k + 0) M
    rw [Int.add_zero, List.nil_append]
  | d :: L, M, k => by
    have ih := od_append L M (k + 1)
    have e : k + 1 + (L.length : Int) = k + ((d :: L).length : Int) := by
      rw [List.length_cons]
      omega
    rw [e] at ih
    show (if d % 2 = 1 then k :: od (k + 1) (L ++ M) else od (k + 1) (L ++ M)) = (if d % 2 = 1 then k :: od (k + 1) L else od (k + 1) L) ++ _
    split
    · rw [ih]
      rfl
    · rw [ih]
theorem od_len : ∀ (L : List Int) (k : Int), (od k L).length ≤ L.length
  | [], _ => Nat.le_refl _
  | d :: L, k => by
    have := od_len L (k + 1)
    show (if d % 2 = 1 then k :: od (k + 1) L else od (k + 1) L).length ≤ _
    split
    · rw [List.length_cons, List.length_cons]
      omega
    · rw [List.length_cons]
      omega
/-- the indices of odd letters, over enumerate -/
theorem lc_odds {K : PySem.W.Frag} {a : Addr} {L : List Int} {i j : Nat} {tt : TT} {te : TE} {vs : List Nat} {σ : L2.St} {H : Hp} {D : Addr} {Qd : Hp → Prop} (hD : H D = none) (ha : SqT K H a (iV L)) (ln : L.length ≤ 1000)
    (hw : ∀ x y : V, wipe (((wipe σ vs).set i (some x)).set j (some y)) vs = wipe σ vs)
    (ht : ∀ (n : Nat) (d : Int) (H1 : Hp) (Q : Bool → Hp → Prop), Q (decide (d % 2 = 1)) H1 → tt (((wipe σ vs).set i (some (.int n))).set j (some (.int d))) H1 Q)
    (he : ∀ (n : Nat) (d : Int) (H1 : Hp) (Q : VK), Q (.int n) H1 → te (((wipe σ vs).set i (some (.int n))).set j (some (.int d))) H1 Q)
    (hd : ∀ H', Same H H' → H' D = some (.lst (iV (od 0 L))) → Qd H') : LcW (IteT K a) (gTup K 2 (gCons (gName i) (gCons (gName j) gNil))) tt te vs σ H D Qd := by
  refine lc_it (walk_enumT (xs := iV L)) (fun n H' => Same H H' ∧ H' D = some (.lst (iV (od 0 (L.take n))))) ⟨Same.new hD, upd_same⟩ (fun _ H' _ p => tupSame p.1 ha) (fun n x H1 H2 hn p y => ?_) fun H' p => ?_
  · obtain ⟨T, u, v, rfl, hT, rfl, hu, hv⟩ := y
    have hu : some (V.int (n : Nat)) = some u := hu
    have hv : (iV L)[n]? = some v := hv
    cases hu
    rw [List.getElem?_map] at hv
    obtain ⟨d, hd1, rfl⟩ := Option.map_eq_some_iff.mp hv
    have s1 : Same H1 (upd H1 T (.tup [.int (n : Nat), .int d])) := Same.new hT
    have nl := (List.getElem?_eq_some_iff.mp hd1).1
    have e1 : od 0 (L.take (n + 1)) = od 0 (L.take n) ++ (if d % 2 = 1 then [(n : Int)] else []) := by
      rw [take_more hd1, od_append, List.length_take, Nat.min_eq_left (Nat.le_of_lt nl), Int.zero_add]
      rfl
    refine ⟨T, [.int (n : Nat), .int d], rfl, SqT.of upd_same, rfl, .int (n : Nat), [.int d], rfl, .int d, [], rfl, rfl, hw _ _, ht n d _ _ ?_⟩
    by_cases c : d % 2 = 1
    · rw [decide_eq_true c]
      refine iteT (he n d _ _ ?_)
      have ol := od_len (L.take n) 0
      rw [List.length_take] at ol
      refine ⟨iV (od 0 (L.take n)), s1 _ _ p.2, small1000 (by rw [List.length_map]; omega), Same.back (p.1.trans s1) hD, ?_⟩
      rw [upd_same, e1, if_pos c]
      show _ = some (HO.lst (List.map V.int _))
      rw [List.map_append]
      rfl
    · rw [decide_eq_false c]
      refine iteF ⟨p.1.trans s1, ?_⟩
      rw [e1, if_neg c, List.append_nil]
      exact s1 _ _ p.2
  · refine hd H' p.1 ?_
    rw [p.2, List.length_map, List.take_length]
end K6
namespace L2
open PySem PySem.Spec PyProof.Rows
/-- the items are tuples of these ints -/
abbrev TupsV (K : PySem.W.Frag) (H : Hp) (xs : List V) (ls : List (List Int)) : Prop := Paired (fun x l => ∃ t, x = V.ref t ∧ SqT K H t (l.map V.int)) xs ls
end L2
namespace K6
open PySem PySem.Spec PyProof.Rows L2 RZ
def But (d : Addr) (H H' : Hp) : Prop := ∀ b o, b ≠ d → H b = some o → H' b = some o
theorem But.refl (d : Addr) (H : Hp) : But d H H := fun _ _ _ h => h
theorem But.trans {d : Addr} {H H1 H2 : Hp} (a : But d H H1) (b : But d H1 H2) : But d H H2 := fun c o n h => b c o n (a c o n h)
theorem But.dice {d : Addr} {H : Hp} {o : HO} : But d H (upd H d o) := fun c u n h => by rw [upd_ne n]; exact h
theorem But.of {d : Addr} {H H' : Hp} (s : Same H H') : But d H H' := fun b o _ h => s b o h
theorem But.tup {K : PySem.W.Frag} {d a : Addr} {H H' : Hp} {L xs : List V} (k : But d H H') (hd : H d = some (.lst L)) (h : SqT K H a xs) : SqT K H' a xs := by
  rcases h with (h | ⟨o, h⟩) | h
  · refine .inl (.inl (k _ _ (fun z => ?_) h))
    rw [z, hd] at h
    cases h
  · refine .inl (.inr ⟨o, k _ _ (fun z => ?_) h⟩)
    rw [z, hd] at h
    cases h
  · exact .inr h
theorem But.back {d D : Addr} {H H1 : Hp} {o : HO} (k : But d H H1) (hD : H D = none) : But d H (upd H1 D o) := fun b u n e => by
  rw [upd_ne (ne_of_none e hD)]
  exact k b u n e
theorem take_filter {α : Type} {xs : List α} {i : Nat} {x : α} {p : α → Bool} (h : xs[i]? = some x) : (xs.take (i + 1)).filter p = (xs.take i).filter p ++ (if p x = true then [x] else []) := by
  rw [take_more h, List.filter_append, List.filter_cons, List.filter_nil]
/-- over a tuple of ints -/
theorem lc_ints {K : PySem.W.Frag} {a : Addr} {L : List Int} {i : Nat} {tt : TT} {te : TE} {vs : List Nat} {σ : L2.St} {H : Hp} {D : Addr} {Qd : Hp → Prop} (f : Int → V) (p : Int → Bool) (hD : H D = none) (ha : SqT K H a (iV L)) (ln : L.length ≤ 1000)
    (hw : ∀ x : V, wipe ((wipe σ vs).set i (some x)) vs = wipe σ vs)
    (ht : ∀ (d : Int) (H1 : Hp) (Q : Bool → Hp → Prop), d ∈ L → Same H H1 → (∀ H2, Same H1 H2 → Q (p d) H2) → tt ((wipe σ vs).set i (some (.int d))) H1 Q)
    (he : ∀ (d : Int) (H1 : Hp) (Q : VK), d ∈ L → p d = true → Same H H1 → (∀ H2, Same H1 H2 → Q (f d) H2) → te ((wipe σ vs).set i (some (.int d))) H1 Q)
    (hd : ∀ H', Same H H' → H' D = some (.lst ((L.filter p).map f)) → Qd H') : LcW (Itt K a) (gName i) tt te vs σ H D Qd := by
  refine lc_it (walk_tup (xs := iV L)) (fun n H' => Same H H' ∧ H' D = some (.lst (((L.take n).filter p).map f))) ⟨Same.new hD, upd_same⟩ (fun _ H' _ p => tupSame p.1 ha) (fun n x H1 H2 hn q y => ?_) fun H' q => ?_
  · obtain ⟨rfl, hx⟩ := y
    rw [List.getElem?_map] at hx
    obtain ⟨d, hd1, rfl⟩ := Option.map_eq_some_iff.mp hx
    have hm := List.mem_of_getElem? hd1
    refine ⟨hw _, ht d _ _ hm q.1 fun H2 s2 => ?_⟩
    cases c : p d with
    | true =>
      refine iteT (he d _ _ hm c (q.1.trans s2) fun H3 s3 => ?_)
      have le := List.length_filter_le p (L.take n)
      rw [List.length_take] at le
      refine ⟨((L.take n).filter p).map f, (s2.trans s3) _ _ q.2, small1000 (by rw [List.length_map]; omega), Same.back (q.1.trans (s2.trans s3)) hD, ?_⟩
      rw [upd_same, take_filter hd1, c, if_pos rfl, List.map_append]
      rfl
    | false =>
      refine iteF ⟨q.1.trans s2, ?_⟩
      rw [take_filter hd1, c, if_neg Bool.false_ne_true, List.append_nil]
      exact s2 _ _ q.2
  · refine hd H' q.1 ?_
    rw [q.2, List.length_map, List.take_length]
/-- over a list of ints -/
theorem lc_intsL {K : PySem.W.Frag} {a : Addr} {L : List Int} {i : Nat} {tt : TT} {te : TE} {vs : List Nat} {σ : L2.St} {H : Hp} {D : Addr} {Qd : Hp → Prop} (f : Int → V) (p : Int → Bool) (hD : H D = none) (ha : SqL K H a (iV L)) (ln : L.length ≤ 1000)
    (hw : ∀ x : V, wipe ((wipe σ vs).set i (some x)) vs = wipe σ vs)
    (ht : ∀ (d : Int) (H1 : Hp) (Q : Bool → Hp → Prop), d ∈ L → Same H H1 → (∀ H2, Same H1 H2 → Q (p d) H2) → tt ((wipe σ vs).set i (some (.int d))) H1 Q)
    (he : ∀ (d : Int) (H1 : Hp) (Q : VK), d ∈ L → p d = true → Same H H1 → (∀ H2, Same H1 H2 → Q (f d) H2) → te ((wipe σ vs).set i (some (.int d))) H1 Q)
    (hd : ∀ H', Same H H' → H' D = some (.lst ((L.filter p).map f)) → Qd H') : LcW (Itl K a) (gName i) tt te vs σ H D Qd := by
  refine lc_it (walk_list (xs := iV L)) (fun n H' => Same H H' ∧ H' D = some (.lst (((L.take n).filter p).map f))) ⟨Same.new hD, upd_same⟩ (fun _ H' _ p => p.1.seq ha) (fun n x H1 H2 hn q y => ?_) fun H' q => ?_
  · obtain ⟨rfl, hx⟩ := y
    rw [List.getElem?_map] at hx
    obtain ⟨d, hd1, rfl⟩ := Option.map_eq_some_iff.mp hx
    have hm := List.mem_of_getElem? hd1
    refine ⟨hw _, ht d _ _ hm q.1 fun H2 s2 => ?_⟩
    cases c : p d with
    | true =>
      refine iteT (he d _ _ hm c (q.1.trans s2) fun H3 s3 => ?_)
      have le := List.length_filter_le p (L.take n)
      rw [List.length_take] at le
      refine ⟨((L.take n).filter p).map f, (s2.trans s3) _ _ q.2, small1000 (by rw [List.length_map]; omega), Same.back (q.1.trans (s2.trans s3)) hD, ?_⟩
      rw [upd_same, take_filter hd1, c, if_pos rfl, List.map_append]
      rfl
    | false =>
      refine iteF ⟨q.1.trans s2, ?_⟩
      rw [take_filter hd1, c, if_neg Bool.false_ne_true, List.append_nil]
      exact s2 _ _ q.2
  · refine hd H' q.1 ?_
    rw [q.2, List.length_map, List.take_length]
theorem tv_mono {K : PySem.W.Frag} {H H' : Hp} {xs : List V} {ls : List (List Int)} (h : TupsV K H xs ls) (s : Same H H') : TupsV K H' xs ls := Paired.mapP h fun _ _ ⟨t, e, q⟩ => ⟨t, e, tupSame s q⟩
theorem tv_get {K : PySem.W.Frag} {H : Hp} {x : V} : ∀ {n : Nat} {xs : List V} {ls : List (List Int)}, TupsV K H xs ls → xs[n]? = some x → ∃ t l, x = .ref t ∧ ls[n]? = some l ∧ SqT K H t (iV l)
  | 0, _, _, .cons ⟨t, e, q⟩ _, h => by
    cases h
    exact ⟨t, _, e, rfl, q⟩
  | n + 1, _ :: xs, _, .cons _ r, h => tv_get (n := n) r h
theorem tv_len {K : PySem.W.Frag} {H : Hp} {xs : List V} {ls : List (List Int)} (h : TupsV K H xs ls) : xs.length = ls.length := Paired.length h
/-- over a list of tuples of ints: the ones that pass, as they are led -/
theorem lc_tupsL {K : PySem.W.Frag} {a : Addr} {xs : List V} {ls : List (List Int)} {i : Nat} {tt : TT} {te : TE} {vs : List Nat} {σ : L2.St} {H : Hp} {D : Addr} {Qd : Hp → Prop} (g : List Int → List Int) (p : List Int → Bool) (hD : H D = none) (ha : H a = some (.lst xs)) (hx : TupsV K H xs ls) (ln : ls.length ≤ 1000)
    (hw : ∀ x : V, wipe ((wipe σ vs).set i (some x)) vs = wipe σ vs)
    (ht : ∀ (t : Addr) (l : List Int) (H1 : Hp) (Q : Bool → Hp → Prop), l ∈ ls → SqT K H1 t (iV l) → Same H H1 → (∀ H2, Same H1 H2 → Q (p l) H2) → tt ((wipe σ vs).set i (some (.ref t))) H1 Q)
    (he : ∀ (t : Addr) (l : List Int) (H1 : Hp) (Q : VK), l ∈ ls → SqT K H1 t (iV l) → p l = true → Same H H1 → (∀ H2 t2, Same H1 H2 → SqT K H2 t2 (iV (g l)) → Q (.ref t2) H2) → te ((wipe σ vs).set i (some (.ref t))) H1 Q)
    (hd : ∀ H' ys, Same H H' → H' D = some (.lst ys) → TupsV K H' ys ((ls.filter p).map g) → Qd H') : LcW (Itl K a) (gName i) tt te vs σ H D Qd := by
  have lx := tv_len hx
  refine lc_it (walk_list (xs := xs)) (fun n H' => Same H H' ∧ ∃ ys, H' D = some (.lst ys) ∧ TupsV K H' ys (((ls.take n).filter p).map g)) ⟨Same.new hD, [], upd_same, .nil⟩ (fun _ H' _ p => SqL.of (p.1 _ _ ha)) (fun n x H1 H2 hn q y => ?_) fun H' q => ?_
  · obtain ⟨rfl, hy⟩ := y
    obtain ⟨q1, ys, q2, q3⟩ := q
    obtain ⟨t, l, rfl, hl, hT⟩ := tv_get (tv_mono hx q1) hy
    have hm := List.mem_of_getElem? hl
    refine ⟨hw _, ht t l _ _ hm hT q1 fun H2 s2 => ?_⟩
    cases c : p l with
    | true =>
      refine iteT (he t l _ _ hm (tupSame s2 hT) c (q1.trans s2) fun H3 t2 s3 h3 => ?_)
      have le := List.length_filter_le p (ls.take n)
      rw [List.length_take] at le
      have ly := tv_len q3
      rw [List.length_map] at ly
      have hD3 := (s2.trans s3) _ _ q2
      have st : ∀ b u, b ≠ D → H3 b = some u → upd H3 D (.lst (ys ++ [.ref t2])) b = some u := fun b u nb e => by rw [upd_ne nb]; exact e
      have tk : ∀ {b : Addr} {l : List Int}, SqT K H3 b (iV l) → SqT K (upd H3 D (.lst (ys ++ [.ref t2]))) b (iV l) := fun {b l} h => by
        rcases h with (h | ⟨o, h⟩) | h
        · exact .inl (.inl (st _ _ (ne_of h hD3 (by intro z; cases z)) h))
        · exact .inl (.inr ⟨o, st _ _ (ne_of h hD3 (by intro z; cases z)) h⟩)
        · exact .inr h
      refine ⟨ys, hD3, small1000 (by omega), Same.back (q1.trans (s2.trans s3)) hD, ys ++ [.ref t2], upd_same, ?_⟩
      rw [take_filter hl, c, if_pos rfl, List.map_append]
      exact Paired.snoc (Paired.mapP (tv_mono q3 (s2.trans s3)) fun _ _ ⟨t', e, z⟩ => ⟨t', e, tk z⟩) ⟨t2, rfl, tk h3⟩
    | false =>
      refine iteF ⟨q1.trans s2, ys, s2 _ _ q2, ?_⟩
      rw [take_filter hl, c, if_neg Bool.false_ne_true, List.append_nil]
      exact tv_mono q3 s2
  · obtain ⟨q1, ys, q2, q3⟩ := q
    refine hd H' ys q1 q2 ?_
    rw [lx, List.take_length] at q3
    exact q3
/-- over a tuple of tuples of ints -/
theorem lc_tupsT {K : PySem.W.Frag} {a : Addr} {xs : List V} {ls : List (List Int)} {i : Nat} {tt : TT} {te : TE} {vs : List Nat} {σ : L2.St} {H : Hp} {D : Addr} {Qd : Hp → Prop} (g : List Int → List Int) (p : List Int → Bool) (hD : H D = none) (ha : SqT K H a xs) (hx : TupsV K H xs ls) (ln : ls.length ≤ 1000)
    (hw : ∀ x : V, wipe ((wipe σ vs).set i (some x)) vs = wipe σ vs)
    (ht : ∀ (t : Addr) (l : List Int) (H1 : Hp) (Q : Bool → Hp → Prop), l ∈ ls → SqT K H1 t (iV l) → Same H H1 → (∀ H2, Same H1 H2 → Q (p l) H2) → tt ((wipe σ vs).set i (some (.ref t))) H1 Q)
    (he : ∀ (t : Addr) (l : List Int) (H1 : Hp) (Q : VK), l ∈ ls → SqT K H1 t (iV l) → p l = true → Same H H1 → (∀ H2 t2, Same H1 H2 → SqT K H2 t2 (iV (g l)) → Q (.ref t2) H2) → te ((wipe σ vs).set i (some (.ref t))) H1 Q)
    (hd : ∀ H' ys, Same H H' → H' D = some (.lst ys) → TupsV K H' ys ((ls.filter p).map g) → Qd H') : LcW (Itt K a) (gName i) tt te vs σ H D Qd := by
  have lx := tv_len hx
  refine lc_it (walk_tup (xs := xs)) (fun n H' => Same H H' ∧ ∃ ys, H' D = some (.lst ys) ∧ TupsV K H' ys (((ls.take n).filter p).map g)) ⟨Same.new hD, [], upd_same, .nil⟩ (fun _ H' _ p => tupSame p.1 ha) (fun n x H1 H2 hn q y => ?_) fun H' q => ?_
  · obtain ⟨rfl, hy⟩ := y
    obtain ⟨q1, ys, q2, q3⟩ := q
    obtain ⟨t, l, rfl, hl, hT⟩ := tv_get (tv_mono hx q1) hy
    have hm := List.mem_of_getElem? hl
    refine ⟨hw _, ht t l _ _ hm hT q1 fun H2 s2 => ?_⟩
    cases c : p l with
    | true =>
      refine iteT (he t l _ _ hm (tupSame s2 hT) c (q1.trans s2) fun H3 t2 s3 h3 => ?_)
      have le := List.length_filter_le p (ls.take n)
      rw [List.length_take] at le
      have ly := tv_len q3
      rw [List.length_map] at ly
      have hD3 := (s2.trans s3) _ _ q2
      have st : ∀ b u, b ≠ D → H3 b = some u → upd H3 D (.lst (ys ++ [.ref t2])) b = some u := fun b u nb e => by rw [upd_ne nb]; exact e
      have tk : ∀ {b : Addr} {l : List Int}, SqT K H3 b (iV l) → SqT K (upd H3 D (.lst (ys ++ [.ref t2]))) b (iV l) := fun {b l} h => by
        rcases h with (h | ⟨o, h⟩) | h
        · exact .inl (.inl (st _ _ (ne_of h hD3 (by intro z; cases z)) h))
        · exact .inl (.inr ⟨o, st _ _ (ne_of h hD3 (by intro z; cases z)) h⟩)
        · exact .inr h
      refine ⟨ys, hD3, small1000 (by omega), Same.back (q1.trans (s2.trans s3)) hD, ys ++ [.ref t2], upd_same, ?_⟩
      rw [take_filter hl, c, if_pos rfl, List.map_append]
      exact Paired.snoc (Paired.mapP (tv_mono q3 (s2.trans s3)) fun _ _ ⟨t', e, z⟩ => ⟨t', e, tk z⟩) ⟨t2, rfl, tk h3⟩
    | false =>
      refine iteF ⟨q1.trans s2, ys, s2 _ _ q2, ?_⟩
      rw [take_filter hl, c, if_neg Bool.false_ne_true, List.append_nil]
      exact tv_mono q3 s2
  · obtain ⟨q1, ys, q2, q3⟩ := q
    refine hd H' ys q1 q2 ?_
    rw [lx, List.take_length] at q3
    exact q3
theorem inV_ints {k : Int} : ∀ {L : List Int}, inV (.int k) (iV L) = L.contains k
  | [] => rfl
  | d :: L => by
    have ih := inV_ints (k := k) (L := L)
    show (eqV (.int d) (.int k) || inV (.int k) (iV L)) = _
    rw [ih, List.contains_cons]
    congr 1
    show (d == k) = (k == d)
    exact BEq.comm
theorem flat_ints : ∀ {L : List Int}, (iV L).all flatV = true
  | [] => rfl
  | d :: L => by
    show (flatV (.int d) && (iV L).all flatV) = true
    rw [flat_ints]
    rfl
theorem dInt (a b : Int) : decide (V.int a = V.int b) = decide (a = b) := decide_eq_decide.mpr ⟨fun y => V.int.inj y, fun y => by rw [y]⟩
theorem lstSame {K : PySem.W.Frag} {H H' : Hp} {a : Addr} {xs : List V} (s : Same H H') (h : SqL K H a xs) : SqL K H' a xs := s.seq h
abbrev dI (l : List Int) : PyData := .tuple (l.map PyData.int)
structure Shp (n : Nat) (d : PyData) : Prop where
  can : d.canLay0 = true
  dep : d.depth ≤ n
theorem Shp.shaped {n : Nat} {d : PyData} (h : Shp n d) (hn : n ≤ 64) : SeqAt.shaped d = true := by
  rw [SeqAt.shaped, Bool.and_eq_true]
  exact ⟨h.can, decide_eq_true (Nat.le_trans h.dep hn)⟩
theorem Shp.int (i : Int) : Shp 0 (.int i) := ⟨by rw [PyData.canLay0], by rw [PyData.depth]; exact Nat.le_refl _⟩
theorem Shp.bool (b : Bool) : Shp 0 (.bool b) := ⟨by rw [PyData.canLay0], by rw [PyData.depth]; exact Nat.le_refl _⟩
theorem shp_all {α : Type} {f : α → PyData} {n : Nat} (h : ∀ x, Shp n (f x)) : ∀ l : List α, PyData.canLayAll0 (l.map f) = true ∧ PyData.depthAll (l.map f) ≤ n
  | [] => ⟨rfl, by rw [List.map_nil, PyData.depthAll]; exact Nat.zero_le _⟩
  | a :: l => by
    obtain ⟨h1, h2⟩ := shp_all h l
    refine ⟨?_, ?_⟩
    · rw [List.map_cons, PyData.canLayAll0, (h a).can, h1]
      rfl
    · rw [List.map_cons, PyData.depthAll]
      have := (h a).dep
      omega
theorem Shp.lst {α : Type} {f : α → PyData} {n : Nat} (h : ∀ x, Shp n (f x)) (l : List α) : Shp (n + 1) (.list (l.map f)) := by
  obtain ⟨h1, h2⟩ := shp_all h l
  exact ⟨by rw [PyData.canLay0]; exact h1, by rw [PyData.depth]; omega⟩
theorem Shp.tup {α : Type} {f : α → PyData} {n : Nat} (h : ∀ x, Shp n (f x)) (l : List α) : Shp (n + 1) (.tuple (l.map f)) := by
  obtain ⟨h1, h2⟩ := shp_all h l
  exact ⟨by rw [PyData.canLay0]; exact h1, by rw [PyData.depth]; omega⟩
theorem shp_dI (l : List Int) : Shp 1 (dI l) := .tup .int l
theorem eqv_self {n : Nat} {d : PyData} (h : Shp n d) (hn : n ≤ 64) : PyData.eqv d d = true := SeqAt.eqv_refl d h.can
theorem eqv_empty {ds : List PyData} {n : Nat} (h : Shp n (.list ds)) (hn : n ≤ 64) : PyData.eqv (.list ds) (.list []) = decide (ds = []) := by
  cases ds with
  | nil =>
    rw [eqv_self h hn]
    rfl
  | cons d ds =>
    rw [PyData.eqv, decide_eq_false (fun z => nomatch z)]
    exact SeqAt.eqvAll_other_length (by simp)
section
variable {K : PySem.W.Frag} {H : Hp}
theorem dp_ints : ∀ l : List Int, DpAll K H (iV l) (l.map PyData.int)
  | [] => .nil
  | a :: l => .cons (.int a) (dp_ints l)
theorem dp_bools : ∀ l : List Bool, DpAll K H (l.map V.bl) (l.map PyData.bool)
  | [] => .nil
  | a :: l => .cons (.bl a) (dp_bools l)
theorem dp_tups : ∀ {xs : List V} {ls : List (List Int)}, TupsV K H xs ls → DpAll K H xs (ls.map dI)
  | _, _, .nil => .nil
  | _, _, .cons ⟨t, e, h⟩ r => by
    subst e
    exact .cons (.tup h (dp_ints _)) (dp_tups r)
end
def rowOf (N : Nat) (g : Nat → Int) : List Int := (List.range (N + 1)).map g
theorem rowOf_len {N : Nat} {g : Nat → Int} : (rowOf N g).length = N + 1 := by
  unfold rowOf
  rw [List.length_map, List.length_range]
theorem rowOf_get {N j : Nat} {g : Nat → Int} (h : j ≤ N) : (iV (rowOf N g))[j]? = some (.int (g j)) := by
  unfold rowOf
  rw [List.getElem?_map, List.getElem?_map, List.getElem?_range (by omega)]
  rfl
theorem rowOf_congr {N : Nat} {g h : Nat → Int} (e : ∀ k, k ≤ N → g k = h k) : rowOf N g = rowOf N h := by
  unfold rowOf
  refine List.map_congr_left fun k hk => e k ?_
  have := List.mem_range.mp hk
  omega
theorem rowOf_set {N j : Nat} {g : Nat → Int} {v : Int} : (iV (rowOf N g)).set j (.int v) = iV (rowOf N fun k => if k = j then v else g k) := by
  unfold rowOf
  refine List.ext_getElem? fun k => ?_
  rw [List.getElem?_set, List.getElem?_map, List.getElem?_map, List.getElem?_map, List.getElem?_map]
  by_cases c : j = k
  · subst c
    rw [if_pos rfl]
    by_cases d : j < N + 1
    · rw [List.getElem?_range d, if_pos (by rw [List.length_map, List.length_map, List.length_range]; exact d)]
      show _ = some (V.int (if j = j then v else g j))
      rw [if_pos rfl]
    · rw [if_neg (by rw [List.length_map, List.length_map, List.length_range]; exact d), List.getElem?_eq_none (by rw [List.length_range]; omega)]
      rfl
  · rw [if_neg c]
    by_cases d : k < N + 1
    · rw [List.getElem?_range d]
      show some (V.int (g k)) = some (V.int (if k = j then v else g k))
      rw [if_neg fun z => c z.symm]
    · rw [List.getElem?_eq_none (by rw [List.length_range]; omega)]
      rfl
/-- over range(n), each turn with the dice -/
theorem lc_dice {lo : Int} {N i : Nat} {te : TE} {vs : List Nat} {σ : L2.St} {H : Hp} {d D : Addr} {L : List V} {Qd : Hp → Prop} (Pj : Int → Prop) (hD : H D = none) (hd1 : H d = some (.lst L)) (hL : DiceL L) (ln : N ≤ 900)
    (hw : ∀ x : V, wipe ((wipe σ vs).set i (some x)) vs = wipe σ vs)
    (he : ∀ (n : Nat) (H2 : Hp) (L2 : List V) (Q : VK), n < N → But d H H2 → H2 d = some (.lst L2) → DiceL L2 → (∀ (H3 : Hp) (L3 : List V) (j : Int), But d H2 H3 → H3 d = some (.lst L3) → DiceL L3 → Pj j → Q (.int j) H3) → te ((wipe σ vs).set i (some (.int (lo + n)))) H2 Q)
    (hd : ∀ (H' : Hp) (L' : List V) (M : List Int), But d H H' → H' d = some (.lst L') → DiceL L' → H' D = some (.lst (iV M)) → M.length = N → (∀ j ∈ M, Pj j) → Qd H') : LcW (Itr lo N) (gName i) tYes te vs σ H D Qd := by
  have nD : D ≠ d := fun z => by rw [z, hd1] at hD; cases hD
  refine lc_it (walk_range (lo := lo) (n := N)) (fun n H' => ∃ (M : List Int) (L' : List V), M.length = n ∧ (∀ j ∈ M, Pj j) ∧ DiceL L' ∧ H' d = some (.lst L') ∧ H' D = some (.lst (iV M)) ∧ But d H H') ⟨[], L, rfl, (fun _ h => absurd h List.not_mem_nil), hL, ?_, upd_same, (But.refl d H).back hD⟩ (fun _ _ _ _ => trivial) (fun n x H2 H3 hn p y => ?_) fun H' p => ?_
  · rw [upd_ne nD.symm]
    exact hd1
  · obtain ⟨M, L', lM, tM, hL', hd2, hD2, B2⟩ := p
    obtain ⟨rfl, rfl⟩ := y
    refine ⟨hw _, iteT (B := True) (he n _ L' _ hn B2 hd2 hL' fun H3 L3 j B3 hd3 hL3 pj => ?_)⟩
    have hD3 := B3 _ _ nD hD2
    refine ⟨iV M, hD3, small1000 (by rw [List.length_map]; omega), M ++ [j], L3, by rw [List.length_append, lM]; rfl, ?_, hL3, ?_, ?_, (B2.trans B3).back hD⟩
    · intro e he
      rcases List.mem_append.mp he with z | z
      · exact tM e z
      · rw [List.mem_singleton.mp z]
        exact pj
    · rw [upd_ne nD.symm]
      exact hd3
    · rw [upd_same]
      show _ = some (HO.lst (List.map V.int (M ++ [j])))
      rw [List.map_append]
      rfl
  · obtain ⟨M, L', lM, tM, hL', hd2, hD2, B2⟩ := p
    exact hd H' L' M B2 hd2 hL' hD2 lM tM
theorem bits500 {g : Int} (a : 0 ≤ g) (b : g ≤ 1000) : g.natAbs < 2 ^ 500 := Nat.lt_of_le_of_lt (by omega : g.natAbs ≤ 1000) (by decide)
theorem cat_tup {K : PySem.W.Frag} {H : Hp} {a b : Addr} {xs ys : List V} {Q : VK} (ha : SqT K H a xs) (hb : SqT K H b ys) (n : xs.length + ys.length ≤ 1000) (k : ∀ (H' : Hp) (p : Addr), Same H H' → SqT K H' p (xs ++ ys) → Q (.ref p) H') : rCatA K (.ref a) (.ref b) H Q := by
  refine ⟨a, b, xs, ys, rfl, rfl, ha, hb, Nat.le_of_lt (small1000 n), fun e => ?_, fun _ e => ?_, fun _ _ p hp => k _ p (Same.new hp) (SqT.of upd_same)⟩
  · subst e
    exact k H b (Same.refl _) hb
  · subst e
    refine k H a (Same.refl _) ?_
    rw [List.append_nil]
    exact ha
theorem tv_append {K : PySem.W.Frag} {H : Hp} : ∀ {xs ys : List V} {ls ms : List (List Int)}, TupsV K H xs ls → TupsV K H ys ms → TupsV K H (xs ++ ys) (ls ++ ms)
  | _, _, _, _, .nil, h => h
  | _, _, _, _, .cons a r, h => .cons a (tv_append r h)
theorem tv_tail {K : PySem.W.Frag} {H : Hp} {xs : List V} {ls : List (List Int)} (h : TupsV K H xs ls) : TupsV K H xs.tail ls.tail := by
  cases h with
  | nil => exact .nil
  | cons _ r => exact r
theorem none_of {H H1 : Hp} {p : Addr} (s : Same H H1) (h : H1 p = none) : H p = none := by
  cases z : H p with
  | none => rfl
  | some o =>
    rw [s _ _ z] at h
    cases h
theorem i60_small {i : Int} (h0 : 0 ≤ i) (h1 : i ≤ 1000) : i60 (.int i) = true := by
  show (decide (-(10 ^ 60) < i) && decide (i < 10 ^ 60)) = true
  rw [decide_eq_true (by omega), decide_eq_true (by omega)]
  rfl
theorem betw_small {i a b : Int} (h0 : 0 ≤ i) (h1 : i ≤ 1000) (ha : a ≤ i) (hb : i ≤ b) : betw (.int i) a b = true := by
  show (i60 (.int i) && (decide (a ≤ i) && decide (i ≤ b))) = true
  rw [i60_small h0 h1, decide_eq_true ha, decide_eq_true hb]
  rfl
theorem all_true {α : Type} {L : List α} : ((L.map fun _ => true).all id) = true := by
  rw [List.all_map, List.all_eq_true]
  intro _ _
  rfl
theorem any_false {α : Type} {L : List α} : ((L.map fun _ => false).any id) = false := by
  rw [List.any_map, List.any_eq_false]
  intro _ _
  exact Bool.false_ne_true
theorem filter_yes {L : List Int} : L.filter (fun _ => true) = L := List.filter_eq_self.mpr fun _ _ => rfl
theorem tv_but {K : PySem.W.Frag} {d : Addr} {H H' : Hp} {L : List V} {xs : List V} {ls : List (List Int)} (h : TupsV K H xs ls) (B : But d H H') (hd : H d = some (.lst L)) : TupsV K H' xs ls := Paired.mapP h fun _ _ ⟨t, e, q⟩ => ⟨t, e, B.tup hd q⟩
theorem seqBut {K : PySem.W.Frag} {H H' : Hp} {a d : Addr} {xs : List V} {o : HO} (h : SqL K H a xs) (hd : H d = none) (B : But d (upd H d o) H') : SqL K H' a xs := by
  rcases h with (h | ⟨ob, h⟩) | h
  · have ne := ne_of_none h hd
    exact .inl (.inl (B _ _ ne (by rw [upd_ne ne]; exact h)))
  · have ne := ne_of_none h hd
    exact .inl (.inr ⟨ob, B _ _ ne (by rw [upd_ne ne]; exact h)⟩)
  · exact .inr h
/-- right letters -/
structure Lt (L : List Int) : Prop where
  len : L.length ≤ 24
  lo : ∀ d ∈ L, 1 ≤ d
  hi : ∀ d ∈ L, d ≤ 40
theorem Lt.all {L : List Int} (h : Lt L) : (iV L).all (fun x => betw x 1 40) = true := by
  rw [List.all_eq_true]
  intro x hx
  obtain ⟨d, hd, rfl⟩ := List.mem_map.mp hx
  have a := h.lo d hd
  have b := h.hi d hd
  show (i60 (.int d) && (decide (1 ≤ d) && decide (d ≤ 40))) = true
  rw [decide_eq_true a, decide_eq_true b]
  show ((decide (-(10 ^ 60) < d) && decide (d < 10 ^ 60)) && true) = true
  rw [decide_eq_true (by omega), decide_eq_true (by omega)]
  rfl
theorem iV_vk {K : PySem.W.Frag} {H : Hp} {L : List Int} : ∀ x ∈ iV L, Vk K H x := fun x hx => by
  obtain ⟨d, _, rfl⟩ := List.mem_map.mp hx
  exact .int d
theorem Lt.is {K : PySem.W.Frag} {H : Hp} {a : Addr} {L : List Int} (h : Lt L) (s : SqT K H a (iV L)) : LetIs K H (.ref a) true := by
  have q := LetIs.tup s (by rw [List.length_map]; exact h.len) iV_vk
  rw [h.all] at q
  exact q
end K6
namespace K6
open PySem PySem.Spec PyProof.Rows L2 RZ
def RowAt (H : Hp) (x : V) (N : Nat) (M : List Int) : Prop := ∃ r, x = .ref r ∧ H r = some (.lst (iV (rowOf N fun k => (cnt M k : Int))))
theorem RowAt.mono {H H' : Hp} {x : V} {N : Nat} {M : List Int} (h : RowAt H x N M) (s : Same H H') : RowAt H' x N M := by
  obtain ⟨r, e, q⟩ := h
  exact ⟨r, e, s _ _ q⟩
theorem cnt_step {a : Nat} (ha : 1 ≤ a) (M : List Int) (k : Nat) : cnt ((a : Int) :: M) k = cnt M k + (if a ≤ k then (if a % 2 = 1 then cnt M (k - a) else cnt ((a : Int) :: M) (k - a)) else 0) := by
  rw [cnt_cons, Int.toNat_natCast]
  unfold op
  by_cases o : a % 2 = 1
  · rw [if_pos o, if_pos o]
    rfl
  · rw [if_neg o, if_neg o]
    exact opE_eq ha _ _
theorem atI_nat {α : Type} {xs : List α} {j : Nat} {x : α} (h : xs[j]? = some x) : atI xs ((j : Nat) : Int) = some x := by
  have hl := (List.getElem?_eq_some_iff.mp h).1
  unfold atI ixN
  rw [if_pos (by omega), if_pos (by omega), Int.toNat_natCast]
  exact h
theorem atI_last {α : Type} {xs : List α} {x : α} {n : Nat} (hn : xs.length = n + 1) (h : xs[n]? = some x) : atI xs (-1) = some x := by
  unfold atI ixN
  rw [if_neg (by omega), if_pos (by omega), hn, show (-1 + ((n + 1 : Nat) : Int)).toNat = n by omega]
  exact h
theorem ixN_nat {n j : Nat} (h : j < n) : ixN n ((j : Nat) : Int) = some j := by
  unfold ixN
  rw [if_pos (by omega), if_pos (by omega), Int.toNat_natCast]
def spCntW : Sp := fun vs H Q _ => ∃ (r : Addr) (N a : Nat) (M : List Int), vs = [.ref r, .int (a : Int)] ∧ 1 ≤ a ∧ a ≤ 40 ∧ N ≤ 900 ∧ H r = some (.lst (iV (rowOf N fun k => (cnt M k : Int)))) ∧ ∀ H' p, Same H H' → H p = none → H' p = some (.lst (iV (rowOf N fun k => (cnt ((a : Int) :: M) k : Int)))) → Q (.ref p) H'
theorem scCntW : FnScope ["row", "letter", "found", "degree", "former"] ["row", "letter"] (defScope sCntW) := ⟨rfl, rfl, rfl, by decide +kernel, rfl, by decide +kernel, by decide +kernel⟩
def half (a : Nat) (M : List Int) (i : Nat) : Nat → Int := fun k => if k < a + i then (cnt ((a : Int) :: M) k : Int) else (cnt M k : Int)
/-- the rows of counts, from each index on -/
def Cnts (H : Hp) (c : Addr) (L : List Int) (N : Nat) : Prop := ∃ xs : List V, H c = some (.lst xs) ∧ xs.length = L.length + 1 ∧ ∀ i, i ≤ L.length → ∃ x, xs[i]? = some x ∧ RowAt H x N (L.drop i)
theorem Cnts.mono {H H' : Hp} {c : Addr} {L : List Int} {N : Nat} (h : Cnts H c L N) (s : Same H H') : Cnts H' c L N := by
  obtain ⟨xs, h1, h2, h3⟩ := h
  refine ⟨xs, s _ _ h1, h2, fun i hi => ?_⟩
  obtain ⟨x, e, r⟩ := h3 i hi
  exact ⟨x, e, r.mono s⟩
def spSuf (K : PySem.W.Frag) : Sp := fun vs H Q _ => ∃ (a : Addr) (L : List Int) (N : Nat), vs = [.ref a, .int (N : Int)] ∧ SqT K H a (iV L) ∧ L.length ≤ 24 ∧ (∀ d ∈ L, 1 ≤ d ∧ d ≤ 40) ∧ N ≤ 900 ∧ ∀ H' p, Same H H' → H p = none → Cnts H' p L N → Q (.ref p) H'
theorem scSuf : FnScope ["letters", "most", "rows", "letter"] ["letters", "most"] (defScope sSuffix) := ⟨rfl, rfl, rfl, by decide +kernel, rfl, by decide +kernel, by decide +kernel⟩
section
variable {P : Program} {w : World} {K : PySem.W.Frag} {mg : Str → Option Value} {base : Heap}
theorem ok_cntw {f : Addr} {fd : FuncData} (F : Fun K "_counts_with" "_counts_with" sCntW f fd) (T : Txt K mg) : FnOk P w K mg base CX0 1 f fd ["row", "letter"] spCntW := by
  refine F.ok scCntW (fun vs H Q E h => ?_) (fun cdv A outer s H vs Q E hr h => ?_)
  · obtain ⟨r, N, a, M, rfl, _⟩ := h; rfl
  obtain ⟨r, N, a, M, rfl, h1, h40, hN, hr0, k⟩ := h
  refine ⟨_, pss_cons (ps_set (i := 2) scCntW.nd rfl (.inl rfl) (pe_callTy call_list_of (by rfl) T.list bootList (pa_cons (pv 0) pa_nil)))
    (pss_cons (ps_for PassesOwn.never rfl (pi_range2 rfl T.range (pa_cons (pv 1) (pa_cons (pe_callB call_len_seq (by rfl) T.len PySem.boot_len (pa_cons (pv 0) pa_nil)) pa_nil))) (pg_name (i := 3) scCntW.nd rfl (.inl rfl))
      (pss_cons (ps_set (i := 4) scCntW.nd rfl (.inl rfl) (pe_ifExp (pt_cmpR op_eq (pe_op op_mod (pv 1) pe_int) pe_int (nomark _)) (pv 0) (pv 2)))
      (pss_one (ps_asg (pe_op op_add (pe_ix ix_list (pv 2) (pv 3) (fun _ _ => rfl)) (pe_ix ix_list (pv 4) (pe_op op_sub (pv 3) (pv 1)) (fun _ _ => rfl))) (pg_sub (pv 2) (pv 3) set_list)))))
    (pss_one (ps_ret (pv 2)))), ?_⟩
  refine ⟨_, rfl, r, _, rfl, .inl (SqL.of hr0), fun p hp => ?_⟩
  have s0 := Same.new (o := .lst (iV (rowOf N fun k => (cnt M k : Int)))) hp
  have ne : r ≠ p := fun z => by rw [z, hp] at hr0; cases hr0
  have ll : (iV (rowOf N fun k => (cnt M k : Int))).length = N + 1 := by rw [List.length_map, rowOf_len]
  refine ⟨_, rfl, _, rfl, r, _, rfl, .inl (SqL.of (s0 _ _ hr0)), _, _, rfl, ⟨by omega, by omega, by omega, by rw [ll]; omega⟩, for_it (walk_range (lo := (a : Int)) (n := (((iV (rowOf N fun k => (cnt M k : Int))).length : Int) - (a : Int)).toNat))
    (fun i σ H' => (∃ o3 o4, σ = [some (.ref r), some (.int (a : Int)), some (.ref p), o3, o4]) ∧ H' p = some (.lst (iV (rowOf N (half a M i)))) ∧ Same H H') ⟨⟨_, _, rfl⟩, ?_, s0⟩ (fun _ _ _ _ _ => trivial) (fun i x σ H0 H1 hi q y => ?_) fun σ H1 q => ?_⟩
  · rw [upd_same]
    congr 3
    refine rowOf_congr fun k hk => ?_
    unfold half
    by_cases c : k < a + 0
    · rw [if_pos c, cnt_step h1, if_neg (by omega)]
      rfl
    · rw [if_neg c]
  · obtain ⟨⟨o3, o4, rfl⟩, hp1, s1⟩ := q
    obtain ⟨rfl, rfl⟩ := y
    rw [ll] at hi
    have hd : a + i ≤ N := by omega
    have hr1 := s1 _ _ hr0
    have fin : ∀ v : Int, v = (cnt ((a : Int) :: M) (a + i) : Int) → (iV (rowOf N (half a M i))).set (a + i) (.int v) = iV (rowOf N (half a M (i + 1))) := fun v hv => by
      rw [rowOf_set]
      congr 1
      refine rowOf_congr fun k hk => ?_
      unfold half
      by_cases c : k = a + i
      · rw [if_pos c, if_pos (by omega), c, hv]
      · rw [if_neg c]
        by_cases d : k < a + i
        · rw [if_pos d, if_pos (by omega)]
        · rw [if_neg d, if_neg (by omega)]
    have l1 : (iV (rowOf N (half a M i))).length = N + 1 := by rw [List.length_map, rowOf_len]
    have e1 : (a : Int) + (i : Int) = ((a + i : Nat) : Int) := by omega
    have e2 : (a : Int) + (i : Int) - (a : Int) = ((i : Nat) : Int) := by omega
    have g1 : (iV (rowOf N (half a M i)))[a + i]? = some (.int (cnt M (a + i) : Int)) := by
      rw [rowOf_get hd]
      unfold half
      rw [if_neg (by omega)]
    refine ⟨_, rfl, _, _, rfl, rfl, (by show (0 : Int) < 2; decide), rfl, ?_⟩
    have at1 : atI (iV (rowOf N (half a M i))) ((a : Int) + (i : Int)) = some (.int (cnt M (a + i) : Int)) := by
      rw [e1]
      exact atI_nat g1
    have ix1 : ixN (iV (rowOf N (half a M i))).length ((a : Int) + (i : Int)) = some (a + i) := by
      rw [e1, l1]
      exact ixN_nat (by omega)
    refine ⟨_, rfl, ite2 (fun c => ?_) (fun c => ?_)⟩
    · have c := V.int.inj (of_decide_eq_true c)
      have at2 : atI (iV (rowOf N fun k => (cnt M k : Int))) ((a : Int) + (i : Int) - (a : Int)) = some (.int (cnt M i : Int)) := by
        rw [e2]
        exact atI_nat (rowOf_get (by omega))
      refine ⟨_, rfl, _, rfl, _, rfl, p, _, _, _, rfl, rfl, SqL.of hp1, at1, _, rfl, _, rfl, _, rfl, _, _, rfl, rfl, r, _, _, _, rfl, rfl, SqL.of hr1, at2, _, _, rfl, rfl, _, rfl, _, rfl, p, _, _, a + i, rfl, rfl, hp1, ix1, ⟨_, _, rfl⟩, ?_, Same.back s1 hp⟩
      rw [upd_same, fin]
      rw [cnt_step h1, if_pos (by omega), if_pos (by omega), show a + i - a = i by omega]
      omega
    · have c : ¬ ((a : Int) % 2 = 1) := fun z => c (decide_eq_true (congrArg V.int z))
      have at2 : atI (iV (rowOf N (half a M i))) ((a : Int) + (i : Int) - (a : Int)) = some (.int (cnt ((a : Int) :: M) i : Int)) := by
        rw [e2]
        refine atI_nat ?_
        rw [rowOf_get (by omega)]
        unfold half
        rw [if_pos (by omega)]
      refine ⟨_, rfl, _, rfl, _, rfl, p, _, _, _, rfl, rfl, SqL.of hp1, at1, _, rfl, _, rfl, _, rfl, _, _, rfl, rfl, p, _, _, _, rfl, rfl, SqL.of hp1, at2, _, _, rfl, rfl, _, rfl, _, rfl, p, _, _, a + i, rfl, rfl, hp1, ix1, ⟨_, _, rfl⟩, ?_, Same.back s1 hp⟩
      rw [upd_same, fin]
      rw [cnt_step h1 M (a + i), if_pos (by omega), if_neg (by omega), show a + i - a = i by omega]
      omega
  · obtain ⟨⟨o3, o4, rfl⟩, hp1, s1⟩ := q
    refine ⟨_, rfl, k H1 p s1 hp ?_⟩
    rw [hp1]
    congr 3
    refine rowOf_congr fun k hk => ?_
    unfold half
    rw [ll]
    rw [if_pos (by omega)]
theorem ok_suf {fC : Addr} {dC : FuncData} {f : Addr} {fd : FuncData} (F : Fun K "suffix_counts" "suffix_counts" sSuffix f fd) (T : Txt K mg) (gC : mg "_counts_with" = some (.ref fC)) (kC : PySem.W.keepIn K (.ref fC) = true) (bC : Binds K dC ["row", "letter"] [])
    (FC : FnOk P w K mg base CX0 1 fC dC ["row", "letter"] spCntW) : FnOk P w K mg base CX0 2 f fd ["letters", "most"] (spSuf K) := by
  refine F.ok scSuf (fun vs H Q E h => ?_) (fun cdv A outer s H vs Q E hr h => ?_)
  · obtain ⟨a, L, N, rfl, _⟩ := h; rfl
  obtain ⟨a, L, N, rfl, ha, ln, hL, hN, k⟩ := h
  refine ⟨_, pss_cons (ps_set (i := 2) scSuf.nd rfl (.inl rfl) (pe_lst (pa_cons (pe_op op_cat (pe_lst (pa_cons pe_int pa_nil)) (pe_op op_rep (pe_lst (pa_cons pe_int pa_nil)) (pv 1))) pa_nil)))
    (pss_cons (ps_for PassesOwn.never rfl (RT.pi_revA (by rfl) T.reversed (pv 0)) (pg_name (i := 3) scSuf.nd rfl (.inl rfl))
      (pss_one (ps_expr (pe_bm PySem.F.plainAttrs_list PySem.F.slot_list_append PySem.F.type_list_append mt_append (pv 2) (pa_cons (pe_call FC hr (by rfl) gC kC bC .nil pass0 (pa_cons (pe_ix ix_list (pv 2) (pe_un un_neg pe_int) (fun _ _ => rfl)) (pa_cons (pv 3) pa_nil))) pa_nil)))))
    (pss_one (ps_ret (pe_revL (pv 2))))), ?_⟩
  have big : N + 1 ≤ sizeLine := Nat.le_of_lt (small1000 (by omega))
  refine ⟨(by show 1 ≤ sizeLine; decide), fun p1 hp1 => ⟨(by show 1 ≤ sizeLine; decide), fun p2 hp2 => ⟨_, rfl, p2, N, [.int 0], rfl, rfl, upd_same, by omega, by omega, by show 1 * ((N : Nat) : Int).toNat ≤ sizeLine; omega, fun p3 hp3 => ?_⟩⟩⟩
  have s1 := Same.new (o := .lst [.int 1]) hp1
  have s2 := Same.new (o := .lst [.int 0]) hp2
  have s3 := Same.new (o := .lst (List.replicate ((N : Nat) : Int).toNat [V.int 0]).flatten) hp3
  have e0 : [V.int 1] ++ (List.replicate ((N : Nat) : Int).toNat [V.int 0]).flatten = iV (rowOf N fun k => (cnt [] k : Int)) := by
    rw [Int.toNat_natCast, List.flatten_replicate_singleton]
    unfold rowOf
    rw [List.range_succ_eq_map, List.map_cons, iV, List.map_cons, List.map_map, List.map_map]
    show V.int 1 :: _ = V.int 1 :: _
    congr 1
    rw [show ((V.int ∘ fun k => (cnt [] k : Int)) ∘ Nat.succ) = fun _ => V.int 0 from rfl, List.map_const', List.length_range]
    rfl
  refine ⟨p1, p3, _, _, rfl, rfl, (s2.trans s3) _ _ upd_same, upd_same, ?_, fun p4 hp4 => ?_⟩
  · rw [Int.toNat_natCast, List.flatten_replicate_singleton, List.length_replicate]
    show 1 + N ≤ sizeLine
    omega
  rw [e0]
  have s4 := Same.new (o := .lst (iV (rowOf N fun k => (cnt [] k : Int)))) hp4
  refine ⟨(by show 1 ≤ sizeLine; decide), fun p5 hp5 => ?_⟩
  have s5 := Same.new (o := .lst [.ref p4]) hp5
  have s15 := s1.trans (s2.trans (s3.trans (s4.trans s5)))
  have hq5 : H p5 = none := none_of (s1.trans (s2.trans (s3.trans s4))) hp5
  refine ⟨_, rfl, a, iV L, rfl, .inr ⟨tupSame s15 ha, ?_⟩⟩
  have lL : (iV L).length = L.length := List.length_map _
  refine RT.for_ItvT (fun i σ H' => ∃ (o3 : Option V) (xs : List V), σ = [some (.ref a), some (.int (N : Int)), some (.ref p5), o3] ∧ Same H H' ∧ H' p5 = some (.lst xs) ∧ xs.length = i + 1 ∧ ∀ j, j ≤ i → ∃ x, xs[j]? = some x ∧ RowAt H' x N (L.drop (L.length - j)))
    ⟨none, [.ref p4], rfl, s15, upd_same, rfl, fun j hj => ?_⟩ (fun i σ H' q => ?_) (fun i x σ H' hi hx q => ?_) fun σ H' q => ?_
  · obtain rfl : j = 0 := by omega
    exact ⟨_, rfl, p4, rfl, by rw [Nat.sub_zero, List.drop_length]; exact s5 _ _ upd_same⟩
  · obtain ⟨o3, xs, rfl, s6, _⟩ := q
    exact tupSame s6 ha
  · obtain ⟨o3, xs, rfl, s6, hx5, lx, hr6⟩ := q
    rw [lL] at hi hx
    rw [List.getElem?_map] at hx
    obtain ⟨d, hd, rfl⟩ := Option.map_eq_some_iff.mp hx
    have dr := hL d (List.mem_of_getElem? hd)
    obtain ⟨c, rfl⟩ : ∃ c : Nat, d = (c : Int) := ⟨d.toNat, by omega⟩
    obtain ⟨y, hy, r, rfl, hrow⟩ := hr6 i (Nat.le_refl _)
    have ed : L.drop (L.length - (i + 1)) = (c : Int) :: L.drop (L.length - i) := by
      have z : L.length - (i + 1) = L.length - 1 - i := by omega
      have z2 : L.length - i = L.length - 1 - i + 1 := by omega
      rw [z, z2]
      exact List.drop_eq_getElem?_toList_append.trans (by rw [hd]; rfl)
    refine ⟨_, rfl, .inl ⟨rfl, _, SqL.of hx5⟩, _, rfl, _, rfl, p5, xs, _, _, rfl, rfl, SqL.of hx5, atI_last lx hy, _, rfl, r, N, c, _, rfl, by omega, by omega, hN, hrow, fun H7 q s7 hq h7 => ?_⟩
    refine ⟨p5, xs, .ref q, rfl, rfl, s7 _ _ hx5, Nat.lt_of_le_of_lt (by omega : xs.length ≤ 25) (small1000 (by omega)), _, xs ++ [.ref q], rfl, Same.back (s6.trans s7) hq5, upd_same, by rw [List.length_append, lx]; rfl, fun j hj => ?_⟩
    have keep : ∀ {b : Addr} {M : List Int}, H7 b = some (.lst (iV (rowOf N fun k => (cnt M k : Int)))) → upd H7 p5 (.lst (xs ++ [.ref q])) b = some (.lst (iV (rowOf N fun k => (cnt M k : Int)))) := fun {b M} hb => by
      rw [upd_ne (fun z => ?_)]
      · exact hb
      · rw [z, s7 _ _ hx5] at hb
        have := HO.lst.inj (Option.some.inj hb)
        obtain ⟨y0, hy0, r0, rfl, _⟩ := hr6 0 (Nat.zero_le _)
        rw [this, rowOf_get (Nat.zero_le _)] at hy0
        cases hy0
    by_cases cj : j ≤ i
    · obtain ⟨x, hx, r', rfl, hr'⟩ := hr6 j cj
      exact ⟨_, by rw [List.getElem?_append_left (by omega)]; exact hx, r', rfl, keep (s7 _ _ hr')⟩
    · obtain rfl : j = i + 1 := by omega
      refine ⟨.ref q, by rw [List.getElem?_append_right (by omega), lx, Nat.sub_self]; rfl, q, rfl, ?_⟩
      rw [ed]
      exact keep h7
  · obtain ⟨o3, xs, rfl, s6, hx5, lx, hr6⟩ := q
    rw [lL] at lx hr6
    refine ⟨_, rfl, p5, xs, rfl, SqL.of hx5, fun p6 hp6 => ?_⟩
    have s7 := Same.new (o := .lst xs.reverse) hp6
    refine k _ p6 (s6.trans s7) (none_of s6 hp6) ⟨xs.reverse, upd_same, by rw [List.length_reverse, lx], fun i hi => ?_⟩
    obtain ⟨x, hx, rr⟩ := hr6 (L.length - i) (by omega)
    refine ⟨x, ?_, ?_⟩
    · rw [List.getElem?_reverse (by omega), lx, ← hx]
      congr 1
    · rw [show L.length - (L.length - i) = i by omega] at rr
      exact rr.mono s7
end
end K6
namespace K6
open PySem PySem.Spec PyProof.Rows L2 RZ
theorem Lt.pos {L : List Int} (h : Lt L) : Pos1 L := h.lo
theorem Lt.drop {L : List Int} (h : Lt L) (i : Nat) : Pos1 (L.drop i) := fun y hy => h.lo y (List.mem_of_mem_drop hy)
theorem least_len : ∀ (L : List Int) (d : Nat), (least L d).length = L.length
  | [], _ => rfl
  | h :: L, d => by
    show (least L _).length + 1 = L.length + 1
    rw [least_len L]
theorem fst_spec {h : Int} {M : List Int} {r : Nat} (hp : Pos1 (h :: M)) (c : 0 < cnt (h :: M) r) : fstE h M r * h.toNat ≤ r ∧ 0 < cnt M (r - fstE h M r * h.toNat) ∧ ∀ e, e < fstE h M r → cnt M (r - e * h.toNat) = 0 := by
  have hp' : Pos1 M := fun y hy => hp y (List.mem_cons_of_mem _ hy)
  have h1 := hp h List.mem_cons_self
  cases z : (List.range (mx h r + 1)).find? fun e => decide (0 < cnt M (r - e * h.toNat)) with
  | none =>
    have q := List.find?_eq_none.mp z
    have e : wds (h :: M) r = [] := by
      rw [wds_cons, List.flatMap_eq_nil_iff]
      intro x hx
      have := q x hx
      rw [decide_eq_true_eq] at this
      rw [List.map_eq_nil_iff]
      refine List.eq_nil_of_length_eq_zero ?_
      rw [wds_len M _ hp']
      omega
    rw [← wds_len _ _ hp, e] at c
    cases c
  | some e =>
    have f : fstE h M r = e := by
      unfold fstE
      rw [z]
      rfl
    obtain ⟨q1, q2, q3⟩ := List.find?_range_eq_some.mp z
    have em := List.mem_range.mp q2
    rw [f]
    refine ⟨?_, of_decide_eq_true q1, fun k hk => ?_⟩
    · have : e ≤ r / h.toNat := by
        unfold mx at em
        split at em <;> omega
      exact (Nat.le_div_iff_mul_le (by omega)).mp this
    · have := q3 k hk
      rw [Bool.not_eq_true', decide_eq_false_iff_not] at this
      omega
def spLeast (K : PySem.W.Frag) : Sp := fun vs H Q _ => ∃ (a c : Addr) (L : List Int) (N st r : Nat), vs = [.ref a, .ref c, .int (st : Int), .int (r : Int)] ∧ SqT K H a (iV L) ∧ Cnts H c L N ∧ Lt L ∧ N ≤ 900 ∧ st ≤ L.length ∧ r ≤ N ∧ 0 < cnt (L.drop st) r ∧ ∀ H' p, Same H H' → H p = none → H' p = some (.lst (iV (least (L.drop st) r))) → Q (.ref p) H'
theorem scLeast : FnScope ["letters", "counts", "start", "rest", "found", "index", "exponent"] ["letters", "counts", "start", "rest"] (defScope sLeast) := ⟨rfl, rfl, rfl, by decide +kernel, rfl, by decide +kernel, by decide +kernel⟩
/-- a word, or None -/
def WordIs (K : PySem.W.Frag) (H : Hp) (v : V) : Option (List Int) → Prop
  | none => v = .non
  | some w => ∃ t, v = .ref t ∧ SqT K H t (iV w)
theorem WordIs.mono {K : PySem.W.Frag} {H H' : Hp} {v : V} : ∀ {o : Option (List Int)}, WordIs K H v o → Same H H' → WordIs K H' v o
  | none, h, _ => h
  | some w, ⟨t, e, q⟩, s => ⟨t, e, tupSame s q⟩
def spFirst (K : PySem.W.Frag) : Sp := fun vs H Q _ => ∃ (a c : Addr) (L : List Int) (N d : Nat), vs = [.ref a, .ref c, .int (d : Int)] ∧ SqT K H a (iV L) ∧ Cnts H c L N ∧ Lt L ∧ N ≤ 900 ∧ d ≤ N ∧ ∀ H' v, Same H H' → WordIs K H' v (wds L d).head? → Q v H'
theorem scFirst : FnScope ["letters", "counts", "degree"] ["letters", "counts", "degree"] (defScope sFirst) := ⟨rfl, rfl, rfl, by decide +kernel, rfl, by decide +kernel, by decide +kernel⟩
def riseV (o : Option Nat) : Int := match o with
  | some k => ((k + 1 : Nat) : Int)
  | none => 0
def spRise : Sp := fun vs H Q _ => ∃ (r : Addr) (M : List Int) (N g e d : Nat), vs = [.int (g : Int), .ref r, .int (e : Int), .int (d : Int)] ∧ H r = some (.lst (iV (rowOf N fun k => (cnt M k : Int)))) ∧ N ≤ 900 ∧ d ≤ N ∧ 1 ≤ g ∧ g ≤ 40 ∧ e ≤ 1000 ∧ Q (.int (riseV (rise (g : Int) M (e : Int) d))) H
theorem scRise : FnScope ["letter", "counts", "exponent", "rest", "most", "rise"] ["letter", "counts", "exponent", "rest"] (defScope sRise) := ⟨rfl, rfl, rfl, by decide +kernel, rfl, by decide +kernel, by decide +kernel⟩
section
variable {P : Program} {w : World} {K : PySem.W.Frag} {mg : Str → Option Value} {base : Heap}
theorem ok_least {f : Addr} {fd : FuncData} (F : Fun K "_least_exponents" "_least_exponents" sLeast f fd) (T : Txt K mg) : FnOk P w K mg base CX0 1 f fd ["letters", "counts", "start", "rest"] (spLeast K) := by
  refine F.ok scLeast (fun vs H Q E h => ?_) (fun cdv A outer s H vs Q E hr h => ?_)
  · obtain ⟨a, c, L, N, st, r, rfl, _⟩ := h; rfl
  obtain ⟨a, c, L, N, st, r, rfl, ha, hc, hL, hN, hst, hrN, hpos, k⟩ := h
  refine ⟨_, pss_cons (ps_set (i := 4) scLeast.nd rfl (.inl rfl) (pe_lst pa_nil))
    (pss_cons (ps_for PassesOwn.never rfl (pi_range2 rfl T.range (pa_cons (pv 2) (pa_cons (pe_callB call_len_seq (by rfl) T.len PySem.boot_len (pa_cons (pv 0) pa_nil)) pa_nil))) (pg_name (i := 5) scLeast.nd rfl (.inl rfl))
      (pss_cons (ps_set (i := 6) scLeast.nd rfl (.inl rfl) pe_int)
      (pss_cons (ps_while PassesOwn.never (pt_cmpR op_eq (pe_ix ix_list (pe_ix ix_list (pv 1) (pe_op op_add (pv 5) pe_int) (fun _ _ => rfl)) (pv 3) (fun _ _ => rfl)) pe_int (nomark _))
        (pss_cons (ps_aug (i := 6) scLeast.nd rfl (.inl rfl) pe_int ip_add)
        (pss_one (ps_set (i := 3) scLeast.nd rfl (.inl rfl) (pe_op op_sub (pv 3) (pe_ix ix_tup (pv 0) (pv 5) (fun _ _ => rfl)))))))
      (pss_one (ps_expr (pe_bm PySem.F.plainAttrs_list PySem.F.slot_list_append PySem.F.type_list_append mt_append (pv 4) (pa_cons (pv 6) pa_nil)))))))
    (pss_one (ps_ret (pv 4)))), ?_⟩
  have lL : (iV L).length = L.length := List.length_map _
  have h24 := hL.len
  refine ⟨(by show 0 ≤ sizeLine; decide), fun q hq => ?_⟩
  have s0 := Same.new (o := .lst []) hq
  refine ⟨_, rfl, _, rfl, a, _, rfl, .inr (tupSame s0 ha), _, _, rfl, ⟨by omega, by omega, by omega, by rw [lL]; omega⟩, for_it (walk_range (lo := (st : Int)) (n := (((iV L).length : Int) - (st : Int)).toNat))
    (fun i σ H' => ∃ (o5 o6 : Option V) (r' : Nat) (u : List Int), σ = [some (.ref a), some (.ref c), some (.int (st : Int)), some (.int (r' : Int)), some (.ref q), o5, o6] ∧ Same H H' ∧ H' q = some (.lst (iV u)) ∧ u.length = i ∧ u ++ least (L.drop (st + i)) r' = least (L.drop st) r ∧ r' ≤ N ∧ 0 < cnt (L.drop (st + i)) r')
    ⟨_, _, r, [], rfl, s0, upd_same, rfl, rfl, hrN, hpos⟩ (fun _ _ _ _ _ => trivial) (fun i x σ H0 H1 hi q y => ?_) fun σ H1 q => ?_⟩
  · obtain ⟨o5, o6, r', u, rfl, s1, hu, lu, hl, hr', hc'⟩ := q
    obtain ⟨rfl, rfl⟩ := y
    rw [lL] at hi
    have hj : st + i < L.length := by omega
    have ed : L.drop (st + i) = L[st + i] :: L.drop (st + i + 1) := List.drop_eq_getElem_cons hj
    have hm : L[st + i] ∈ L := List.getElem_mem hj
    have b1 := hL.lo _ hm
    have b2 := hL.hi _ hm
    have gL : (iV L)[st + i]? = some (.int L[st + i]) := by
      rw [List.getElem?_map, List.getElem?_eq_getElem hj]
      rfl
    generalize L[st + i] = hh at *
    obtain ⟨g, rfl⟩ : ∃ g : Nat, hh = (g : Int) := ⟨hh.toNat, by omega⟩
    have hp : Pos1 ((g : Int) :: L.drop (st + i + 1)) := by rw [← ed]; exact hL.drop _
    rw [ed] at hc' hl
    obtain ⟨f1, f2, f3⟩ := fst_spec hp hc'
    have el : least ((g : Int) :: L.drop (st + i + 1)) r' = (fstE (g : Int) (L.drop (st + i + 1)) r' : Int) :: least (L.drop (st + i + 1)) (r' - fstE (g : Int) (L.drop (st + i + 1)) r' * (g : Int).toNat) := rfl
    rw [el] at hl
    rw [Int.toNat_natCast] at f1 f2 f3 hl
    generalize fstE (g : Int) (L.drop (st + i + 1)) r' = E0 at *
    have e1 : (st : Int) + (i : Int) = ((st + i : Nat) : Int) := by omega
    refine ⟨fun m σ H' => H' = H1 ∧ ∃ e : Nat, m + e = E0 ∧ σ = [some (.ref a), some (.ref c), some (.int (st : Int)), some (.int ((r' - e * g : Nat) : Int)), some (.ref q), some (.int ((st : Int) + (i : Int))), some (.int (e : Int))], ⟨E0, rfl, 0, rfl, by rw [Nat.zero_mul]; rfl⟩, fun m σ H' hw => ?_⟩
    obtain ⟨rfl, e, he, rfl⟩ := hw
    obtain ⟨xs, hx, lx, hrow⟩ := hc.mono s1
    obtain ⟨x, gx, rr, rfl, hrr⟩ := hrow (st + i + 1) (by omega)
    have eg : e * g ≤ E0 * g := Nat.mul_le_mul_right g (by omega)
    refine ⟨_, rfl, _, rfl, _, _, rfl, rfl, c, xs, _, _, rfl, rfl, SqL.of hx, ?_, _, rfl, rr, _, _, _, rfl, rfl, SqL.of hrr, atI_nat (rowOf_get (by omega)), rfl, _, rfl, ?_⟩
    · show atI xs ((st : Int) + (i : Int) + 1) = _
      rw [show (st : Int) + (i : Int) + 1 = ((st + i + 1 : Nat) : Int) by omega]
      exact atI_nat gx
    refine ite2 (fun ct => ?_) (fun ct => ?_)
    · have ct := V.int.inj (of_decide_eq_true ct)
      have ne : e < E0 := by
        rcases Nat.lt_or_ge e E0 with z | z
        · exact z
        · obtain rfl : e = E0 := by omega
          omega
      have eg2 : (e + 1) * g ≤ E0 * g := Nat.mul_le_mul_right g (by omega)
      have E1 : ((r' - e * g : Nat) : Int) - (g : Int) = ((r' - (e + 1) * g : Nat) : Int) := by
        rw [Nat.add_mul, Nat.one_mul] at eg2 ⊢
        omega
      refine ⟨fun σ' H'' => H'' = H' ∧ σ' = [some (.ref a), some (.ref c), some (.int (st : Int)), some (.int ((r' - (e + 1) * g : Nat) : Int)), some (.ref q), some (.int ((st : Int) + (i : Int))), some (.int ((e + 1 : Nat) : Int))], fun σ' H'' hh => ⟨m - 1, by omega, hh.1, e + 1, by omega, hh.2⟩, ?_⟩
      refine ⟨_, rfl, _, _, rfl, rfl, _, rfl, _, rfl, _, rfl, a, iV L, _, _, rfl, rfl, tupSame s1 ha, by rw [e1]; exact atI_nat gL, _, _, rfl, rfl, rfl, ?_⟩
      rw [← E1]
      rfl
    · have ct : ¬ ((cnt (L.drop (st + i + 1)) (r' - e * g) : Int) = 0) := fun z => ct (decide_eq_true (congrArg V.int z))
      obtain rfl : e = E0 := by
        rcases Nat.lt_or_ge e E0 with z | z
        · have := f3 e z
          omega
        · omega
      refine ⟨_, rfl, .inl ⟨rfl, _, SqL.of hu⟩, _, rfl, q, _, _, rfl, rfl, hu, ?_, _, _, r' - e * g, u ++ [(e : Int)], rfl, Same.back s1 hq, ?_, ?_, ?_, by omega, f2⟩
      · exact Nat.lt_of_le_of_lt (by rw [List.length_map]; omega : (iV u).length ≤ 24) (small1000 (by omega))
      · rw [upd_same]
        show _ = some (HO.lst (List.map V.int (u ++ [(e : Int)])))
        rw [List.map_append]
        rfl
      · rw [List.length_append, lu]
        rfl
      · rw [← hl, List.append_assoc]
        rfl
  · obtain ⟨o5, o6, r', u, rfl, s1, hu, lu, hl, hr', hc'⟩ := q
    rw [lL] at lu hl
    have z : L.drop (st + ((L.length : Int) - (st : Int)).toNat) = [] := List.drop_eq_nil_of_le (by omega)
    rw [z] at hl
    have hl : u ++ [] = _ := hl
    rw [List.append_nil] at hl
    subst hl
    exact ⟨_, rfl, k H1 q s1 hq hu⟩
theorem ok_first {fE : Addr} {dE : FuncData} {f : Addr} {fd : FuncData} (F : Fun K "first_word" "first_word" sFirst f fd) (T : Txt K mg) (gE : mg "_least_exponents" = some (.ref fE)) (kE : PySem.W.keepIn K (.ref fE) = true) (bE : Binds K dE ["letters", "counts", "start", "rest"] [])
    (FE : FnOk P w K mg base CX0 1 fE dE ["letters", "counts", "start", "rest"] (spLeast K)) : FnOk P w K mg base CX0 2 f fd ["letters", "counts", "degree"] (spFirst K) := by
  refine F.ok scFirst (fun vs H Q E h => ?_) (fun cdv A outer s H vs Q E hr h => ?_)
  · obtain ⟨a, c, L, N, d, rfl, _⟩ := h; rfl
  obtain ⟨a, c, L, N, d, rfl, ha, hc, hL, hN, hd, k⟩ := h
  refine ⟨_, pss_cons (ps_if (pt_cmpR op_eq (pe_ix ix_list (pe_ix ix_list (pv 1) pe_int (fun _ _ => rfl)) (pv 2) (fun _ _ => rfl)) pe_int (nomark _)) (pss_one (ps_ret pe_non)) pss_nil)
    (pss_one (ps_ret (pe_callTy call_tuple_of (by rfl) T.tuple bootTuple (pa_cons (pe_call FE hr (by rfl) gE kE bE .nil pass0 (pa_cons (pv 0) (pa_cons (pv 1) (pa_cons pe_int (pa_cons (pv 2) pa_nil))))) pa_nil)))), ?_⟩
  obtain ⟨xs, hx, lx, hrow⟩ := id hc
  obtain ⟨x, gx, rr, rfl, hrr⟩ := hrow 0 (Nat.zero_le _)
  rw [List.drop_zero] at hrr
  have hh := wds_head (d := d) hL.pos
  refine ⟨_, rfl, c, xs, _, _, rfl, rfl, SqL.of hx, atI_nat gx, _, rfl, rr, _, _, _, rfl, rfl, SqL.of hrr, atI_nat (rowOf_get hd), rfl, _, rfl, ite2 (fun ct => ?_) (fun ct => ?_)⟩
  · have ct := V.int.inj (of_decide_eq_true ct)
    rw [if_neg (by omega)] at hh
    refine k H _ (Same.refl _) ?_
    rw [hh]
    rfl
  · have ct : ¬ ((cnt L d : Int) = 0) := fun z => ct (decide_eq_true (congrArg V.int z))
    rw [if_pos (by omega)] at hh
    refine ⟨_, rfl, _, rfl, _, rfl, a, c, L, N, 0, d, rfl, ha, hc, hL, hN, Nat.zero_le _, hd, by rw [List.drop_zero]; omega, fun H1 p s1 hp h1 => ?_⟩
    rw [List.drop_zero] at h1
    refine ⟨p, _, rfl, .inl ⟨SqL.of h1, fun t ht => ?_⟩⟩
    refine k _ _ (s1.trans (Same.new ht)) ?_
    rw [hh]
    exact ⟨t, rfl, SqT.of upd_same⟩
theorem ok_rise {f : Addr} {fd : FuncData} (F : Fun K "_least_rise" "_least_rise" sRise f fd) (T : Txt K mg) : FnOk P w K mg base CX0 1 f fd ["letter", "counts", "exponent", "rest"] spRise := by
  refine F.ok scRise (fun vs H Q E h => ?_) (fun cdv A outer s H vs Q E hr h => ?_)
  · obtain ⟨r, M, N, g, e, d, rfl, _⟩ := h; rfl
  obtain ⟨r, M, N, g, e, d, rfl, hr0, hN, hd, hg, hg4, he, k⟩ := h
  refine ⟨_, pss_cons (ps_set (i := 4) scRise.nd rfl (.inl rfl) (pe_op op_fdiv (pv 3) (pv 0)))
    (C8.pss_cut (ps_if (pt_cmpR op_eq (pe_op op_mod (pv 0) pe_int) pe_int (nomark _)) (pss_one (ps_set (i := 4) scRise.nd rfl (.inl rfl) (pe_callB (call_min2 rfl) (by rfl) T.min bootMin (pa_cons (pv 4) (pa_cons (pe_op op_sub pe_int (pv 2)) pa_nil))))) pss_nil)
    (pss_cons (ps_for PassesOwn.never rfl (pi_range2 rfl T.range (pa_cons pe_int (pa_cons (pe_op op_add (pv 4) pe_int) pa_nil))) (pg_name (i := 5) scRise.nd rfl (.inl rfl))
      (pss_one (ps_if (pt_cmpR op_gt (pe_ix ix_list (pv 1) (pe_op op_sub (pv 3) (pe_op op_mul (pv 5) (pv 0))) (fun _ _ => rfl)) pe_int (nomark _)) (pss_one (ps_ret (pv 5))) pss_nil)))
    (pss_one (ps_ret pe_int)))), ?_⟩
  have dv : (d : Int) / (g : Int) = ((d / g : Nat) : Int) := rfl
  have dl : d / g ≤ d := Nat.div_le_self _ _
  refine ⟨_, rfl, _, rfl, _, _, rfl, rfl, ⟨by omega, by omega⟩, fun σ' H' => H' = H ∧ ∃ mo : Int, σ' = [some (.int (g : Int)), some (.ref r), some (.int (e : Int)), some (.int (d : Int)), some (.int mo), none] ∧ mo.toNat = mr (g : Int) (e : Int) d ∧ -1000 ≤ mo ∧ mo ≤ 1000, ?_, ?_⟩
  · refine ⟨_, rfl, _, _, rfl, rfl, (by show (0 : Int) < 2; decide), rfl, _, rfl, ite2 (fun ct => ?_) (fun ct => ?_)⟩
    · have ct := V.int.inj (of_decide_eq_true ct)
      refine ⟨_, rfl, _, rfl, _, _, rfl, rfl, _, _, rfl, rfl, _, rfl, ?_⟩
      rw [dv]
      unfold mr
      rw [Int.toNat_natCast, if_pos (show g % 2 = 1 by omega)]
      generalize d / g = z at *
      refine ⟨?_, ?_, ?_⟩
      · split <;> omega
      · split <;> omega
      · split <;> omega
    · have ct : ¬ ((g : Int) % 2 = 1) := fun z => ct (decide_eq_true (congrArg V.int z))
      refine ⟨rfl, _, rfl, ?_⟩
      rw [dv]
      unfold mr
      rw [show ((g : Nat) : Int).toNat = g from rfl, show (((d / g : Nat)) : Int).toNat = d / g from rfl, if_neg (show ¬ g % 2 = 1 by omega)]
      generalize d / g = z at *
      omega
  · rintro σ' H' ⟨rfl, mo, rfl, hm, m1, m2⟩
    have ml : mr (g : Int) (e : Int) d * g ≤ d := by
      have : mr (g : Int) (e : Int) d ≤ d / g := by
        unfold mr
        rw [Int.toNat_natCast]
        split <;> omega
      exact (Nat.le_div_iff_mul_le (by omega)).mp this
    refine ⟨_, rfl, _, _, rfl, rfl, _, _, rfl, ⟨by decide, by decide, by omega, by omega⟩, for_it (walk_range (lo := 1) (n := (mo + 1 - 1).toNat)) (fun i σ H1 => H1 = H' ∧ (∃ o5, σ = [some (.int (g : Int)), some (.ref r), some (.int (e : Int)), some (.int (d : Int)), some (.int mo), o5]) ∧ ∀ k, k < i → cnt M (d - (k + 1) * g) = 0)
      ⟨rfl, ⟨_, rfl⟩, fun k hk => absurd hk (Nat.not_lt_zero _)⟩ (fun _ _ _ _ _ => trivial) (fun i x σ H0 H1 hi q y => ?_) fun σ H1 q => ?_⟩
    · obtain ⟨rfl, ⟨o5, rfl⟩, hz⟩ := q
      obtain ⟨rfl, rfl⟩ := y
      have hi : i < mr (g : Int) (e : Int) d := by
        rw [← hm]
        omega
      have il : (i + 1) * g ≤ d := Nat.le_trans (Nat.mul_le_mul_right g (by omega)) ml
      have ex : (d : Int) - (1 + (i : Int)) * (g : Int) = ((d - (i + 1) * g : Nat) : Int) := by
        have : (1 + (i : Int)) * (g : Int) = (((i + 1) * g : Nat) : Int) := by
          rw [Int.natCast_mul, Int.natCast_add, Int.add_comm]
          rfl
        rw [this]
        omega
      refine ⟨_, rfl, _, rfl, _, rfl, _, rfl, _, _, rfl, rfl, .inr ⟨by omega, by omega⟩, _, _, rfl, rfl, r, _, _, _, rfl, rfl, SqL.of hr0, by rw [ex]; exact atI_nat (rowOf_get (by omega)), _, _, rfl, rfl, _, rfl, ite2 (fun ct => ?_) (fun ct => ?_)⟩
      · have ct := of_decide_eq_true ct
        refine ⟨_, rfl, ?_⟩
        have e1 : rise (g : Int) M (e : Int) d = some i := by
          unfold rise
          rw [List.find?_range_eq_some]
          refine ⟨decide_eq_true ?_, List.mem_range.mpr hi, fun k hk => ?_⟩
          · rw [Int.toNat_natCast]
            omega
          · rw [Int.toNat_natCast, hz k hk]
            rfl
        rw [e1] at k
        have e2 : riseV (some i) = 1 + (i : Int) := by
          show (((i + 1 : Nat)) : Int) = _
          omega
        rw [e2] at k
        exact k
      · have ct : ¬ _ := fun z => ct (decide_eq_true z)
        refine ⟨rfl, ⟨_, rfl⟩, fun k hk => ?_⟩
        rcases Nat.lt_or_ge k i with z | z
        · exact hz k z
        · obtain rfl : k = i := by omega
          omega
    · obtain ⟨rfl, ⟨o5, rfl⟩, hz⟩ := q
      have e1 : rise (g : Int) M (e : Int) d = none := by
        unfold rise
        rw [List.find?_eq_none]
        intro x hx
        have := List.mem_range.mp hx
        rw [Int.toNat_natCast, hz x (by omega)]
        exact Bool.false_ne_true
      rw [e1] at k
      exact k
end
end K6
namespace K6
open PySem PySem.Spec PyProof.Rows L2 RZ
theorem nxt_pre : ∀ (j : Nat) (L w : List Int) {v : List Int}, w.length = L.length → j ≤ L.length → nxt (L.drop j) (w.drop j) = some v → nxt L w = some (w.take j ++ v)
  | 0, L, w, v, _, _, h => h
  | j + 1, h :: L, e :: w, v, hl, hj, q => by
    have ih := nxt_pre j L w (Nat.succ.inj hl) (Nat.le_of_succ_le_succ hj) q
    show (match nxt L w with
      | some v => some (e :: v)
      | none => _) = some (e :: (w.take j ++ v))
    rw [ih]
theorem dg_drop : ∀ (j : Nat) (L w : List Int), Pos1 L → (∀ e ∈ w, 0 ≤ e) → 0 ≤ dg (L.drop j) (w.drop j) ∧ dg (L.drop j) (w.drop j) ≤ dg L w
  | j, [], w, _, _ => by
    rw [List.drop_nil]
    exact ⟨Int.le_refl _, Int.le_refl _⟩
  | 0, h :: L, [], _, _ => ⟨Int.le_refl _, Int.le_refl _⟩
  | j + 1, h :: L, [], _, _ => by
    rw [List.drop_nil]
    show 0 ≤ dg (L.drop j) [] ∧ dg (L.drop j) [] ≤ 0
    cases L.drop j <;> exact ⟨Int.le_refl _, Int.le_refl _⟩
  | 0, h :: L, e :: w, hp, he => by
    have ih := dg_drop 0 L w (fun y hy => hp y (List.mem_cons_of_mem _ hy)) fun y hy => he y (List.mem_cons_of_mem _ hy)
    have h1 := hp h List.mem_cons_self
    have h2 := he e List.mem_cons_self
    refine ⟨?_, Int.le_refl _⟩
    show 0 ≤ h * e + dg L w
    have := Int.mul_nonneg (show 0 ≤ h by omega) h2
    have q : 0 ≤ dg L w := ih.1
    omega
  | j + 1, h :: L, e :: w, hp, he => by
    have ih := dg_drop j L w (fun y hy => hp y (List.mem_cons_of_mem _ hy)) fun y hy => he y (List.mem_cons_of_mem _ hy)
    have h1 := hp h List.mem_cons_self
    have h2 := he e List.mem_cons_self
    have := Int.mul_nonneg (show 0 ≤ h by omega) h2
    refine ⟨ih.1, ?_⟩
    show dg (L.drop j) (w.drop j) ≤ h * e + dg L w
    have := ih.2
    omega
def spNext (K : PySem.W.Frag) : Sp := fun vs H Q _ => ∃ (a c b : Addr) (L w : List Int) (N d : Nat), vs = [.ref a, .ref c, .ref b] ∧ SqT K H a (iV L) ∧ Cnts H c L N ∧ Lt L ∧ N ≤ 900 ∧ SqT K H b (iV w) ∧ Wo L w d ∧ (∀ e ∈ w, 0 ≤ e ∧ e ≤ d) ∧ d ≤ N ∧ ∀ H' v, Same H H' → WordIs K H' v (nxt L w) → Q v H'
theorem scNext : FnScope ["letters", "counts", "word", "rest", "index", "rise", "tail"] ["letters", "counts", "word"] (defScope sNext) := ⟨rfl, rfl, rfl, by decide +kernel, rfl, by decide +kernel, by decide +kernel⟩
section
variable {P : Program} {w : World} {K : PySem.W.Frag} {mg : Str → Option Value} {base : Heap}
theorem ok_next {fE fR : Addr} {dE dR : FuncData} {f : Addr} {fd : FuncData} (F : Fun K "next_word" "next_word" sNext f fd) (T : Txt K mg) (gR : mg "_least_rise" = some (.ref fR)) (kR : PySem.W.keepIn K (.ref fR) = true) (bR : Binds K dR ["letter", "counts", "exponent", "rest"] [])
    (FR : FnOk P w K mg base CX0 1 fR dR ["letter", "counts", "exponent", "rest"] spRise) (gE : mg "_least_exponents" = some (.ref fE)) (kE : PySem.W.keepIn K (.ref fE) = true) (bE : Binds K dE ["letters", "counts", "start", "rest"] [])
    (FE : FnOk P w K mg base CX0 1 fE dE ["letters", "counts", "start", "rest"] (spLeast K)) : FnOk P w K mg base CX0 2 f fd ["letters", "counts", "word"] (spNext K) := by
  refine F.ok scNext (fun vs H Q E h => ?_) (fun cdv A outer s H vs Q E hr h => ?_)
  · obtain ⟨a, c, b, L, w, N, d, rfl, _⟩ := h; rfl
  obtain ⟨a, c, b, L, u, N, d, rfl, ha, hc, hL, hN, hb, hw, hu, hd, k⟩ := h
  refine ⟨_, pss_cons (ps_set (i := 3) scNext.nd rfl (.inl rfl) pe_int)
    (pss_cons (ps_for PassesOwn.never rfl (pi_revR (by rfl) T.reversed (prg_1 (by rfl) T.range (pe_callB call_len_seq (by rfl) T.len PySem.boot_len (pa_cons (pv 0) pa_nil)))) (pg_name (i := 4) scNext.nd rfl (.inl rfl))
      (pss_cons (ps_set (i := 5) scNext.nd rfl (.inl rfl) (pe_call FR hr (by rfl) gR kR bR .nil pass0 (pa_cons (pe_ix ix_tup (pv 0) (pv 4) (fun _ _ => rfl)) (pa_cons (pe_ix ix_list (pv 1) (pe_op op_add (pv 4) pe_int) (fun _ _ => rfl)) (pa_cons (pe_ix ix_tup (pv 2) (pv 4) (fun _ _ => rfl)) (pa_cons (pv 3) pa_nil))))))
      (pss_cons (ps_if (pt_cmpR op_gt (pv 5) pe_int (nomark _))
        (pss_cons (ps_set (i := 3) scNext.nd rfl (.inl rfl) (pe_op op_sub (pv 3) (pe_op op_mul (pv 5) (pe_ix ix_tup (pv 0) (pv 4) (fun _ _ => rfl)))))
        (pss_cons (ps_set (i := 6) scNext.nd rfl (.inl rfl) (pe_call FE hr (by rfl) gE kE bE .nil pass0 (pa_cons (pv 0) (pa_cons (pv 1) (pa_cons (pe_op op_add (pv 4) pe_int) (pa_cons (pv 3) pa_nil))))))
        (pss_one (ps_ret (pe_op op_catA (pe_op op_catA (pe_slice sl_tupA (pv 2) po_none (po_some (pv 4))) (pe_tup (pa_cons (pe_op op_add (pe_ix ix_tup (pv 2) (pv 4) (fun _ _ => rfl)) (pv 5)) pa_nil))) (pe_callTy call_tuple_of (by rfl) T.tuple bootTuple (pa_cons (pv 6) pa_nil)))))))
        pss_nil)
      (pss_one (ps_set (i := 3) scNext.nd rfl (.inl rfl) (pe_op op_add (pv 3) (pe_op op_mul (pe_ix ix_tup (pv 2) (pv 4) (fun _ _ => rfl)) (pe_ix ix_tup (pv 0) (pv 4) (fun _ _ => rfl)))))))))
    (pss_one (ps_ret pe_non))), ?_⟩
  have lL : (iV L).length = L.length := List.length_map _
  have h24 := hL.len
  have hn : ∀ e ∈ u, 0 ≤ e := fun e he => (hu e he).1
  refine ⟨_, rfl, a, _, rfl, .inr ha, _, rfl, by decide, by decide, by omega, by rw [lL]; omega, for_rangeC (c := -1) (fun i σ H' => H' = H ∧ (∃ o4 o5 o6, σ = [some (.ref a), some (.ref c), some (.ref b), some (.int (dg (L.drop (L.length - i)) (u.drop (L.length - i)))), o4, o5, o6]) ∧ nxt (L.drop (L.length - i)) (u.drop (L.length - i)) = none)
    ⟨rfl, ⟨none, none, none, ?_⟩, ?_⟩ (fun i σ H1 hi q => ?_) fun σ H1 q => ?_⟩
  · rw [Nat.sub_zero, List.drop_length]
    rfl
  · rw [Nat.sub_zero, List.drop_length]
    rfl
  · obtain ⟨rfl, ⟨o4, o5, o6, rfl⟩, hz⟩ := q
    rw [lL] at hi
    have ei : (0 + ((((iV L).length : Int) - 0).toNat : Int) - 1) + (i : Int) * (-1) = ((L.length - 1 - i : Nat) : Int) := by
      rw [lL]
      omega
    rw [ei]
    have hjL : L.length - 1 - i < L.length := by omega
    have ez : L.length - i = L.length - 1 - i + 1 := by omega
    have ez1 : L.length - (i + 1) = L.length - 1 - i := by omega
    rw [ez] at hz
    rw [ez, ez1]
    generalize L.length - 1 - i = j at *
    have hju : j < u.length := by rw [hw.len]; exact hjL
    have dL : L.drop j = L[j] :: L.drop (j + 1) := List.drop_eq_getElem_cons hjL
    have du : u.drop j = u[j] :: u.drop (j + 1) := List.drop_eq_getElem_cons hju
    have b1 := hL.lo _ (List.getElem_mem hjL)
    have b2 := hL.hi _ (List.getElem_mem hjL)
    have b3 := hu _ (List.getElem_mem hju)
    have gL : (iV L)[j]? = some (.int L[j]) := by
      rw [List.getElem?_map, List.getElem?_eq_getElem hjL]
      rfl
    have gu : (iV u)[j]? = some (.int u[j]) := by
      rw [List.getElem?_map, List.getElem?_eq_getElem hju]
      rfl
    have dd := dg_drop (j + 1) L u hL.pos hn
    have pre := nxt_pre j L u (v := [] ) hw.len (Nat.le_of_lt hjL)
    have npre : ∀ v, nxt (L.drop j) (u.drop j) = some v → nxt L u = some (u.take j ++ v) := fun v => nxt_pre j L u hw.len (Nat.le_of_lt hjL)
    rw [hw.deg] at dd
    rw [dL, du] at npre ⊢
    generalize L[j] = hh at *
    generalize u[j] = ee at *
    obtain ⟨g, rfl⟩ : ∃ g : Nat, hh = (g : Int) := ⟨hh.toNat, by omega⟩
    obtain ⟨e, rfl⟩ : ∃ e : Nat, ee = (e : Int) := ⟨ee.toNat, by omega⟩
    have nx0 : nxt ((g : Int) :: L.drop (j + 1)) ((e : Int) :: u.drop (j + 1)) = (rise (g : Int) (L.drop (j + 1)) (e : Int) (dg (L.drop (j + 1)) (u.drop (j + 1))).toNat).map fun k => ((e : Int) + (k + 1 : Nat)) :: least (L.drop (j + 1)) ((dg (L.drop (j + 1)) (u.drop (j + 1))).toNat - (k + 1) * (g : Int).toNat) := by
      show (match nxt (L.drop (j + 1)) (u.drop (j + 1)) with
        | some v => some ((e : Int) :: v)
        | none => _) = _
      rw [hz]
    have dg0 : dg ((g : Int) :: L.drop (j + 1)) ((e : Int) :: u.drop (j + 1)) = (g : Int) * (e : Int) + dg (L.drop (j + 1)) (u.drop (j + 1)) := rfl
    rw [nx0] at npre ⊢
    rw [dg0]
    rw [Int.toNat_natCast] at npre ⊢
    generalize dg (L.drop (j + 1)) (u.drop (j + 1)) = rs at *
    obtain ⟨r, rfl⟩ : ∃ r : Nat, rs = (r : Int) := ⟨rs.toNat, by omega⟩
    rw [Int.toNat_natCast] at npre ⊢
    obtain ⟨xs, hx, lx, hrow⟩ := id hc
    obtain ⟨x, gx, rr, rfl, hrr⟩ := hrow (j + 1) (by omega)
    refine ⟨_, rfl, _, rfl, a, iV L, _, _, rfl, rfl, ha, atI_nat gL, _, rfl, _, rfl, _, _, rfl, rfl, c, xs, _, _, rfl, rfl, SqL.of hx, by rw [show ((j : Nat) : Int) + 1 = ((j + 1 : Nat) : Int) from rfl]; exact atI_nat gx, _, rfl, _, rfl, b, iV u, _, _, rfl, rfl, hb, atI_nat gu, _, rfl, rr, _, N, g, e, r, rfl, hrr, hN, by omega, by omega, by omega, by omega, ?_⟩
    refine ⟨_, rfl, _, _, rfl, rfl, _, rfl, ite2 (fun ct => ?_) (fun ct => ?_)⟩
    · have ct := of_decide_eq_true ct
      cases z : rise (g : Int) (L.drop (j + 1)) (e : Int) r with
      | none =>
        rw [z] at ct
        exact absurd ct (by decide)
      | some kk =>
        obtain ⟨q1, q2, q3⟩ := List.find?_range_eq_some.mp z
        have q1 := of_decide_eq_true q1
        rw [Int.toNat_natCast] at q1
        have q2 := List.mem_range.mp q2
        have il : (kk + 1) * g ≤ r := by
          have : kk + 1 ≤ r / g := by
            unfold mr at q2
            rw [Int.toNat_natCast] at q2
            split at q2 <;> omega
          exact (Nat.le_div_iff_mul_le (by omega)).mp this
        have er : riseV (some kk) = ((kk + 1 : Nat) : Int) := rfl
        have ex : (r : Int) - ((kk + 1 : Nat) : Int) * (g : Int) = ((r - (kk + 1) * g : Nat) : Int) := by
          rw [← Int.natCast_mul]
          omega
        rw [z] at npre
        rw [er]
        refine ⟨_, rfl, _, rfl, _, rfl, _, rfl, a, iV L, _, _, rfl, rfl, ha, atI_nat gL, _, _, rfl, rfl, .inr ⟨by omega, by omega⟩, _, _, rfl, rfl, ?_⟩
        refine ⟨_, rfl, _, rfl, _, rfl, _, _, rfl, rfl, _, rfl, a, c, L, N, j + 1, r - (kk + 1) * g, by rw [← ex]; rfl, ha, hc, hL, hN, by omega, by omega, q1, fun H2 p s2 hp h2 => ?_⟩
        have lu : (iV u).length = u.length := List.length_map _
        have cu : cutV (iV u) none (some ((j : Nat) : Int)) = iV (u.take j) := by
          unfold cutV
          have e1 : HT.sIx (iV u).length 0 none = 0 := rfl
          have e2 : HT.sIx (iV u).length (iV u).length (some ((j : Nat) : Int)) = j := by
            rw [HT.sIx_nat]
            omega
          rw [e1, e2, List.drop_zero, Nat.sub_zero]
          exact List.map_take.symm
        refine ⟨_, rfl, _, rfl, _, rfl, b, iV u, rfl, tupSame s2 hb, fun full => ?_, fun _ p2 hp2 => ?_⟩
        · have e2 := full.2
          rw [HT.sIx_nat] at e2
          omega
        · have s3 := Same.new (o := .tup (cutV (iV u) none (some ((j : Nat) : Int)))) hp2
          rw [cu] at s3 ⊢
          refine ⟨_, rfl, _, rfl, b, iV u, _, _, rfl, rfl, tupSame (s2.trans s3) hb, atI_nat gu, _, rfl, _, _, rfl, rfl, (by show 1 ≤ sizeLine; decide), fun p3 hp3 => ?_⟩
          have s4 := Same.new (o := .tup [.int ((e : Int) + ((kk + 1 : Nat) : Int))]) hp3
          have l24 : u.length = L.length := hw.len
          refine cat_tup (xs := iV (u.take j)) (ys := iV [(e : Int) + ((kk + 1 : Nat) : Int)]) (SqT.of (s4 _ _ upd_same)) (SqT.of upd_same) (by rw [List.length_map, List.length_take]; show _ + 1 ≤ 1000; omega) fun H4 p4 s5 h4 => ?_
          refine ⟨_, rfl, p, _, rfl, .inl ⟨SqL.of ((s3.trans (s4.trans s5)) _ _ h2), fun p5 hp5 => ?_⟩⟩
          have s6 := Same.new (o := .tup (iV (least (L.drop (j + 1)) (r - (kk + 1) * g)))) hp5
          refine cat_tup (tupSame s6 h4) (SqT.of upd_same) (by rw [List.length_append, List.length_map, List.length_map, List.length_map, least_len, List.length_take, List.length_drop]; show _ + 1 + _ ≤ 1000; omega) fun H6 p6 s7 h6 => ?_
          refine k H6 _ (s2.trans (s3.trans (s4.trans (s5.trans (s6.trans s7))))) ?_
          rw [npre _ rfl]
          refine ⟨p6, rfl, ?_⟩
          have e3 : iV (u.take j ++ ((e : Int) + ((kk + 1 : Nat) : Int)) :: least (L.drop (j + 1)) (r - (kk + 1) * g)) = iV (u.take j) ++ iV [(e : Int) + ((kk + 1 : Nat) : Int)] ++ iV (least (L.drop (j + 1)) (r - (kk + 1) * g)) := by
            rw [List.append_assoc]
            exact List.map_append
          rw [e3]
          exact h6
    · have ct : ¬ _ := fun z => ct (decide_eq_true z)
      cases z : rise (g : Int) (L.drop (j + 1)) (e : Int) r with
      | some kk =>
        rw [z] at ct
        exact absurd (show (0 : Int) < riseV (some kk) by show (0 : Int) < ((kk + 1 : Nat) : Int); omega) ct
      | none =>
        refine ⟨_, rfl, _, rfl, _, rfl, b, iV u, _, _, rfl, rfl, hb, atI_nat gu, _, rfl, _, rfl, a, iV L, _, _, rfl, rfl, ha, atI_nat gL, _, _, rfl, rfl, .inr ⟨by omega, by omega⟩, _, _, rfl, rfl, rfl, ⟨some (.int ((j : Nat) : Int)), some (.int 0), o6, ?_⟩, rfl⟩
        rw [Int.add_comm, Int.mul_comm]
        rfl
  · obtain ⟨rfl, ⟨o4, o5, o6, rfl⟩, hz⟩ := q
    rw [lL] at hz
    have e0 : L.length - ((L.length : Int) - 0).toNat = 0 := by omega
    rw [e0] at hz
    refine k H1 _ (Same.refl _) ?_
    have hz : nxt L u = none := hz
    rw [hz]
    rfl
end
end K6
namespace K6
open PySem PySem.Spec PyProof.Rows L2 RZ
def par (r : Int) (k : Int) : List Int → List Int
  | [] => []
  | d :: L => if d % 2 = r then k :: par r (k + 1) L else par r (k + 1) L
theorem par_append {r : Int} : ∀ (L M : List Int) (k : Int), par r k (L ++ M) = par r k L ++ par r (k + L.length) M
  | [], M, k => by
    show par r k M = [] ++ par r (k + 0) M
    rw [Int.add_zero, List.nil_append]
  | d :: L, M, k => by
    have ih := par_append (r := r) L M (k + 1)
    have e : k + 1 + (L.length : Int) = k + ((d :: L).length : Int) := by
      rw [List.length_cons]
      omega
    rw [e] at ih
    show (if d % 2 = r then k :: par r (k + 1) (L ++ M) else par r (k + 1) (L ++ M)) = (if d % 2 = r then k :: par r (k + 1) L else par r (k + 1) L) ++ _
    split
    · rw [ih]
      rfl
    · rw [ih]
theorem par_len {r : Int} : ∀ (L : List Int) (k : Int), (par r k L).length ≤ L.length
  | [], _ => Nat.le_refl _
  | d :: L, k => by
    have := par_len (r := r) L (k + 1)
    show (if d % 2 = r then k :: par r (k + 1) L else par r (k + 1) L).length ≤ _
    split
    · rw [List.length_cons, List.length_cons]
      omega
    · rw [List.length_cons]
      omega
/-- the indices of odd letters, over enumerate -/
theorem lc_par {r : Int} {K : PySem.W.Frag} {a : Addr} {L : List Int} {i j : Nat} {tt : TT} {te : TE} {vs : List Nat} {σ : L2.St} {H : Hp} {D : Addr} {Qd : Hp → Prop} (hD : H D = none) (ha : SqT K H a (iV L)) (ln : L.length ≤ 1000)
    (hw : ∀ x y : V, wipe (((wipe σ vs).set i (some x)).set j (some y)) vs = wipe σ vs)
    (ht : ∀ (n : Nat) (d : Int) (H1 : Hp) (Q : Bool → Hp → Prop), Q (decide (d % 2 = r)) H1 → tt (((wipe σ vs).set i (some (.int n))).set j (some (.int d))) H1 Q)
    (he : ∀ (n : Nat) (d : Int) (H1 : Hp) (Q : VK), Q (.int n) H1 → te (((wipe σ vs).set i (some (.int n))).set j (some (.int d))) H1 Q)
    (hd : ∀ H', Same H H' → H' D = some (.lst (iV (par r 0 L))) → Qd H') : LcW (IteT K a) (gTup K 2 (gCons (gName i) (gCons (gName j) gNil))) tt te vs σ H D Qd := by
  refine lc_it (walk_enumT (xs := iV L)) (fun n H' => Same H H' ∧ H' D = some (.lst (iV (par r 0 (L.take n))))) ⟨Same.new hD, upd_same⟩ (fun _ H' _ p => tupSame p.1 ha) (fun n x H1 H2 hn p y => ?_) fun H' p => ?_
  · obtain ⟨T, u, v, rfl, hT, rfl, hu, hv⟩ := y
    have hu : some (V.int (n : Nat)) = some u := hu
    have hv : (iV L)[n]? = some v := hv
    cases hu
    rw [List.getElem?_map] at hv
    obtain ⟨d, hd1, rfl⟩ := Option.map_eq_some_iff.mp hv
    have s1 : Same H1 (upd H1 T (.tup [.int (n : Nat), .int d])) := Same.new hT
    have nl := (List.getElem?_eq_some_iff.mp hd1).1
    have e1 : par r 0 (L.take (n + 1)) = par r 0 (L.take n) ++ (if d % 2 = r then [(n : Int)] else []) := by
      rw [take_more hd1, par_append, List.length_take, Nat.min_eq_left (Nat.le_of_lt nl), Int.zero_add]
      rfl
    refine ⟨T, [.int (n : Nat), .int d], rfl, SqT.of upd_same, rfl, .int (n : Nat), [.int d], rfl, .int d, [], rfl, rfl, hw _ _, ht n d _ _ ?_⟩
    by_cases c : d % 2 = r
    · rw [decide_eq_true c]
      refine iteT (he n d _ _ ?_)
      have ol := par_len (r := r) (L.take n) 0
      rw [List.length_take] at ol
      refine ⟨iV (par r 0 (L.take n)), s1 _ _ p.2, small1000 (by rw [List.length_map]; omega), Same.back (p.1.trans s1) hD, ?_⟩
      rw [upd_same, e1, if_pos c]
      show _ = some (HO.lst (List.map V.int _))
      rw [List.map_append]
      rfl
    · rw [decide_eq_false c]
      refine iteF ⟨p.1.trans s1, ?_⟩
      rw [e1, if_neg c, List.append_nil]
      exact s1 _ _ p.2
  · refine hd H' p.1 ?_
    rw [p.2, List.length_map, List.take_length]
end K6
namespace K6
open PySem PySem.Spec PyProof.Rows L2 RZ
theorem wds_length_pos {L : List Int} (h : Lt L) (d : Nat) : (wds L d).length = cnt L d := wds_len L d h.pos
def spChkL (K : PySem.W.Frag) : Sp := fun vs H Q _ => ∃ (a : Addr) (L : List Int), vs = [.ref a] ∧ SqT K H a (iV L) ∧ Lt L ∧ ∀ H', Same H H' → Q .non H'
def spChkB (K : PySem.W.Frag) : Sp := fun vs H Q _ => ∃ (i a b : Int), vs = [.int i, .int a, .int b] ∧ a ≤ i ∧ i ≤ b ∧ 0 ≤ i ∧ i ≤ 1000 ∧ Q .non H
def spCount (K : PySem.W.Frag) : Sp := fun vs H Q _ => ∃ (a : Addr) (L : List Int) (d : Nat), vs = [.ref a, .int (d : Int)] ∧ SqT K H a (iV L) ∧ Lt L ∧ d ≤ 80 ∧ ∀ H', Same H H' → Q (.int (cnt L d : Int)) H'
def spListed (K : PySem.W.Frag) : Sp := fun vs H Q _ => ∃ (a : Addr) (L : List Int) (d : Nat), vs = [.ref a, .int (d : Int)] ∧ SqT K H a (iV L) ∧ Lt L ∧ d ≤ 80 ∧ cnt L d ≤ 900 ∧ ∀ H' p xs, Same H H' → H p = none → H' p = some (.lst xs) → TupsV K H' xs (wds L d) → Q (.ref p) H'
def spWords (K : PySem.W.Frag) : Sp := fun vs H Q _ => ∃ (a : Addr) (L : List Int) (d : Nat), vs = [.ref a, .int (d : Int)] ∧ SqT K H a (iV L) ∧ Lt L ∧ d ≤ 80 ∧ cnt L d ≤ 400 ∧ ∀ H' p xs, Same H H' → SqT K H' p xs → TupsV K H' xs (wds L d) → Q (.ref p) H'
def spPar (K : PySem.W.Frag) (r : Int) : Sp := fun vs H Q _ => ∃ (a : Addr) (L : List Int), vs = [.ref a] ∧ SqT K H a (iV L) ∧ Lt L ∧ ∀ H' p, Same H H' → SqT K H' p (iV (par r 0 L)) → Q (.ref p) H'
def spTop (K : PySem.W.Frag) : Sp := fun vs H Q _ => ∃ (a : Addr) (L : List Int), vs = [.ref a] ∧ SqT K H a (iV L) ∧ Lt L ∧ (∀ d ∈ L, d % 2 = 1) ∧ ∀ H' p, Same H H' → SqT K H' p (iV (List.replicate L.length 1)) → Q (.ref p) H'
theorem scChkL : FnScope ["letters"] ["letters"] (defScope sChkL) := ⟨rfl, rfl, rfl, by decide +kernel, rfl, by decide +kernel, by decide +kernel⟩
theorem scChkB : FnScope ["value", "least", "most"] ["value", "least", "most"] (defScope sChkB) := ⟨rfl, rfl, rfl, by decide +kernel, rfl, by decide +kernel, by decide +kernel⟩
theorem scCount : FnScope ["letters", "degree"] ["letters", "degree"] (defScope sCount) := ⟨rfl, rfl, rfl, by decide +kernel, rfl, by decide +kernel, by decide +kernel⟩
theorem scListed : FnScope ["letters", "degree", "counts", "found", "word"] ["letters", "degree"] (defScope sListed) := ⟨rfl, rfl, rfl, by decide +kernel, rfl, by decide +kernel, by decide +kernel⟩
theorem scWords : FnScope ["letters", "degree"] ["letters", "degree"] (defScope sWordsOf) := ⟨rfl, rfl, rfl, by decide +kernel, rfl, by decide +kernel, by decide +kernel⟩
theorem scWCount : FnScope ["letters", "degree"] ["letters", "degree"] (defScope sWordCount) := ⟨rfl, rfl, rfl, by decide +kernel, rfl, by decide +kernel, by decide +kernel⟩
theorem scOdds : FnScope ["letters", "index", "degree"] ["letters"] (defScope sOdds) := ⟨rfl, rfl, rfl, by decide +kernel, rfl, by decide +kernel, by decide +kernel⟩
theorem scEvenL : FnScope ["letters", "index", "degree"] ["letters"] (defScope sEvenL) := ⟨rfl, rfl, rfl, by decide +kernel, rfl, by decide +kernel, by decide +kernel⟩
theorem scOddL : FnScope ["letters"] ["letters"] (defScope sOddL) := ⟨rfl, rfl, rfl, by decide +kernel, rfl, by decide +kernel, by decide +kernel⟩
theorem scTopW : FnScope ["letters"] ["letters"] (defScope sTopW) := ⟨rfl, rfl, rfl, by decide +kernel, rfl, by decide +kernel, by decide +kernel⟩
theorem par_all {r : Int} : ∀ {L : List Int} {k : Int}, (∀ d ∈ L, d % 2 = r) → (par r k L).length = L.length
  | [], _, _ => rfl
  | d :: L, k, h => by
    show (if d % 2 = r then k :: par r (k + 1) L else par r (k + 1) L).length = _
    rw [if_pos (h d List.mem_cons_self), List.length_cons, List.length_cons, par_all fun y hy => h y (List.mem_cons_of_mem _ hy)]
section
variable {P : Program} {w : World} {K : PySem.W.Frag} {mg : Str → Option Value} {base : Heap} {fB fL fC fS fF fN fO : Addr} {dB dL dC dS dF dN dO : FuncData}
theorem ok_chkl {f : Addr} {fd : FuncData} (F : Fun K "check_letters" "check_letters" sChkL f fd) (gB : mg "is_letters" = some (.ref fB)) (kB : PySem.W.keepIn K (.ref fB) = true) (bB : Binds K dB ["value"] [])
    (B : FnOk P w K mg base CX0 4 fB dB ["value"] (spIsLet K)) : FnOk P w K mg base CX0 5 f fd ["letters"] (spChkL K) := by
  refine F.ok scChkL (fun vs H Q E h => ?_) (fun cdv A outer s H vs Q E hr h => ?_)
  · obtain ⟨a, L, rfl, _⟩ := h; rfl
  obtain ⟨a, L, rfl, hs, hL, k⟩ := h
  refine ⟨_, pss_one (ps_if (pt_not (pt_val (pe_call B hr (by rfl) gB kB bB .nil pass0 (pa_cons (pv 0) pa_nil)))) pss_never pss_nil), ?_⟩
  exact ⟨_, rfl, _, true, rfl, hL.is hs, fun H' s => ⟨_, rfl, iteF (k H' s)⟩⟩
theorem ok_chkb {f : Addr} {fd : FuncData} (F : Fun K "check_between" "check_between" sChkB f fd) (gB : mg "is_between" = some (.ref fB)) (kB : PySem.W.keepIn K (.ref fB) = true) (bB : Binds K dB ["value", "least", "most"] [])
    (B : FnOk P w K mg base CX0 3 fB dB ["value", "least", "most"] (spBetw K)) : FnOk P w K mg base CX0 4 f fd ["value", "least", "most"] (spChkB K) := by
  refine F.ok scChkB (fun vs H Q E h => ?_) (fun cdv A outer s H vs Q E hr h => ?_)
  · obtain ⟨i, a, b, rfl, _⟩ := h; rfl
  obtain ⟨i, a, b, rfl, ha, hb, h0, h1, k⟩ := h
  refine ⟨_, pss_one (ps_if (pt_not (pt_val (pe_call B hr (by rfl) gB kB bB .nil pass0 (pa_cons (pv 0) (pa_cons (pv 1) (pa_cons (pv 2) pa_nil)))))) pss_never pss_nil), ?_⟩
  refine ⟨_, rfl, _, rfl, _, rfl, .int i, a, b, rfl, .int i, _, rfl, ?_⟩
  rw [betw_small h0 h1 ha hb]
  exact iteF k
theorem ok_odds {f : Addr} {fd : FuncData} (F : Fun K "odd_indices" "odd_indices" sOdds f fd) (T : Txt K mg) : FnOk P w K mg base CX0 1 f fd ["letters"] (spPar K 1) := by
  refine F.ok scOdds (fun vs H Q E h => ?_) (fun cdv A outer s H vs Q E hr h => ?_)
  · obtain ⟨a, L, rfl, _⟩ := h; rfl
  obtain ⟨a, L, rfl, ha, hL, k⟩ := h
  have hn := hL.len
  refine ⟨_, pss_one (ps_ret (pe_callTy call_tuple_of (by rfl) T.tuple bootTuple (pa_cons (pe_lc (own := [("index", 1), ("degree", 2)]) (g := gTup K 2 (gCons (gName 1) (gCons (gName 2) gNil))) rfl scOdds.nd (pi_enumT (by rfl) T.enumerate (pa_cons (pv 0) pa_nil))
      (blkOk_by (N := ["letters", "index", "degree"]) (sc := defScope sOdds) (by decide +kernel)) (fun _ _ _ _ _ => pg_tup (by rfl) (pgs_cons (pg_name (i := 1) scOdds.nd rfl (.inl rfl)) (pgs_cons (pg_name (i := 2) scOdds.nd rfl (.inl rfl)) pgs_nil))) (fun _ _ _ _ _ => pts_one (pt_cmpR op_eq (pe_op op_mod (pv 2) pe_int) pe_int (nomark _)))
      (fun _ _ _ _ _ => pv 1)) pa_nil))), ?_⟩
  refine ⟨_, rfl, a, _, rfl, ha, fun D hD => lc_par (r := 1) hD ha (Nat.le_trans hn (by decide)) (fun _ _ => rfl) (fun n d H1 Q1 q => ?_) (fun n d H1 Q1 q => ?_) fun H' s' h' => ?_⟩
  · refine ⟨_, rfl, _, _, rfl, rfl, (by show (0 : Int) < 2; decide), rfl, _, rfl, ?_⟩
    rw [dInt]
    exact q
  · exact ⟨_, rfl, q⟩
  · exact ⟨D, _, rfl, .inl ⟨SqL.of h', fun l hl => k _ l (s'.trans (Same.new hl)) (SqT.of upd_same)⟩⟩
theorem ok_evenl {f : Addr} {fd : FuncData} (F : Fun K "even_letters" "even_letters" sEvenL f fd) (T : Txt K mg) (gL : mg "check_letters" = some (.ref fL)) (kL : PySem.W.keepIn K (.ref fL) = true) (bL : Binds K dL ["letters"] [])
    (FL : FnOk P w K mg base CX0 5 fL dL ["letters"] (spChkL K)) : FnOk P w K mg base CX0 6 f fd ["letters"] (spPar K 0) := by
  refine F.ok scEvenL (fun vs H Q E h => ?_) (fun cdv A outer s H vs Q E hr h => ?_)
  · obtain ⟨a, L, rfl, _⟩ := h; rfl
  obtain ⟨a, L, rfl, ha, hL, k⟩ := h
  have hn := hL.len
  refine ⟨_, pss_cons (ps_expr (pe_call FL hr (by rfl) gL kL bL .nil pass0 (pa_cons (pv 0) pa_nil))) (pss_one (ps_ret (pe_callTy call_tuple_of (by rfl) T.tuple bootTuple (pa_cons (pe_lc (own := [("index", 1), ("degree", 2)]) (g := gTup K 2 (gCons (gName 1) (gCons (gName 2) gNil))) rfl scEvenL.nd (pi_enumT (by rfl) T.enumerate (pa_cons (pv 0) pa_nil))
      (blkOk_by (N := ["letters", "index", "degree"]) (sc := defScope sEvenL) (by decide +kernel)) (fun _ _ _ _ _ => pg_tup (by rfl) (pgs_cons (pg_name (i := 1) scEvenL.nd rfl (.inl rfl)) (pgs_cons (pg_name (i := 2) scEvenL.nd rfl (.inl rfl)) pgs_nil))) (fun _ _ _ _ _ => pts_one (pt_cmpR op_eq (pe_op op_mod (pv 2) pe_int) pe_int (nomark _)))
      (fun _ _ _ _ _ => pv 1)) pa_nil)))), ?_⟩
  refine ⟨_, rfl, a, L, rfl, ha, hL, fun H0 s0 => ?_⟩
  refine ⟨_, rfl, a, _, rfl, tupSame s0 ha, fun D hD => lc_par (r := 0) hD (tupSame s0 ha) (Nat.le_trans hn (by decide)) (fun _ _ => rfl) (fun n d H1 Q1 q => ?_) (fun n d H1 Q1 q => ?_) fun H' s' h' => ?_⟩
  · refine ⟨_, rfl, _, _, rfl, rfl, (by show (0 : Int) < 2; decide), rfl, _, rfl, ?_⟩
    rw [dInt]
    exact q
  · exact ⟨_, rfl, q⟩
  · exact ⟨D, _, rfl, .inl ⟨SqL.of h', fun l hl => k _ l (s0.trans (s'.trans (Same.new hl))) (SqT.of upd_same)⟩⟩
theorem ok_oddl {f : Addr} {fd : FuncData} (F : Fun K "odd_letters" "odd_letters" sOddL f fd) (gL : mg "check_letters" = some (.ref fL)) (kL : PySem.W.keepIn K (.ref fL) = true) (bL : Binds K dL ["letters"] [])
    (FL : FnOk P w K mg base CX0 5 fL dL ["letters"] (spChkL K)) (gO : mg "odd_indices" = some (.ref fO)) (kO : PySem.W.keepIn K (.ref fO) = true) (bO : Binds K dO ["letters"] [])
    (FO : FnOk P w K mg base CX0 1 fO dO ["letters"] (spPar K 1)) : FnOk P w K mg base CX0 6 f fd ["letters"] (spPar K 1) := by
  refine F.ok scOddL (fun vs H Q E h => ?_) (fun cdv A outer s H vs Q E hr h => ?_)
  · obtain ⟨a, L, rfl, _⟩ := h; rfl
  obtain ⟨a, L, rfl, ha, hL, k⟩ := h
  refine ⟨_, pss_cons (ps_expr (pe_call FL hr (by rfl) gL kL bL .nil pass0 (pa_cons (pv 0) pa_nil))) (pss_one (ps_ret (pe_call (FO.mono (by decide)) hr (by rfl) gO kO bO .nil pass0 (pa_cons (pv 0) pa_nil)))), ?_⟩
  exact ⟨_, rfl, a, L, rfl, ha, hL, fun H0 s0 => ⟨_, rfl, a, L, rfl, tupSame s0 ha, hL, fun H1 p s1 h1 => k H1 p (s0.trans s1) h1⟩⟩
theorem ok_topw {f : Addr} {fd : FuncData} (F : Fun K "top_word" "top_word" sTopW f fd) (T : Txt K mg) (gL : mg "check_letters" = some (.ref fL)) (kL : PySem.W.keepIn K (.ref fL) = true) (bL : Binds K dL ["letters"] [])
    (FL : FnOk P w K mg base CX0 5 fL dL ["letters"] (spChkL K)) (gO : mg "odd_indices" = some (.ref fO)) (kO : PySem.W.keepIn K (.ref fO) = true) (bO : Binds K dO ["letters"] [])
    (FO : FnOk P w K mg base CX0 1 fO dO ["letters"] (spPar K 1)) : FnOk P w K mg base CX0 6 f fd ["letters"] (spTop K) := by
  refine F.ok scTopW (fun vs H Q E h => ?_) (fun cdv A outer s H vs Q E hr h => ?_)
  · obtain ⟨a, L, rfl, _⟩ := h; rfl
  obtain ⟨a, L, rfl, ha, hL, ho, k⟩ := h
  refine ⟨_, pss_cons (ps_expr (pe_call FL hr (by rfl) gL kL bL .nil pass0 (pa_cons (pv 0) pa_nil)))
    (pss_cons (ps_if (pt_cmpR op_lt (pe_callB call_len_seq (by rfl) T.len PySem.boot_len (pa_cons (pe_call (FO.mono (by decide)) hr (by rfl) gO kO bO .nil pass0 (pa_cons (pv 0) pa_nil)) pa_nil)) (pe_callB call_len_seq (by rfl) T.len PySem.boot_len (pa_cons (pv 0) pa_nil)) (nomark _)) pss_never pss_nil)
    (pss_one (ps_ret (pe_op op_mulT (pe_tup (pa_cons pe_int pa_nil)) (pe_callB call_len_seq (by rfl) T.len PySem.boot_len (pa_cons (pv 0) pa_nil)))))), ?_⟩
  have h24 := hL.len
  have lL : (iV L).length = L.length := List.length_map _
  refine ⟨_, rfl, a, L, rfl, ha, hL, fun H0 s0 => ⟨_, rfl, a, L, rfl, tupSame s0 ha, hL, fun H1 p s1 h1 => ⟨p, _, rfl, .inr h1, _, rfl, a, _, rfl, .inr (tupSame (s0.trans s1) ha), _, _, rfl, rfl, _, rfl, ?_⟩⟩⟩
  rw [decide_eq_false (by rw [lL, List.length_map, par_all ho]; omega)]
  refine iteF ⟨(by show 1 ≤ sizeLine; decide), fun t ht => ?_⟩
  have s2 := Same.new (o := .tup [.int 1]) ht
  refine ⟨_, rfl, a, _, rfl, .inr (tupSame (s0.trans (s1.trans s2)) ha), t, _, [.int 1], rfl, rfl, SqT.of upd_same, (by intro z; cases z), by omega, by rw [lL]; omega, by decide, fun e1 => ?_, fun _ q hq => ?_⟩
  · rw [lL] at e1
    refine k _ t (s0.trans (s1.trans s2)) ?_
    rw [show L.length = 1 by omega]
    exact SqT.of upd_same
  · refine k _ q (s0.trans (s1.trans (s2.trans (Same.new hq)))) ?_
    have e : (List.replicate ((iV L).length : Int).toNat [V.int 1]).flatten = iV (List.replicate L.length 1) := by
      rw [Int.toNat_natCast, lL, List.flatten_replicate_singleton]
      exact List.map_replicate.symm
    rw [e]
    exact SqT.of upd_same
theorem ok_count {f : Addr} {fd : FuncData} (F : Fun K "count_words" "count_words" sCount f fd) (gS : mg "suffix_counts" = some (.ref fS)) (kS : PySem.W.keepIn K (.ref fS) = true) (bS : Binds K dS ["letters", "most"] [])
    (FS : FnOk P w K mg base CX0 2 fS dS ["letters", "most"] (spSuf K)) : FnOk P w K mg base CX0 3 f fd ["letters", "degree"] (spCount K) := by
  refine F.ok scCount (fun vs H Q E h => ?_) (fun cdv A outer s H vs Q E hr h => ?_)
  · obtain ⟨a, L, d, rfl, _⟩ := h; rfl
  obtain ⟨a, L, d, rfl, ha, hL, hd, k⟩ := h
  refine ⟨_, pss_cons (ps_if (pt_cmpR op_lt (pv 1) pe_int (nomark _)) (pss_one (ps_ret pe_int)) pss_nil)
    (pss_one (ps_ret (pe_ix ix_list (pe_ix ix_list (pe_call FS hr (by rfl) gS kS bS .nil pass0 (pa_cons (pv 0) (pa_cons (pv 1) pa_nil))) pe_int (fun _ _ => rfl)) (pv 1) (fun _ _ => rfl)))), ?_⟩
  refine ⟨_, rfl, _, _, rfl, rfl, _, rfl, ?_⟩
  rw [decide_eq_false (by omega)]
  refine iteF ⟨_, rfl, _, rfl, a, L, d, rfl, ha, hL.len, fun y hy => ⟨hL.lo y hy, hL.hi y hy⟩, by omega, fun H1 p s1 hp hc => ?_⟩
  obtain ⟨xs, hx, lx, hrow⟩ := hc
  obtain ⟨x, gx, rr, rfl, hrr⟩ := hrow 0 (Nat.zero_le _)
  exact ⟨p, xs, _, _, rfl, rfl, SqL.of hx, atI_nat gx, _, rfl, rr, _, _, _, rfl, rfl, SqL.of hrr, atI_nat (rowOf_get (Nat.le_refl _)), k H1 s1⟩
theorem ok_listed {f : Addr} {fd : FuncData} (F : Fun K "listed_words" "listed_words" sListed f fd) (gS : mg "suffix_counts" = some (.ref fS)) (kS : PySem.W.keepIn K (.ref fS) = true) (bS : Binds K dS ["letters", "most"] [])
    (FS : FnOk P w K mg base CX0 2 fS dS ["letters", "most"] (spSuf K)) (gF : mg "first_word" = some (.ref fF)) (kF : PySem.W.keepIn K (.ref fF) = true) (bF : Binds K dF ["letters", "counts", "degree"] [])
    (FF : FnOk P w K mg base CX0 2 fF dF ["letters", "counts", "degree"] (spFirst K)) (gN : mg "next_word" = some (.ref fN)) (kN : PySem.W.keepIn K (.ref fN) = true) (bN : Binds K dN ["letters", "counts", "word"] [])
    (FN : FnOk P w K mg base CX0 2 fN dN ["letters", "counts", "word"] (spNext K)) : FnOk P w K mg base CX0 3 f fd ["letters", "degree"] (spListed K) := by
  refine F.ok scListed (fun vs H Q E h => ?_) (fun cdv A outer s H vs Q E hr h => ?_)
  · obtain ⟨a, L, d, rfl, _⟩ := h; rfl
  obtain ⟨a, L, d, rfl, ha, hL, hd, hcn, k⟩ := h
  refine ⟨_, pss_cons (ps_if (pt_cmpR op_lt (pv 1) pe_int (nomark _)) (pss_one (ps_ret (pe_lst pa_nil))) pss_nil)
    (pss_cons (ps_set (i := 2) scListed.nd rfl (.inl rfl) (pe_call FS hr (by rfl) gS kS bS .nil pass0 (pa_cons (pv 0) (pa_cons (pv 1) pa_nil))))
    (pss_cons (ps_set (i := 3) scListed.nd rfl (.inl rfl) (pe_lst pa_nil))
    (pss_cons (ps_set (i := 4) scListed.nd rfl (.inl rfl) (pe_call FF hr (by rfl) gF kF bF .nil pass0 (pa_cons (pv 0) (pa_cons (pv 2) (pa_cons (pv 1) pa_nil)))))
    (pss_cons (ps_while PassesOwn.never (pt_cmpR op_notN (pv 4) pe_non (nomark _))
      (pss_cons (ps_expr (pe_bm PySem.F.plainAttrs_list PySem.F.slot_list_append PySem.F.type_list_append mt_append (pv 3) (pa_cons (pv 4) pa_nil)))
      (pss_one (ps_set (i := 4) scListed.nd rfl (.inl rfl) (pe_call FN hr (by rfl) gN kN bN .nil pass0 (pa_cons (pv 0) (pa_cons (pv 2) (pa_cons (pv 4) pa_nil))))))))
    (pss_one (ps_ret (pv 3))))))), ?_⟩
  refine ⟨_, rfl, _, _, rfl, rfl, _, rfl, ?_⟩
  rw [decide_eq_false (by omega)]
  refine iteF ⟨_, rfl, _, rfl, a, L, d, rfl, ha, hL.len, fun y hy => ⟨hL.lo y hy, hL.hi y hy⟩, by omega, fun H1 c s1 hc1 hc => ?_⟩
  refine ⟨(by show 0 ≤ sizeLine; decide), fun q hq => ?_⟩
  have s2 := Same.new (o := .lst []) hq
  have hq0 : H q = none := none_of s1 hq
  refine ⟨_, rfl, _, rfl, _, rfl, a, c, L, d, d, rfl, tupSame (s1.trans s2) ha, hc.mono s2, hL, by omega, Nat.le_refl _, fun H2 v s3 hv => ?_⟩
  have lw := wds_length_pos hL d
  refine ⟨fun m σ H' => ∃ (j : Nat) (v : V) (xs : List V), m + j = (wds L d).length ∧ σ = [some (.ref a), some (.int (d : Int)), some (.ref c), some (.ref q), some v] ∧ Same H1 H' ∧ H' q = some (.lst xs) ∧ TupsV K H' xs ((wds L d).take j) ∧ WordIs K H' v (wds L d)[j]?,
    ⟨(wds L d).length, 0, v, [], rfl, rfl, s2.trans s3, s3 _ _ upd_same, .nil, by rw [← List.head?_eq_getElem?]; exact hv⟩, fun m σ H' hw => ?_⟩
  obtain ⟨j, v, xs, hm, rfl, s4, hq4, tv, hv⟩ := hw
  have lx := tv_len tv
  rw [List.length_take] at lx
  refine ⟨_, rfl, rfl, _, rfl, ?_⟩
  cases z : (wds L d)[j]? with
  | none =>
    rw [z] at hv
    have hv : v = .non := hv
    subst hv
    have hj : (wds L d).length ≤ j := List.getElem?_eq_none_iff.mp z
    refine iteF ⟨_, rfl, k H' q xs (s1.trans s4) hq0 hq4 ?_⟩
    rw [List.take_of_length_le hj] at tv
    exact tv
  | some u =>
    rw [z] at hv
    obtain ⟨t, rfl, ht⟩ := hv
    have hj : j < (wds L d).length := (List.getElem?_eq_some_iff.mp z).1
    obtain ⟨wo, we⟩ := wds_mem hL.pos (List.mem_of_getElem? z)
    refine iteT ⟨fun σ' H'' => ∃ (v : V) (xs : List V), σ' = [some (.ref a), some (.int (d : Int)), some (.ref c), some (.ref q), some v] ∧ Same H1 H'' ∧ H'' q = some (.lst xs) ∧ TupsV K H'' xs ((wds L d).take (j + 1)) ∧ WordIs K H'' v (wds L d)[j + 1]?,
      fun σ' H'' ⟨v, xs, e1, e2, e4, e5, e6⟩ => ⟨m - 1, by omega, j + 1, v, xs, by omega, e1, e2, e4, e5, e6⟩, ?_⟩
    refine ⟨_, rfl, .inl ⟨rfl, _, SqL.of hq4⟩, _, rfl, q, xs, _, rfl, rfl, hq4, Nat.lt_of_le_of_lt (by omega : xs.length ≤ 900) (small1000 (by omega)), ?_⟩
    have st : ∀ b o, b ≠ q → H' b = some o → upd H' q (.lst (xs ++ [.ref t])) b = some o := fun b o nb e => by rw [upd_ne nb]; exact e
    have tk : ∀ {b : Addr} {l : List Int}, SqT K H' b (iV l) → SqT K (upd H' q (.lst (xs ++ [.ref t]))) b (iV l) := fun {b l} h => by
      rcases h with (h | ⟨o, h⟩) | h
      · exact .inl (.inl (st _ _ (ne_of h hq4 (by intro z; cases z)) h))
      · exact .inl (.inr ⟨o, st _ _ (ne_of h hq4 (by intro z; cases z)) h⟩)
      · exact .inr h
    have s5 : Same H1 (upd H' q (.lst (xs ++ [.ref t]))) := Same.back s4 hq
    refine ⟨_, rfl, _, rfl, _, rfl, a, c, t, L, u, d, d, rfl, tupSame (s1.trans s5) ha, hc.mono s5, hL, by omega, tk ht, wo, we, Nat.le_refl _, fun H5 v5 s6 hv5 => ?_⟩
    refine ⟨v5, xs ++ [.ref t], rfl, s5.trans s6, s6 _ _ upd_same, ?_, ?_⟩
    · rw [take_more z]
      exact Paired.snoc (Paired.mapP tv fun _ _ ⟨t', e, y⟩ => ⟨t', e, tupSame s6 (tk y)⟩) ⟨t, rfl, tupSame s6 (tk ht)⟩
    · have g := nxt_good L d hL.pos j u z
      rw [Option.or_none] at g
      rw [← g]
      exact hv5
theorem ok_wcount {f : Addr} {fd : FuncData} (F : Fun K "word_count" "word_count" sWordCount f fd) (T : Txt K mg) (gL : mg "check_letters" = some (.ref fL)) (kL : PySem.W.keepIn K (.ref fL) = true) (bL : Binds K dL ["letters"] [])
    (FL : FnOk P w K mg base CX0 5 fL dL ["letters"] (spChkL K)) (gB : mg "check_between" = some (.ref fB)) (kB : PySem.W.keepIn K (.ref fB) = true) (bB : Binds K dB ["value", "least", "most"] [])
    (FB : FnOk P w K mg base CX0 4 fB dB ["value", "least", "most"] (spChkB K)) (gC : mg "count_words" = some (.ref fC)) (kC : PySem.W.keepIn K (.ref fC) = true) (bC : Binds K dC ["letters", "degree"] [])
    (FC : FnOk P w K mg base CX0 3 fC dC ["letters", "degree"] (spCount K)) : FnOk P w K mg base CX0 6 f fd ["letters", "degree"] (spCount K) := by
  refine F.ok scWCount (fun vs H Q E h => ?_) (fun cdv A outer s H vs Q E hr h => ?_)
  · obtain ⟨a, L, d, rfl, _⟩ := h; rfl
  obtain ⟨a, L, d, rfl, ha, hL, hd, k⟩ := h
  obtain ⟨t1, m1⟩ := T.cMAXDEGREE
  refine ⟨_, pss_cons (ps_expr (pe_call FL hr (by rfl) gL kL bL .nil pass0 (pa_cons (pv 0) pa_nil)))
    (pss_cons (ps_expr (pe_call (FB.mono (by decide)) hr (by rfl) gB kB bB .nil pass0 (pa_cons (pv 1) (pa_cons pe_int (pa_cons (pe_glob (v := .int 80) (by rfl) m1 ⟨_, rfl⟩) pa_nil)))))
    (pss_one (ps_ret (pe_call (FC.mono (by decide)) hr (by rfl) gC kC bC .nil pass0 (pa_cons (pv 0) (pa_cons (pv 1) pa_nil)))))), ?_⟩
  exact ⟨_, rfl, a, L, rfl, ha, hL, fun H0 s0 => ⟨_, rfl, _, _, _, rfl, by omega, by omega, by omega, by omega, _, rfl, _, rfl, a, L, d, rfl, tupSame s0 ha, hL, hd, fun H1 s1 => k H1 (s0.trans s1)⟩⟩
theorem ok_words {f : Addr} {fd : FuncData} (F : Fun K "words_of" "words_of" sWordsOf f fd) (T : Txt K mg) (gL : mg "check_letters" = some (.ref fL)) (kL : PySem.W.keepIn K (.ref fL) = true) (bL : Binds K dL ["letters"] [])
    (FL : FnOk P w K mg base CX0 5 fL dL ["letters"] (spChkL K)) (gB : mg "check_between" = some (.ref fB)) (kB : PySem.W.keepIn K (.ref fB) = true) (bB : Binds K dB ["value", "least", "most"] [])
    (FB : FnOk P w K mg base CX0 4 fB dB ["value", "least", "most"] (spChkB K)) (gC : mg "count_words" = some (.ref fC)) (kC : PySem.W.keepIn K (.ref fC) = true) (bC : Binds K dC ["letters", "degree"] [])
    (FC : FnOk P w K mg base CX0 3 fC dC ["letters", "degree"] (spCount K)) (gS : mg "listed_words" = some (.ref fS)) (kS : PySem.W.keepIn K (.ref fS) = true) (bS : Binds K dS ["letters", "degree"] [])
    (FS : FnOk P w K mg base CX0 3 fS dS ["letters", "degree"] (spListed K)) : FnOk P w K mg base CX0 6 f fd ["letters", "degree"] (spWords K) := by
  refine F.ok scWords (fun vs H Q E h => ?_) (fun cdv A outer s H vs Q E hr h => ?_)
  · obtain ⟨a, L, d, rfl, _⟩ := h; rfl
  obtain ⟨a, L, d, rfl, ha, hL, hd, hcn, k⟩ := h
  obtain ⟨t1, m1⟩ := T.cMAXDEGREE
  obtain ⟨t2, m2⟩ := T.cMAXWORDS
  refine ⟨_, pss_cons (ps_expr (pe_call FL hr (by rfl) gL kL bL .nil pass0 (pa_cons (pv 0) pa_nil)))
    (pss_cons (ps_expr (pe_call (FB.mono (by decide)) hr (by rfl) gB kB bB .nil pass0 (pa_cons (pv 1) (pa_cons pe_int (pa_cons (pe_glob (v := .int 80) (by rfl) m1 ⟨_, rfl⟩) pa_nil)))))
    (pss_cons (ps_if (pt_cmpR op_gt (pe_call (FC.mono (by decide)) hr (by rfl) gC kC bC .nil pass0 (pa_cons (pv 0) (pa_cons (pv 1) pa_nil))) (pe_glob (v := .int 400) (by rfl) m2 ⟨_, rfl⟩) (nomark _)) pss_never pss_nil)
    (pss_one (ps_ret (pe_callTy call_tuple_of (by rfl) T.tuple bootTuple (pa_cons (pe_call (FS.mono (by decide)) hr (by rfl) gS kS bS .nil pass0 (pa_cons (pv 0) (pa_cons (pv 1) pa_nil))) pa_nil)))))), ?_⟩
  refine ⟨_, rfl, a, L, rfl, ha, hL, fun H0 s0 => ⟨_, rfl, _, _, _, rfl, by omega, by omega, by omega, by omega, _, rfl, _, rfl, a, L, d, rfl, tupSame s0 ha, hL, hd, fun H1 s1 => ⟨_, _, rfl, rfl, _, rfl, ?_⟩⟩⟩
  rw [decide_eq_false (by omega)]
  refine iteF ⟨_, rfl, _, rfl, a, L, d, rfl, tupSame (s0.trans s1) ha, hL, hd, by omega, fun H2 p xs s2 hp hx tv => ⟨p, xs, rfl, .inl ⟨SqL.of hx, fun q hq => ?_⟩⟩⟩
  have s3 := Same.new (o := .tup xs) hq
  exact k _ q xs (s0.trans (s1.trans (s2.trans s3))) (SqT.of upd_same) (tv_mono tv s3)
end
end K6
namespace K6
open PySem PySem.Spec PyProof.Rows L2 RZ
def upto (L : List Int) (n : Nat) : List (List Int) := (List.range n).flatMap (wds L)
theorem upto_succ (L : List Int) (n : Nat) : upto L (n + 1) = upto L n ++ wds L n := by
  unfold upto
  rw [List.range_succ, List.flatMap_append, List.flatMap_cons]
  show _ ++ (wds L n ++ []) = _
  rw [List.append_nil]
theorem upto_mono (L : List Int) {m : Nat} : ∀ {n : Nat}, m ≤ n → (upto L m).length ≤ (upto L n).length
  | 0, h => by
    obtain rfl : m = 0 := by omega
    exact Nat.le_refl _
  | n + 1, h => by
    by_cases c : m = n + 1
    · rw [c]
      exact Nat.le_refl _
    · have ih := upto_mono L (m := m) (n := n) (by omega)
      rw [upto_succ, List.length_append]
      omega
def spEach (K : PySem.W.Frag) : SpG := fun vs H Q _ => ∃ (a : Addr) (L : List Int) (N : Nat), vs = [.ref a, .int (N : Int)] ∧ SqT K H a (iV L) ∧ Lt L ∧ N ≤ 80 ∧ (upto L (N + 1)).length ≤ 5000 ∧ ∀ H' ys, Same H H' → TupsV K H' ys (upto L (N + 1)) → Q ys H'
theorem scEach : GScope ["letters", "most", "counts", "degree", "word"] ["letters", "most"] (defScope sEach) := ⟨rfl, rfl, rfl, by decide +kernel, rfl, by decide +kernel, by decide +kernel⟩
theorem big5000 {n : Nat} (h : n ≤ 5000) : n < sizeLine := by rw [sizeLine_eq]; omega
section
variable {P : Program} {w : World} {K : PySem.W.Frag} {mg : Str → Option Value} {base : Heap} {fB fL fC fS fF fN fO : Addr} {dB dL dC dS dF dN dO : FuncData}
theorem ok_each {f : Addr} {fd : FuncData} (F : Fun K "each_word" "each_word" sEach f fd) (T : Txt K mg) (gL : mg "check_letters" = some (.ref fL)) (kL : PySem.W.keepIn K (.ref fL) = true) (bL : Binds K dL ["letters"] [])
    (FL : FnOk P w K mg base CX0 5 fL dL ["letters"] (spChkL K)) (gB : mg "check_between" = some (.ref fB)) (kB : PySem.W.keepIn K (.ref fB) = true) (bB : Binds K dB ["value", "least", "most"] [])
    (FB : FnOk P w K mg base CX0 4 fB dB ["value", "least", "most"] (spChkB K)) (gS : mg "suffix_counts" = some (.ref fS)) (kS : PySem.W.keepIn K (.ref fS) = true) (bS : Binds K dS ["letters", "most"] [])
    (FS : FnOk P w K mg base CX0 2 fS dS ["letters", "most"] (spSuf K)) (gF : mg "first_word" = some (.ref fF)) (kF : PySem.W.keepIn K (.ref fF) = true) (bF : Binds K dF ["letters", "counts", "degree"] [])
    (FF : FnOk P w K mg base CX0 2 fF dF ["letters", "counts", "degree"] (spFirst K)) (gN : mg "next_word" = some (.ref fN)) (kN : PySem.W.keepIn K (.ref fN) = true) (bN : Binds K dN ["letters", "counts", "word"] [])
    (FN : FnOk P w K mg base CX0 2 fN dN ["letters", "counts", "word"] (spNext K)) : GFn P w K mg base 6 f fd ["letters", "most"] (spEach K) := by
  obtain ⟨oc, od, kV, doc, pm, an, cdv, ct, osl, rfl, lk, hcd⟩ := F.ex
  refine gfn_of lk hcd scEach (fun vs H Q E h => ?_) fun A outer s H vs Q E pn hr h => ?_
  · obtain ⟨a, L, N, rfl, _⟩ := h; rfl
  obtain ⟨a, L, N, rfl, ha, hL, hN, htot, k⟩ := h
  obtain ⟨t1, m1⟩ := T.cMAXDEGREE
  refine ⟨_, gss_cons (gs_ps (ps_expr (pe_call FL hr (by rfl) gL kL bL .nil pass0 (pa_cons (pv 0) pa_nil))))
    (gss_cons (gs_ps (ps_expr (pe_call (FB.mono (by decide)) hr (by rfl) gB kB bB .nil pass0 (pa_cons (pv 1) (pa_cons pe_int (pa_cons (pe_glob (v := .int 80) (by rfl) m1 ⟨_, rfl⟩) pa_nil))))))
    (gss_cons (gs_ps (ps_set (i := 2) scEach.nd rfl (.inl rfl) (pe_call (FS.mono (by decide)) hr (by rfl) gS kS bS .nil pass0 (pa_cons (pv 0) (pa_cons (pv 1) pa_nil)))))
    (gss_cons (gs_for owns_gcx rfl (pi_range1 rfl T.range (pa_cons (pe_op op_add (pv 1) pe_int) pa_nil)) (pg_name (i := 3) scEach.nd rfl (.inl rfl))
      (gss_cons (gs_ps (ps_set (i := 4) scEach.nd rfl (.inl rfl) (pe_call (FF.mono (by decide)) hr (by rfl) gF kF bF .nil pass0 (pa_cons (pv 0) (pa_cons (pv 2) (pa_cons (pv 3) pa_nil))))))
      (gss_cons (gs_while owns_gcx (pt_cmpR op_notN (pv 4) pe_non (nomark _))
        (gss_cons (gs_yield (pv 4))
        (gss_cons (gs_ps (ps_set (i := 4) scEach.nd rfl (.inl rfl) (pe_call (FN.mono (by decide)) hr (by rfl) gN kN bN .nil pass0 (pa_cons (pv 0) (pa_cons (pv 2) (pa_cons (pv 4) pa_nil))))))
        gss_nil))) gss_nil))) gss_nil))), ?_⟩
  refine ⟨_, rfl, a, L, rfl, ha, hL, fun H0 s0 => ⟨_, rfl, _, _, _, rfl, by omega, by omega, by omega, by omega, _, rfl, _, rfl, a, L, N, rfl, tupSame s0 ha, hL.len, fun y hy => ⟨hL.lo y hy, hL.hi y hy⟩, by omega, fun H1 c s1 hc1 hc => ?_⟩⟩
  have s01 := s0.trans s1
  refine ⟨_, rfl, _, _, rfl, rfl, _, rfl, by omega, by omega, fun i m ys σ H' => m + i = N + 1 ∧ (∃ o3 o4, σ = [some (.ref a), some (.int (N : Int)), some (.ref c), o3, o4]) ∧ Same H1 H' ∧ TupsV K H' ys (upto L i),
    ⟨N + 1, rfl, ⟨_, _, rfl⟩, Same.refl _, .nil⟩, fun i m ys σ H' hw => ?_⟩
  obtain ⟨hm, ⟨o3, o4, rfl⟩, s2, tv⟩ := hw
  by_cases hi : i = N + 1
  · subst hi
    refine .inl ⟨?_, ?_⟩
    · show (((N : Int) + 1).toNat) ≤ N + 1
      omega
    · exact k H' ys (s01.trans s2) tv
  · refine .inr ⟨?_, fun ys' σ' H'' => (∃ o3 o4, σ' = [some (.ref a), some (.int (N : Int)), some (.ref c), o3, o4]) ∧ Same H1 H'' ∧ TupsV K H'' ys' (upto L (i + 1)), fun ys' σ' H'' hh => ⟨m - 1, by omega, by omega, hh⟩, ?_⟩
    · show i < (((N : Int) + 1).toNat)
      omega
    · rintro x H2 ⟨rfl, rfl⟩
      refine ⟨_, rfl, _, rfl, _, rfl, a, c, L, N, i, by show [V.ref a, .ref c, .int (0 + (i : Int))] = _; rw [Int.zero_add], tupSame (s01.trans s2) ha, hc.mono s2, hL, by omega, by omega, fun H3 v s3 hv => ?_⟩
      have hiN : i + 1 ≤ N + 1 := by omega
      have mono := upto_mono L hiN
      rw [upto_succ, List.length_append] at mono
      refine ⟨fun m ys σ H' => ∃ (j : Nat) (v : V), m + j = (wds L i).length ∧ σ = [some (.ref a), some (.int (N : Int)), some (.ref c), some (.int (0 + (i : Int))), some v] ∧ Same H1 H' ∧ TupsV K H' ys (upto L i ++ (wds L i).take j) ∧ WordIs K H' v (wds L i)[j]?,
        ⟨(wds L i).length, 0, v, rfl, rfl, s2.trans s3, by rw [List.take_zero, List.append_nil]; exact tv_mono tv s3, by rw [← List.head?_eq_getElem?]; exact hv⟩, fun m ys σ H' hw => ?_⟩
      obtain ⟨j, v, hm, rfl, s4, tv4, hv⟩ := hw
      refine ⟨_, rfl, rfl, _, rfl, ?_⟩
      cases z : (wds L i)[j]? with
      | none =>
        rw [z] at hv
        have hv : v = .non := hv
        subst hv
        have hj : (wds L i).length ≤ j := List.getElem?_eq_none_iff.mp z
        refine iteF ⟨⟨_, _, rfl⟩, s4, ?_⟩
        rw [List.take_of_length_le hj] at tv4
        rw [upto_succ]
        exact tv4
      | some u =>
        rw [z] at hv
        obtain ⟨t, rfl, ht⟩ := hv
        have hj : j < (wds L i).length := (List.getElem?_eq_some_iff.mp z).1
        obtain ⟨wo, we⟩ := wds_mem hL.pos (List.mem_of_getElem? z)
        have ly := tv_len tv4
        rw [List.length_append, List.length_take] at ly
        refine iteT ⟨fun ys' σ' H'' => ∃ (v : V), σ' = [some (.ref a), some (.int (N : Int)), some (.ref c), some (.int (0 + (i : Int))), some v] ∧ Same H1 H'' ∧ TupsV K H'' ys' (upto L i ++ (wds L i).take (j + 1)) ∧ WordIs K H'' v (wds L i)[j + 1]?,
          fun ys' σ' H'' ⟨v, e1, e2, e3, e4⟩ => ⟨m - 1, by omega, j + 1, v, by omega, e1, e2, e3, e4⟩, ?_⟩
        refine ⟨big5000 (by omega), _, rfl, _, rfl, _, rfl, _, rfl, a, c, t, L, u, N, i, rfl, tupSame (s01.trans s4) ha, hc.mono s4, hL, by omega, ht, wo, we, by omega, fun H5 v5 s6 hv5 => ?_⟩
        refine ⟨v5, rfl, s4.trans s6, ?_, ?_⟩
        · rw [take_more z, ← List.append_assoc]
          exact Paired.snoc (tv_mono tv4 s6) ⟨t, rfl, tupSame s6 ht⟩
        · have g := nxt_good L i hL.pos j u z
          rw [Option.or_none] at g
          rw [← g]
          exact hv5
end
end K6
namespace K6X
open PySem PySem.W PySem.Calls PyProof.Rows PySem.HandSPX PySem.Builtin PySem.Builtin.ObjectAttr
/-! ### InvalidNumber(given), a class over IndexError with an __init__ of its own -/
abbrev ieB : List Value := [.type "IndexError", .type "LookupError", .type "Exception", .type "BaseException", .type "object"]
def nuA (r1 r2 : Pos) : Arguments :=
  { posonlyargs := [], args := [{ arg := "self", annotation := none, pos := r1 }, { arg := "given", annotation := none, pos := r2 }], vararg := none, kwonlyargs := [], kw_defaults := [], kwarg := none, defaults := [] }
def nuB (r1 r2 r3 r4 : Pos) : List Stmt := [.Assign [.Attribute (.Name "self" r1) "given" r2] (.Name "given" r3) r4]
def nuS : Scope :=
  { kind := .function, names := [(PySem.Str.ofString "self", .local), (PySem.Str.ofString "given", .local)], isGenerator := false, isCoroutine := false, more := [] }
/-- what the written part says of the class at C and of its __init__ at i0 -/
structure NumTxt (K : Frag) (mg : Str → Option Value) (C i0 : Addr) : Prop where
  named : mg "InvalidNumber" = some (.ref C)
  made : excInitIn K C ieB "IndexError.__new__" = true
  over : excOver K C ieB = true
  dict : hasDictIn K C = true
  stores : findIn K (.ref C) "__setattr__" = some (some (.builtin "object.__setattr__"))
  reads : findIn K (.ref C) "__getattribute__" = some (some (.builtin "BaseException.__getattribute__"))
  reads2 : findIn K (.ref C) "__getattr__" = some none
  noGiven : findIn K (.ref C) "given" = some none
  inits : findIn K (.ref C) "__init__" = some (some (.ref i0))
  isdef : typeIn K (.ref i0) = some (.type "function")
  keepC : keepIn K (.ref C) = true
  isExc : subIn K (.ref C) (.type "BaseException") = some true
  isCls : typeIn K (.ref C) = some (.type "type")
  self1 : exmOne K (.ref C) (.ref C) = some true
  text : ∃ (oc : Value) (od : Option Addr) (doc pm : Value) (an : Option Addr) (cdv ct : Value) (osl : Array (Option Value)) (r1 r2 r3 r4 r5 r6 : Pos),
    K.lookup i0 = some ⟨oc, od, .func (fnOf "__init__" "InvalidNumber.__init__" (nuA r1 r2) (nuB r3 r4 r5 r6) nuS .none .none doc pm an cdv ct), osl⟩ ∧ codeIn K cdv "InvalidNumber.__init__" = true
/-- the object of an exception that holds its arguments alone -/
abbrev bareX (C t : Addr) : Obj := { cls := .ref C, data := .fields #[.ref t, .none, .none, .none, .bool false, .none] }
abbrev withX (C t dx : Addr) : Obj := { cls := .ref C, dict := some dx, data := .fields #[.ref t, .none, .none, .none, .bool false, .none] }
theorem one_fits (v : Value) : [v].length ≤ sizeLine := by
  rw [sizeLine_eq]
  show 1 ≤ 16777216
  decide
section
variable {prog : Program} {w : World} {A : Around} {E : Value → Shared → Prop} {R : Result → Shared → Prop} {K : Frag} {mg : Str → Option Value} {C i0 : Addr}
/-- object.__setattr__ on such an object that has no dict yet -/
theorem num_store {hp : Heap} {g : Array GenState} {d : Drawn} {t : Nat} {os : OsState} {name : Str} {tk : Tok} {v : Value} {x t0 : Addr} (X : K.In hp) (gx : hp.get? x = some (bareX C t0)) (ov : excOver K C ieB = true) (hh : hasDictIn K C = true)
    (nn : findIn K (.ref C) name = some none)
    (go : ∀ h' tk' dx, (∀ b o, b ≠ x → hp.get? b = some o → h'.get? b = some o) → hp.objs.size ≤ dx → dx ≠ x → h'.get? x = some (withX C t0 dx) → h'.Ns1 dx (fun y => if y = name then some v else none) → R (.ok (.ret .none)) ⟨h', g, d, tk', os⟩) :
    codeAny (model prog w) A (.call (.builtin "object.__setattr__") ⟨[.ref x, .str name tk, v], []⟩) R ⟨hp, g, d, t, os⟩ := by
  refine osa_openX (s := ⟨hp, g, d, t, os⟩) (ox := bareX C t0) (od := none) PySem.F.store_IndexError X ⟨gx, rfl, rfl, trivial⟩ ov (L2.NoAttr.taker nn) fun b => ?_
  obtain ⟨cd, hc, hd'⟩ := any_some hh
  have nx : x ≠ hp.objs.size := Nat.ne_of_lt (Heap.lt_size gx)
  refine wpAny_bind (wpAny_pure (wpAny_bind (instanceDict_exc (s := ⟨hp, g, d, t, os⟩) (c2 := .none) (t := t0) gx (looks_clsIn X hc) hd' ?_)))
  show wpAny _ _ (storeInDict hp.objs.size (.str name tk) name v) _ _ _
  refine store_in_new (hp := (hp.push (dictOf [] 0)).update x fun o => { o with dict := some hp.objs.size }) ?_ fun h' tk' hn' hs => ?_
  · exact ⟨_, #[], _, (Heap.get?_update_ne _ _ _ _ nx.symm).trans (Heap.get?_push_at rfl rfl), rfl, fun e he => absurd he (by simp), fun _ => rfl⟩
  · have gx1 : (hp.push (dictOf [] 0)).get? x = some (bareX C t0) := Heap.get?_push_of_some _ gx
    refine go h' tk' hp.objs.size (fun b o hb ho => ?_) (Nat.le_refl _) nx.symm ?_ hn'
    · exact (hs.2 b (Nat.ne_of_lt (Heap.lt_size ho))).trans ((Heap.get?_update_ne _ _ _ _ hb).trans (Heap.get?_push_of_some _ ho))
    · exact (hs.2 x nx).trans (Heap.get?_update_self _ gx1 rfl)
theorem localC {M : Model} {s : Shared} {name : Str} {scope : Scope} {L a : Addr} {cd : Value} {m : Str → Option Value} {x : Str} {pos : Pos} {v : Value} {Q : Value → Shared → Prop} (ns : s.heap.Ns L m) (e : m x = some v) (q : Q v s)
    (k1 : scope.kind = .function := by rfl) (k2 : (envOfC name scope L a cd).kindOf x = some .local := by rfl) (k3 : (x == ("__debug__" : Str)) = false := by decide) :
    wpAny M A (eval (.Name x pos) (envOfC name scope L a cd)) Q E s :=
  wpAny_Name (wpAny_loadName_local k1 k2 ns e q) k3
/-- __init__ on a fresh object at x -/
theorem num_init {s : Shared} (T : NumTxt K mg C i0) {x t0 : Addr} {v : Value} (X : K.In s.heap) (lim : s.heap.NoLimit) (gx : s.heap.get? x = some (bareX C t0)) (room : A.depth < recursionLimit)
    (go : ∀ h' tk dx, (∀ b o, b ≠ x → s.heap.get? b = some o → h'.get? b = some o) → h'.get? x = some (withX C t0 dx) → s.heap.objs.size ≤ dx → dx ≠ x → h'.Ns1 dx (fun y => if y = "given" then some v else none) →
      R (.ok (.ret .none)) { s with heap := h', toks := tk }) :
    codeAny (model prog w) A (.call (.ref i0) ⟨[.ref x, v], []⟩) R s := by
  obtain ⟨oc, od, doc, pm, an, cdv, ct, osl, r1, r2, r3, r4, r5, r6, lk, cdk⟩ := T.text
  refine Att.call_fn (binds := [("self", .ref x), ("given", v)]) X lim lk cdk room (BindsTo.of_eq (by first | rfl | with_unfolding_all rfl)) (by first | rfl | decide | with_unfolding_all rfl) (fun s1 IC => ?_) rfl rfl rfl
  obtain ⟨h1, tk1, rfl⟩ := IC.toInCall.same
  have kp : ∀ b o, s.heap.get? b = some o → h1.get? b = some o := IC.toInCall.keep
  have ns := IC.toInCall.ns
  have X1 : K.In h1 := X.keeps kp
  have gx1 := kp _ _ gx
  show wpAny _ _ (execs _ _) _ _ _
  refine wpAny_execs_cons (plainObj_wpAny_Assign_Attribute ?_)
  refine localC (v := v) ns (by first | rfl | with_unfolding_all rfl | kernel_rfl) (localC (v := .ref x) ns (by first | rfl | with_unfolding_all rfl | kernel_rfl) ?_)
  refine set_plain X1 (ox := bareX C t0) (od := none) ⟨gx1, rfl, rfl, trivial⟩ T.stores ?_
  refine num_store X1 gx1 T.over T.dict T.noGiven (fun h3 tk3 dx k3 dn dne gx3 ns3 => ?_)
  show wpAny _ _ (execs _ _) _ _ _
  have z : s.heap.objs.size < h1.objs.size := ns.lt
  exact wpAny_execs_nil (go h3 tk3 dx (fun b o hb e => k3 b o hb (kp b o e)) gx3 (Nat.le_of_lt (Nat.lt_of_lt_of_le z dn)) dne ns3)
/-- InvalidNumber(v) -/
theorem num_call {s : Shared} (T : NumTxt K mg C i0) {v : Value} (X : K.In s.heap) (lim : s.heap.NoLimit) (room : A.depth + 1 < recursionLimit)
    (go : ∀ h' tk e d oe, (∀ b o, s.heap.get? b = some o → h'.get? b = some o) → s.heap.objs.size ≤ e → h'.get? e = some oe → (∃ t0, oe = withX C t0 d) → s.heap.objs.size ≤ d → d ≠ e →
      h'.Ns1 d (fun y => if y = "given" then some v else none) → R (.ok (.ret (.ref e))) { s with heap := h', toks := tk }) :
    codeAny (model prog w) A (.call (.ref C) ⟨[v], []⟩) R s := by
  obtain ⟨nm, N', qn, bs, bm, hdct, sn, sub, ab, col, dd, k0, k1, k2, k3, k5, hC, hT⟩ := excInit_of X T.made
  obtain ⟨hp, g, dr, tk, os⟩ := s
  have kp : ∀ b o, hp.get? b = some o → ((hp.push (kdv_tup [v])).push (excO C hp.objs.size)).get? b = some o := fun b o e => Heap.get?_push_of_some _ (Heap.get?_push_of_some _ e)
  have get1 : ((hp.push (kdv_tup [v])).push (excO C hp.objs.size)).get? (hp.objs.size + 1) = some (bareX C hp.objs.size) := by heap_get
  refine call_own F.excBase_IndexError hT hC (looks_findIn X T.inits) (fun self => bind_fn X self T.isdef) (one_fits v) ?_
  refine num_init (s := ⟨(hp.push (kdv_tup [v])).push (excO C hp.objs.size), g, dr, tk, os⟩) T (X.keeps kp) (lim.keeps kp) get1 ?_ fun h' tk' dx k' gx dn dne ns => ?_
  · show A.depth + 1 < recursionLimit
    exact room
  · have old : ∀ b o, hp.get? b = some o → h'.get? b = some o := fun b o e => k' b o (Nat.ne_of_lt (Nat.lt_succ_of_lt (Heap.lt_size e))) (kp b o e)
    have z : hp.objs.size + 1 + 1 ≤ dx := by
      have q := dn
      rw [Heap.size_push, Heap.size_push] at q
      exact q
    exact ⟨rfl, go h' tk' (hp.objs.size + 1) dx _ old (Nat.le_succ _) gx ⟨_, rfl⟩ (Nat.le_trans (Nat.le_trans (Nat.le_succ _) (Nat.le_succ _)) z) dne ns⟩
end
end K6X
namespace K6
open PySem PySem.Spec PyProof.Rows L2
theorem relO_given {v : V} {u : Value} (r : RelV v u) (f : Str) : RelO (List.lookup f [(("given" : Str), v)]) (if f = "given" then some u else none) := by
  by_cases hf : f = "given"
  · subst hf
    rw [if_pos rfl, show List.lookup ("given" : Str) [(("given" : Str), v)] = some v by simp [List.lookup]]
    exact r
  · have e : (f == ("given" : Str)) = false := by simpa using hf
    rw [if_neg hf, show List.lookup f [(("given" : Str), v)] = none by simp [List.lookup, e]]
    trivial
section
variable {X : Cx} {C i0 : Addr}
/-- what is asked of InvalidNumber(e) -/
def tMkNum (C : Addr) (ta : TA) : L2.St → Hp → XK → Prop := fun σ H Q => ta σ H fun vs H1 => ∃ v, vs = [v] ∧ ∀ d, H1 d = none → Q (.ref C) (some d) (upd H1 d (.xd [(("given" : Str), v)]))
theorem pmk_num {a : Expr} {ta : TA} {p pos : Pos} {k : Nat} (T : K6X.NumTxt X.K X.mg C i0) (hr : Room k X.A) (ha : PA X [a] ta) (hg : Gl X "InvalidNumber" := by rfl)
    (he : starEach (a :: []) X.env = (false, eval a X.env) :: starEach [] X.env := by rfl) (hpl : (backTo pos (starEach [] X.env)).any (·.1) = false := by rfl) :
    PMk X (.Call (.Name "InvalidNumber" p) [a] [] pos) (tMkNum C ta) := by
  intro pins s σ H Q I h
  refine wpAny_Call_Name_kw (ld_glob I hg T.named ?_)
  refine PySem.W.callWith_K (h₀ := X.base) I.ok.mod.kin T.keepC (thn (ha.run pos pins s σ H _ I h) fun us s1 hh => ?_) he hpl
  obtain ⟨vs, H1, I1, r1, v, rfl, q1⟩ := hh
  refine ⟨I1.kIn, ?_⟩
  obtain ⟨v', rfl, rv⟩ := Vals.one r1
  show wpAny _ _ (call (.ref C) [v']) _ _ _
  have lim := I1.nolimit
  obtain ⟨hp, g, dr, tk, os⟩ := s1
  refine wpAny_call (K6X.num_call T I1.kIn lim (by have := hr.dp; omega) fun h' tk' e d oe kp en ge ho dn de ns => ?_)
  show MkP X pins σ Q (.ref e) ⟨h', g, dr, tk', os⟩
  obtain ⟨t0, rfl⟩ := ho
  obtain ⟨G, g1, g2⟩ := restrict h' fun b => decide (b ≠ e)
  have gk : ∀ b, b ≠ e → G.get? b = h'.get? b := fun b hb => g1 b (decide_eq_true hb)
  have g0 : G.get? e = none := g2 e (by simp)
  have old : ∀ b o, hp.get? b = some o → G.get? b = some o := fun b o q => (gk b (Nat.ne_of_lt (Nat.lt_of_lt_of_le (Heap.lt_size q) en))).trans (kp b o q)
  have ob : ObjOk X.prog X.w (upd H1 d (.xd [(("given" : Str), v)])) G d (.xd [(("given" : Str), v)]) := ⟨_, ns.at (fun o q => (gk d de).trans q), fun f => relO_given rv f⟩
  have J : Inv X pins σ (upd H1 d (.xd [(("given" : Str), v)])) ⟨G, g, dr, tk', os⟩ := I1.laid (t' := tk') old dn ob
  refine ⟨e, _, _, ⟨G, g, dr, tk', os⟩, _, .ref C, some d, rfl, J, fun b o q => ?_, g0, ge, ⟨rfl, rfl⟩, rfl, rfl, ?_, rfl, I1.bare, raises_own T.isExc T.isCls, q1 d (I1.hok.fresh dn)⟩
  · by_cases hb : b = e
    · have q' : G.get? b = some o := q
      rw [hb, g0] at q'; cases q'
    · exact (gk b hb).symm.trans q
  · rw [upd_ne (Ne.symm de)]
    exact I1.hok.fresh en
/-- raise InvalidNumber(e) -/
theorem ps_raiseNum {a : Expr} {ta : TA} {W : WX} {p pos pos2 : Pos} {k : Nat} (hc : X.calm = true) (T : K6X.NumTxt X.K X.mg C i0) (hr : Room k X.A) (tk : Takes X W) (ha : PA X [a] ta) (hg : Gl X "InvalidNumber" := by rfl)
    (he : starEach (a :: []) X.env = (false, eval a X.env) :: starEach [] X.env := by rfl) (hpl : (backTo pos (starEach [] X.env)).any (·.1) = false := by rfl) :
    PS X (.Raise (some (.Call (.Name "InvalidNumber" p) [a] [] pos)) none pos2) (fun _ σ H => tMkNum C ta σ H fun cls d H' => W cls d σ H') := ps_raise hc tk (pmk_num T hr ha hg he hpl)
/-- error.given, within the suite of the error at a -/
def tGiven (C a : Addr) (cls : Value) (d : Option Addr) (te : TE) : TE := fun σ H Q => te σ H fun x H1 => x = .ref a ∧ cls = .ref C ∧ ∃ (dd : Addr) (v : V), d = some dd ∧ H1 dd = some (.xd [(("given" : Str), v)]) ∧ Q v H1
theorem pe_given {a : Addr} {oe : Obj} {cls : Value} {d : Option Addr} {pn : List (Addr × Obj)} {e : Expr} {te : TE} {pos : Pos} (T : K6X.NumTxt X.K X.mg C i0) (hz : Zc cls d oe) (hf : ∃ vs, oe.data = .fields vs) (he : PE (X.suite a ((a, oe) :: pn)) e te)
    (hb : attributeBase e "given" X.env (eval e X.env) = eval e X.env := by rfl) : PE (X.suite a ((a, oe) :: pn)) (.Attribute e "given" pos) (tGiven C a cls d te) := by
  refine ⟨fun pins s σ H Q I h => ?_⟩
  refine attr_of hb (thn (he.run pins s σ H _ I h) fun u s1 hh => ?_)
  obtain ⟨x, H1, I1, rx, rfl, rfl, dd, v, rfl, ea, q⟩ := hh
  obtain rfl : u = Value.ref a := rx
  obtain ⟨ga, _⟩ := I1.pin (a, oe) (List.mem_append_left _ List.mem_cons_self)
  obtain ⟨vs, hd⟩ := hf
  obtain ⟨mA, hns, rel⟩ := (show ObjOk X.prog X.w H1 s1.heap dd (.xd [(("given" : Str), v)]) from I1.hok dd _ ea)
  obtain ⟨od, ho, hl⟩ := lookIn_ns hns
  have l : List.lookup ("given" : Str) [(("given" : Str), v)] = some v := by simp [List.lookup]
  obtain ⟨u, hu, ru⟩ := RelO.some_of (v := v) (o := mA "given") (by rw [← l]; exact rel "given")
  have J : PySem.W.InstAt s1.heap a oe C (some od) := ⟨ga, hz.1, by unfold PySem.W.notCls; rw [hd] <;> rfl, by rw [hz.2]; exact ho⟩
  exact HandSPX.exc_get I1.kIn J T.reads T.reads2 T.isExc (PySem.W.findObj_own T.dict T.noGiven rfl (by rw [hl, hu])) (handed_of ru) ⟨v, H1, I1.tok _, ru, q⟩
end
end K6
namespace K6M
open PySem PySem.W PySem.Calls PyProof.Rows PySem.HandSPX PySem.Builtin PySem.Builtin.ObjectAttr
/-! ### TooMany(given), a class over OverflowError with an __init__ of its own -/
abbrev ieB : List Value := [.type "OverflowError", .type "ArithmeticError", .type "Exception", .type "BaseException", .type "object"]
def nuA (r1 r2 : Pos) : Arguments :=
  { posonlyargs := [], args := [{ arg := "self", annotation := none, pos := r1 }, { arg := "limit", annotation := none, pos := r2 }], vararg := none, kwonlyargs := [], kw_defaults := [], kwarg := none, defaults := [] }
def nuB (r1 r2 r3 r4 : Pos) : List Stmt := [.Assign [.Attribute (.Name "self" r1) "limit" r2] (.Name "limit" r3) r4]
def nuS : Scope :=
  { kind := .function, names := [(PySem.Str.ofString "self", .local), (PySem.Str.ofString "limit", .local)], isGenerator := false, isCoroutine := false, more := [] }
/-- what the written part says of the class at C and of its __init__ at i0 -/
structure NumTxt (K : Frag) (mg : Str → Option Value) (C i0 : Addr) : Prop where
  named : mg "TooMany" = some (.ref C)
  made : excInitIn K C ieB "OverflowError.__new__" = true
  over : excOver K C ieB = true
  dict : hasDictIn K C = true
  stores : findIn K (.ref C) "__setattr__" = some (some (.builtin "object.__setattr__"))
  reads : findIn K (.ref C) "__getattribute__" = some (some (.builtin "BaseException.__getattribute__"))
  reads2 : findIn K (.ref C) "__getattr__" = some none
  noGiven : findIn K (.ref C) "limit" = some none
  inits : findIn K (.ref C) "__init__" = some (some (.ref i0))
  isdef : typeIn K (.ref i0) = some (.type "function")
  keepC : keepIn K (.ref C) = true
  isExc : subIn K (.ref C) (.type "BaseException") = some true
  isCls : typeIn K (.ref C) = some (.type "type")
  self1 : exmOne K (.ref C) (.ref C) = some true
  text : ∃ (oc : Value) (od : Option Addr) (doc pm : Value) (an : Option Addr) (cdv ct : Value) (osl : Array (Option Value)) (r1 r2 r3 r4 r5 r6 : Pos),
    K.lookup i0 = some ⟨oc, od, .func (fnOf "__init__" "TooMany.__init__" (nuA r1 r2) (nuB r3 r4 r5 r6) nuS .none .none doc pm an cdv ct), osl⟩ ∧ codeIn K cdv "TooMany.__init__" = true
/-- the object of an exception that holds its arguments alone -/
abbrev bareX (C t : Addr) : Obj := { cls := .ref C, data := .fields #[.ref t, .none, .none, .none, .bool false, .none] }
abbrev withX (C t dx : Addr) : Obj := { cls := .ref C, dict := some dx, data := .fields #[.ref t, .none, .none, .none, .bool false, .none] }
theorem one_fits (v : Value) : [v].length ≤ sizeLine := by
  rw [sizeLine_eq]
  show 1 ≤ 16777216
  decide
section
variable {prog : Program} {w : World} {A : Around} {E : Value → Shared → Prop} {R : Result → Shared → Prop} {K : Frag} {mg : Str → Option Value} {C i0 : Addr}
/-- object.__setattr__ on such an object that has no dict yet -/
theorem num_store {hp : Heap} {g : Array GenState} {d : Drawn} {t : Nat} {os : OsState} {name : Str} {tk : Tok} {v : Value} {x t0 : Addr} (X : K.In hp) (gx : hp.get? x = some (bareX C t0)) (ov : excOver K C ieB = true) (hh : hasDictIn K C = true)
    (nn : findIn K (.ref C) name = some none)
    (go : ∀ h' tk' dx, (∀ b o, b ≠ x → hp.get? b = some o → h'.get? b = some o) → hp.objs.size ≤ dx → dx ≠ x → h'.get? x = some (withX C t0 dx) → h'.Ns1 dx (fun y => if y = name then some v else none) → R (.ok (.ret .none)) ⟨h', g, d, tk', os⟩) :
    codeAny (model prog w) A (.call (.builtin "object.__setattr__") ⟨[.ref x, .str name tk, v], []⟩) R ⟨hp, g, d, t, os⟩ := by
  refine osa_openX (s := ⟨hp, g, d, t, os⟩) (ox := bareX C t0) (od := none) PySem.F.store_OverflowError X ⟨gx, rfl, rfl, trivial⟩ ov (L2.NoAttr.taker nn) fun b => ?_
  obtain ⟨cd, hc, hd'⟩ := any_some hh
  have nx : x ≠ hp.objs.size := Nat.ne_of_lt (Heap.lt_size gx)
  refine wpAny_bind (wpAny_pure (wpAny_bind (instanceDict_exc (s := ⟨hp, g, d, t, os⟩) (c2 := .none) (t := t0) gx (looks_clsIn X hc) hd' ?_)))
  show wpAny _ _ (storeInDict hp.objs.size (.str name tk) name v) _ _ _
  refine store_in_new (hp := (hp.push (dictOf [] 0)).update x fun o => { o with dict := some hp.objs.size }) ?_ fun h' tk' hn' hs => ?_
  · exact ⟨_, #[], _, (Heap.get?_update_ne _ _ _ _ nx.symm).trans (Heap.get?_push_at rfl rfl), rfl, fun e he => absurd he (by simp), fun _ => rfl⟩
  · have gx1 : (hp.push (dictOf [] 0)).get? x = some (bareX C t0) := Heap.get?_push_of_some _ gx
    refine go h' tk' hp.objs.size (fun b o hb ho => ?_) (Nat.le_refl _) nx.symm ?_ hn'
    · exact (hs.2 b (Nat.ne_of_lt (Heap.lt_size ho))).trans ((Heap.get?_update_ne _ _ _ _ hb).trans (Heap.get?_push_of_some _ ho))
    · exact (hs.2 x nx).trans (Heap.get?_update_self _ gx1 rfl)
theorem localC {M : Model} {s : Shared} {name : Str} {scope : Scope} {L a : Addr} {cd : Value} {m : Str → Option Value} {x : Str} {pos : Pos} {v : Value} {Q : Value → Shared → Prop} (ns : s.heap.Ns L m) (e : m x = some v) (q : Q v s)
    (k1 : scope.kind = .function := by rfl) (k2 : (envOfC name scope L a cd).kindOf x = some .local := by rfl) (k3 : (x == ("__debug__" : Str)) = false := by decide) :
    wpAny M A (eval (.Name x pos) (envOfC name scope L a cd)) Q E s :=
  wpAny_Name (wpAny_loadName_local k1 k2 ns e q) k3
/-- __init__ on a fresh object at x -/
theorem num_init {s : Shared} (T : NumTxt K mg C i0) {x t0 : Addr} {v : Value} (X : K.In s.heap) (lim : s.heap.NoLimit) (gx : s.heap.get? x = some (bareX C t0)) (room : A.depth < recursionLimit)
    (go : ∀ h' tk dx, (∀ b o, b ≠ x → s.heap.get? b = some o → h'.get? b = some o) → h'.get? x = some (withX C t0 dx) → s.heap.objs.size ≤ dx → dx ≠ x → h'.Ns1 dx (fun y => if y = "limit" then some v else none) →
      R (.ok (.ret .none)) { s with heap := h', toks := tk }) :
    codeAny (model prog w) A (.call (.ref i0) ⟨[.ref x, v], []⟩) R s := by
  obtain ⟨oc, od, doc, pm, an, cdv, ct, osl, r1, r2, r3, r4, r5, r6, lk, cdk⟩ := T.text
  refine Att.call_fn (binds := [("self", .ref x), ("limit", v)]) X lim lk cdk room (BindsTo.of_eq (by first | rfl | with_unfolding_all rfl)) (by first | rfl | decide | with_unfolding_all rfl) (fun s1 IC => ?_) rfl rfl rfl
  obtain ⟨h1, tk1, rfl⟩ := IC.toInCall.same
  have kp : ∀ b o, s.heap.get? b = some o → h1.get? b = some o := IC.toInCall.keep
  have ns := IC.toInCall.ns
  have X1 : K.In h1 := X.keeps kp
  have gx1 := kp _ _ gx
  show wpAny _ _ (execs _ _) _ _ _
  refine wpAny_execs_cons (plainObj_wpAny_Assign_Attribute ?_)
  refine localC (v := v) ns (by first | rfl | with_unfolding_all rfl | kernel_rfl) (localC (v := .ref x) ns (by first | rfl | with_unfolding_all rfl | kernel_rfl) ?_)
  refine set_plain X1 (ox := bareX C t0) (od := none) ⟨gx1, rfl, rfl, trivial⟩ T.stores ?_
  refine num_store X1 gx1 T.over T.dict T.noGiven (fun h3 tk3 dx k3 dn dne gx3 ns3 => ?_)
  show wpAny _ _ (execs _ _) _ _ _
  have z : s.heap.objs.size < h1.objs.size := ns.lt
  exact wpAny_execs_nil (go h3 tk3 dx (fun b o hb e => k3 b o hb (kp b o e)) gx3 (Nat.le_of_lt (Nat.lt_of_lt_of_le z dn)) dne ns3)
/-- TooMany(v) -/
theorem num_call {s : Shared} (T : NumTxt K mg C i0) {v : Value} (X : K.In s.heap) (lim : s.heap.NoLimit) (room : A.depth + 1 < recursionLimit)
    (go : ∀ h' tk e d oe, (∀ b o, s.heap.get? b = some o → h'.get? b = some o) → s.heap.objs.size ≤ e → h'.get? e = some oe → (∃ t0, oe = withX C t0 d) → s.heap.objs.size ≤ d → d ≠ e →
      h'.Ns1 d (fun y => if y = "limit" then some v else none) → R (.ok (.ret (.ref e))) { s with heap := h', toks := tk }) :
    codeAny (model prog w) A (.call (.ref C) ⟨[v], []⟩) R s := by
  obtain ⟨nm, N', qn, bs, bm, hdct, sn, sub, ab, col, dd, k0, k1, k2, k3, k5, hC, hT⟩ := excInit_of X T.made
  obtain ⟨hp, g, dr, tk, os⟩ := s
  have kp : ∀ b o, hp.get? b = some o → ((hp.push (kdv_tup [v])).push (excO C hp.objs.size)).get? b = some o := fun b o e => Heap.get?_push_of_some _ (Heap.get?_push_of_some _ e)
  have get1 : ((hp.push (kdv_tup [v])).push (excO C hp.objs.size)).get? (hp.objs.size + 1) = some (bareX C hp.objs.size) := by heap_get
  refine call_own F.excBase_OverflowError hT hC (looks_findIn X T.inits) (fun self => bind_fn X self T.isdef) (one_fits v) ?_
  refine num_init (s := ⟨(hp.push (kdv_tup [v])).push (excO C hp.objs.size), g, dr, tk, os⟩) T (X.keeps kp) (lim.keeps kp) get1 ?_ fun h' tk' dx k' gx dn dne ns => ?_
  · show A.depth + 1 < recursionLimit
    exact room
  · have old : ∀ b o, hp.get? b = some o → h'.get? b = some o := fun b o e => k' b o (Nat.ne_of_lt (Nat.lt_succ_of_lt (Heap.lt_size e))) (kp b o e)
    have z : hp.objs.size + 1 + 1 ≤ dx := by
      have q := dn
      rw [Heap.size_push, Heap.size_push] at q
      exact q
    exact ⟨rfl, go h' tk' (hp.objs.size + 1) dx _ old (Nat.le_succ _) gx ⟨_, rfl⟩ (Nat.le_trans (Nat.le_trans (Nat.le_succ _) (Nat.le_succ _)) z) dne ns⟩
end
end K6M
namespace K6
open PySem PySem.Spec PyProof.Rows L2
theorem relO_limit {v : V} {u : Value} (r : RelV v u) (f : Str) : RelO (List.lookup f [(("limit" : Str), v)]) (if f = "limit" then some u else none) := by
  by_cases hf : f = "limit"
  · subst hf
    rw [if_pos rfl, show List.lookup ("limit" : Str) [(("limit" : Str), v)] = some v by simp [List.lookup]]
    exact r
  · have e : (f == ("limit" : Str)) = false := by simpa using hf
    rw [if_neg hf, show List.lookup f [(("limit" : Str), v)] = none by simp [List.lookup, e]]
    trivial
section
variable {X : Cx} {C i0 : Addr}
/-- what is asked of TooMany(e) -/
def tMkMany (C : Addr) (ta : TA) : L2.St → Hp → XK → Prop := fun σ H Q => ta σ H fun vs H1 => ∃ v, vs = [v] ∧ ∀ d, H1 d = none → Q (.ref C) (some d) (upd H1 d (.xd [(("limit" : Str), v)]))
theorem pmk_many {a : Expr} {ta : TA} {p pos : Pos} {k : Nat} (T : K6M.NumTxt X.K X.mg C i0) (hr : Room k X.A) (ha : PA X [a] ta) (hg : Gl X "TooMany" := by rfl)
    (he : starEach (a :: []) X.env = (false, eval a X.env) :: starEach [] X.env := by rfl) (hpl : (backTo pos (starEach [] X.env)).any (·.1) = false := by rfl) :
    PMk X (.Call (.Name "TooMany" p) [a] [] pos) (tMkMany C ta) := by
  intro pins s σ H Q I h
  refine wpAny_Call_Name_kw (ld_glob I hg T.named ?_)
  refine PySem.W.callWith_K (h₀ := X.base) I.ok.mod.kin T.keepC (thn (ha.run pos pins s σ H _ I h) fun us s1 hh => ?_) he hpl
  obtain ⟨vs, H1, I1, r1, v, rfl, q1⟩ := hh
  refine ⟨I1.kIn, ?_⟩
  obtain ⟨v', rfl, rv⟩ := Vals.one r1
  show wpAny _ _ (call (.ref C) [v']) _ _ _
  have lim := I1.nolimit
  obtain ⟨hp, g, dr, tk, os⟩ := s1
  refine wpAny_call (K6M.num_call T I1.kIn lim (by have := hr.dp; omega) fun h' tk' e d oe kp en ge ho dn de ns => ?_)
  show MkP X pins σ Q (.ref e) ⟨h', g, dr, tk', os⟩
  obtain ⟨t0, rfl⟩ := ho
  obtain ⟨G, g1, g2⟩ := restrict h' fun b => decide (b ≠ e)
  have gk : ∀ b, b ≠ e → G.get? b = h'.get? b := fun b hb => g1 b (decide_eq_true hb)
  have g0 : G.get? e = none := g2 e (by simp)
  have old : ∀ b o, hp.get? b = some o → G.get? b = some o := fun b o q => (gk b (Nat.ne_of_lt (Nat.lt_of_lt_of_le (Heap.lt_size q) en))).trans (kp b o q)
  have ob : ObjOk X.prog X.w (upd H1 d (.xd [(("limit" : Str), v)])) G d (.xd [(("limit" : Str), v)]) := ⟨_, ns.at (fun o q => (gk d de).trans q), fun f => relO_limit rv f⟩
  have J : Inv X pins σ (upd H1 d (.xd [(("limit" : Str), v)])) ⟨G, g, dr, tk', os⟩ := I1.laid (t' := tk') old dn ob
  refine ⟨e, _, _, ⟨G, g, dr, tk', os⟩, _, .ref C, some d, rfl, J, fun b o q => ?_, g0, ge, ⟨rfl, rfl⟩, rfl, rfl, ?_, rfl, I1.bare, raises_own T.isExc T.isCls, q1 d (I1.hok.fresh dn)⟩
  · by_cases hb : b = e
    · have q' : G.get? b = some o := q
      rw [hb, g0] at q'; cases q'
    · exact (gk b hb).symm.trans q
  · rw [upd_ne (Ne.symm de)]
    exact I1.hok.fresh en
/-- raise TooMany(e) -/
theorem ps_raiseMany {a : Expr} {ta : TA} {W : WX} {p pos pos2 : Pos} {k : Nat} (hc : X.calm = true) (T : K6M.NumTxt X.K X.mg C i0) (hr : Room k X.A) (tk : Takes X W) (ha : PA X [a] ta) (hg : Gl X "TooMany" := by rfl)
    (he : starEach (a :: []) X.env = (false, eval a X.env) :: starEach [] X.env := by rfl) (hpl : (backTo pos (starEach [] X.env)).any (·.1) = false := by rfl) :
    PS X (.Raise (some (.Call (.Name "TooMany" p) [a] [] pos)) none pos2) (fun _ σ H => tMkMany C ta σ H fun cls d H' => W cls d σ H') := ps_raise hc tk (pmk_many T hr ha hg he hpl)
/-- error.limit, within the suite of the error at a -/
def tLimit (C a : Addr) (cls : Value) (d : Option Addr) (te : TE) : TE := fun σ H Q => te σ H fun x H1 => x = .ref a ∧ cls = .ref C ∧ ∃ (dd : Addr) (v : V), d = some dd ∧ H1 dd = some (.xd [(("limit" : Str), v)]) ∧ Q v H1
theorem pe_limit {a : Addr} {oe : Obj} {cls : Value} {d : Option Addr} {pn : List (Addr × Obj)} {e : Expr} {te : TE} {pos : Pos} (T : K6M.NumTxt X.K X.mg C i0) (hz : Zc cls d oe) (hf : ∃ vs, oe.data = .fields vs) (he : PE (X.suite a ((a, oe) :: pn)) e te)
    (hb : attributeBase e "limit" X.env (eval e X.env) = eval e X.env := by rfl) : PE (X.suite a ((a, oe) :: pn)) (.Attribute e "limit" pos) (tLimit C a cls d te) := by
  refine ⟨fun pins s σ H Q I h => ?_⟩
  refine attr_of hb (thn (he.run pins s σ H _ I h) fun u s1 hh => ?_)
  obtain ⟨x, H1, I1, rx, rfl, rfl, dd, v, rfl, ea, q⟩ := hh
  obtain rfl : u = Value.ref a := rx
  obtain ⟨ga, _⟩ := I1.pin (a, oe) (List.mem_append_left _ List.mem_cons_self)
  obtain ⟨vs, hd⟩ := hf
  obtain ⟨mA, hns, rel⟩ := (show ObjOk X.prog X.w H1 s1.heap dd (.xd [(("limit" : Str), v)]) from I1.hok dd _ ea)
  obtain ⟨od, ho, hl⟩ := lookIn_ns hns
  have l : List.lookup ("limit" : Str) [(("limit" : Str), v)] = some v := by simp [List.lookup]
  obtain ⟨u, hu, ru⟩ := RelO.some_of (v := v) (o := mA "limit") (by rw [← l]; exact rel "limit")
  have J : PySem.W.InstAt s1.heap a oe C (some od) := ⟨ga, hz.1, by unfold PySem.W.notCls; rw [hd] <;> rfl, by rw [hz.2]; exact ho⟩
  exact HandSPX.exc_get I1.kIn J T.reads T.reads2 T.isExc (PySem.W.findObj_own T.dict T.noGiven rfl (by rw [hl, hu])) (handed_of ru) ⟨v, H1, I1.tok _, ru, q⟩
end
end K6
namespace K6
open PySem PySem.Spec PyProof.Rows L2 RZ
/-- a class of errors without anything of its own -/
structure ErrTxt (K : PySem.W.Frag) (mg : Str → Option Value) (x : Str) (C : Addr) : Prop where
  named : mg x = some (.ref C)
  made : PySem.W.excIn K C PySem.HandSPX.veTail "ValueError.__new__" = true
  keepC : PySem.W.keepIn K (.ref C) = true
  isExc : PySem.W.subIn K (.ref C) (.type "BaseException") = some true
  isCls : PySem.W.typeIn K (.ref C) = some (.type "type")
/-- the error that keeps a number -/
def NumE (E : XK) (N : Addr) (x : V) (H : Hp) : Prop := ∀ H' d, Same H H' → H' d = none → E (.ref N) (some d) (upd H' d (.xd [(("given" : Str), x)]))
def NilE (E : XK) (C : Addr) (H : Hp) : Prop := ∀ H', Same H H' → E (.ref C) none H'
theorem NumE.mono {E : XK} {N : Addr} {x : V} {H H1 : Hp} (h : NumE E N x H) (s : Same H H1) : NumE E N x H1 := fun H' d s' => h H' d (s.trans s')
theorem NilE.mono {E : XK} {C : Addr} {H H1 : Hp} (h : NilE E C H) (s : Same H H1) : NilE E C H1 := fun H' s' => h H' (s.trans s')
theorem LetIs.mono {K : PySem.W.Frag} {H H' : Hp} {x : V} {b : Bool} (h : LetIs K H x b) (s : Same H H') : LetIs K H' x b := by
  cases h with
  | non => exact .non
  | bl b => exact .bl b
  | int i => exact .int i
  | str z => exact .str z
  | lst h => exact .lst (s _ _ h)
  | dic h => exact .dic (s _ _ h)
  | long h n => exact .long (tupSame s h) n
  | tup h n v => exact .tup (tupSame s h) n fun y hy => (v y hy).mono s
def spChkLE (K : PySem.W.Frag) (C : Addr) : Sp := fun vs H Q E => ∃ (x : V) (b : Bool), vs = [x] ∧ LetIs K H x b ∧ (b = false → NilE E C H) ∧ (b = true → ∀ H', Same H H' → Q .non H')
def spChkBE (K : PySem.W.Frag) (N : Addr) : Sp := fun vs H Q E => ∃ (x : V) (a b : Int), vs = [x, .int a, .int b] ∧ Vk K H x ∧ (betw x a b = false → NumE E N x H) ∧ (betw x a b = true → Q .non H)
/-- letters and a degree, one of them wrong -/
def spBadLD (K : PySem.W.Frag) (C N : Addr) : Sp := fun vs H _ E => ∃ (x y : V) (b : Bool), vs = [x, y] ∧ LetIs K H x b ∧ Vk K H y ∧ (b = false → NilE E C H) ∧ (b = true → betw y 0 80 = false ∧ NumE E N y H)
/-- letters that are none -/
def spBadL (K : PySem.W.Frag) (C : Addr) : Sp := fun vs H _ E => ∃ x : V, vs = [x] ∧ LetIs K H x false ∧ NilE E C H
section
variable {P : Program} {w : World} {K : PySem.W.Frag} {mg : Str → Option Value} {base : Heap} {C N i0 fB fL : Addr} {dB dL : FuncData}
theorem ok_chklE {f : Addr} {fd : FuncData} (F : Fun K "check_letters" "check_letters" sChkL f fd) (ER : ErrTxt K mg "InvalidLetters" C) (gB : mg "is_letters" = some (.ref fB)) (kB : PySem.W.keepIn K (.ref fB) = true) (bB : Binds K dB ["value"] [])
    (B : FnOk P w K mg base CX0 4 fB dB ["value"] (spIsLet K)) : FnOk P w K mg base (L2.CX P w) 5 f fd ["letters"] (spChkLE K C) := by
  refine F.okX scChkL (fun vs H Q E h => ?_) (fun cdv A outer s H vs Q E hr h => ?_)
  · obtain ⟨x, b, rfl, _⟩ := h; rfl
  obtain ⟨x, b, rfl, hx, k0, k1⟩ := h
  refine ⟨_, pss_one (ps_if (pt_not (pt_val (pe_call B hr (by rfl) gB kB bB .nil pass0 (pa_cons (pv 0) pa_nil))))
      (pss_one (ps_raise (W := fun cls d _ H => E cls d H) rfl (takes_of rfl rfl rfl rfl) (pmk_own PySem.F.excBase_ValueError ER.made ER.named ER.keepC (raises_own ER.isExc ER.isCls) (by rfl)))) pss_nil), ?_⟩
  refine ⟨_, rfl, x, b, rfl, hx, fun H' s' => ⟨_, rfl, ?_⟩⟩
  cases b with
  | false => exact iteT (k0 rfl H' s')
  | true => exact iteF (k1 rfl H' s')
theorem ok_chkbE {f : Addr} {fd : FuncData} (F : Fun K "check_between" "check_between" sChkB f fd) (EN : K6X.NumTxt K mg N i0) (gB : mg "is_between" = some (.ref fB)) (kB : PySem.W.keepIn K (.ref fB) = true) (bB : Binds K dB ["value", "least", "most"] [])
    (B : FnOk P w K mg base CX0 3 fB dB ["value", "least", "most"] (spBetw K)) : FnOk P w K mg base (L2.CX P w) 4 f fd ["value", "least", "most"] (spChkBE K N) := by
  refine F.okX scChkB (fun vs H Q E h => ?_) (fun cdv A outer s H vs Q E hr h => ?_)
  · obtain ⟨x, a, b, rfl, _⟩ := h; rfl
  obtain ⟨x, a, b, rfl, hx, k0, k1⟩ := h
  refine ⟨_, pss_one (ps_if (pt_not (pt_val (pe_call B hr (by rfl) gB kB bB .nil pass0 (pa_cons (pv 0) (pa_cons (pv 1) (pa_cons (pv 2) pa_nil))))))
      (pss_one (ps_raiseNum (W := fun cls d _ H => E cls d H) rfl EN hr (takes_of rfl rfl rfl rfl) (by exact (pa_cons (pv 0) pa_nil)))) pss_nil), ?_⟩
  refine ⟨_, rfl, _, rfl, _, rfl, x, a, b, rfl, hx, _, rfl, ?_⟩
  cases e : betw x a b with
  | false => exact iteT ⟨_, rfl, _, rfl, fun d hd => k0 e H d (Same.refl _) hd⟩
  | true => exact iteF (k1 e)
theorem ok_evenlBad {f : Addr} {fd : FuncData} (F : Fun K "even_letters" "even_letters" sEvenL f fd) (gL : mg "check_letters" = some (.ref fL)) (kL : PySem.W.keepIn K (.ref fL) = true) (bL : Binds K dL ["letters"] [])
    (FL : FnOk P w K mg base (L2.CX P w) 5 fL dL ["letters"] (spChkLE K C)) : FnOk P w K mg base (L2.CX P w) 6 f fd ["letters"] (spBadL K C) := by
  refine F.okX scEvenL (fun vs H Q E h => ?_) (fun cdv A outer s H vs Q E hr h => ?_)
  · obtain ⟨x, rfl, _⟩ := h; rfl
  obtain ⟨x, rfl, hx, k0⟩ := h
  refine ⟨_, pss_cons (ps_expr (pe_call FL hr (by rfl) gL kL bL .nil (passes_call (E := E) (takes_of rfl rfl rfl rfl) (fun _ _ _ _ h => h)) (pa_cons (pv 0) pa_nil))) pss_never, ?_⟩
  exact ⟨_, rfl, x, false, rfl, hx, fun _ => k0, fun z => nomatch z⟩
theorem ok_oddlBad {f : Addr} {fd : FuncData} (F : Fun K "odd_letters" "odd_letters" sOddL f fd) (gL : mg "check_letters" = some (.ref fL)) (kL : PySem.W.keepIn K (.ref fL) = true) (bL : Binds K dL ["letters"] [])
    (FL : FnOk P w K mg base (L2.CX P w) 5 fL dL ["letters"] (spChkLE K C)) : FnOk P w K mg base (L2.CX P w) 6 f fd ["letters"] (spBadL K C) := by
  refine F.okX scOddL (fun vs H Q E h => ?_) (fun cdv A outer s H vs Q E hr h => ?_)
  · obtain ⟨x, rfl, _⟩ := h; rfl
  obtain ⟨x, rfl, hx, k0⟩ := h
  refine ⟨_, pss_cons (ps_expr (pe_call FL hr (by rfl) gL kL bL .nil (passes_call (E := E) (takes_of rfl rfl rfl rfl) (fun _ _ _ _ h => h)) (pa_cons (pv 0) pa_nil))) pss_never, ?_⟩
  exact ⟨_, rfl, x, false, rfl, hx, fun _ => k0, fun z => nomatch z⟩
theorem ok_topwBad {f : Addr} {fd : FuncData} (F : Fun K "top_word" "top_word" sTopW f fd) (gL : mg "check_letters" = some (.ref fL)) (kL : PySem.W.keepIn K (.ref fL) = true) (bL : Binds K dL ["letters"] [])
    (FL : FnOk P w K mg base (L2.CX P w) 5 fL dL ["letters"] (spChkLE K C)) : FnOk P w K mg base (L2.CX P w) 6 f fd ["letters"] (spBadL K C) := by
  refine F.okX scTopW (fun vs H Q E h => ?_) (fun cdv A outer s H vs Q E hr h => ?_)
  · obtain ⟨x, rfl, _⟩ := h; rfl
  obtain ⟨x, rfl, hx, k0⟩ := h
  refine ⟨_, pss_cons (ps_expr (pe_call FL hr (by rfl) gL kL bL .nil (passes_call (E := E) (takes_of rfl rfl rfl rfl) (fun _ _ _ _ h => h)) (pa_cons (pv 0) pa_nil))) pss_never, ?_⟩
  exact ⟨_, rfl, x, false, rfl, hx, fun _ => k0, fun z => nomatch z⟩
theorem ok_wordsBad {f : Addr} {fd : FuncData} (F : Fun K "words_of" "words_of" sWordsOf f fd) (T : Txt K mg) (gL : mg "check_letters" = some (.ref fL)) (kL : PySem.W.keepIn K (.ref fL) = true) (bL : Binds K dL ["letters"] [])
    (FL : FnOk P w K mg base (L2.CX P w) 5 fL dL ["letters"] (spChkLE K C)) (gB : mg "check_between" = some (.ref fB)) (kB : PySem.W.keepIn K (.ref fB) = true) (bB : Binds K dB ["value", "least", "most"] [])
    (FB : FnOk P w K mg base (L2.CX P w) 4 fB dB ["value", "least", "most"] (spChkBE K N)) : FnOk P w K mg base (L2.CX P w) 6 f fd ["letters", "degree"] (spBadLD K C N) := by
  refine F.okX scWords (fun vs H Q E h => ?_) (fun cdv A outer s H vs Q E hr h => ?_)
  · obtain ⟨x, y, b, rfl, _⟩ := h; rfl
  obtain ⟨x, y, b, rfl, hx, hy, k0, k1⟩ := h
  obtain ⟨t1, m1⟩ := T.cMAXDEGREE
  refine ⟨_, pss_cons (ps_expr (pe_call FL hr (by rfl) gL kL bL .nil (passes_call (E := E) (takes_of rfl rfl rfl rfl) (fun _ _ _ _ h => h)) (pa_cons (pv 0) pa_nil)))
    (pss_cons (ps_expr (pe_call (FB.mono (by decide)) hr (by rfl) gB kB bB .nil (passes_call (E := E) (takes_of rfl rfl rfl rfl) (fun _ _ _ _ h => h)) (pa_cons (pv 1) (pa_cons pe_int (pa_cons (pe_glob (v := .int 80) (by rfl) m1 ⟨_, rfl⟩) pa_nil))))) pss_never), ?_⟩
  refine ⟨_, rfl, x, b, rfl, hx, k0, fun e H' s' => ⟨_, rfl, y, 0, 80, rfl, hy.mono s', fun _ => (k1 e).2.mono s', fun z => ?_⟩⟩
  rw [(k1 e).1] at z
  cases z
theorem ok_wcountBad {f : Addr} {fd : FuncData} (F : Fun K "word_count" "word_count" sWordCount f fd) (T : Txt K mg) (gL : mg "check_letters" = some (.ref fL)) (kL : PySem.W.keepIn K (.ref fL) = true) (bL : Binds K dL ["letters"] [])
    (FL : FnOk P w K mg base (L2.CX P w) 5 fL dL ["letters"] (spChkLE K C)) (gB : mg "check_between" = some (.ref fB)) (kB : PySem.W.keepIn K (.ref fB) = true) (bB : Binds K dB ["value", "least", "most"] [])
    (FB : FnOk P w K mg base (L2.CX P w) 4 fB dB ["value", "least", "most"] (spChkBE K N)) : FnOk P w K mg base (L2.CX P w) 6 f fd ["letters", "degree"] (spBadLD K C N) := by
  refine F.okX scWCount (fun vs H Q E h => ?_) (fun cdv A outer s H vs Q E hr h => ?_)
  · obtain ⟨x, y, b, rfl, _⟩ := h; rfl
  obtain ⟨x, y, b, rfl, hx, hy, k0, k1⟩ := h
  obtain ⟨t1, m1⟩ := T.cMAXDEGREE
  refine ⟨_, pss_cons (ps_expr (pe_call FL hr (by rfl) gL kL bL .nil (passes_call (E := E) (takes_of rfl rfl rfl rfl) (fun _ _ _ _ h => h)) (pa_cons (pv 0) pa_nil)))
    (pss_cons (ps_expr (pe_call (FB.mono (by decide)) hr (by rfl) gB kB bB .nil (passes_call (E := E) (takes_of rfl rfl rfl rfl) (fun _ _ _ _ h => h)) (pa_cons (pv 1) (pa_cons pe_int (pa_cons (pe_glob (v := .int 80) (by rfl) m1 ⟨_, rfl⟩) pa_nil))))) pss_never), ?_⟩
  refine ⟨_, rfl, x, b, rfl, hx, k0, fun e H' s' => ⟨_, rfl, y, 0, 80, rfl, hy.mono s', fun _ => (k1 e).2.mono s', fun z => ?_⟩⟩
  rw [(k1 e).1] at z
  cases z
end
end K6
namespace K6
open PySem PySem.Spec PyProof.Rows L2 RZ
def spEachBad (K : PySem.W.Frag) (C N : Addr) : SpG := fun vs H _ E => ∃ (x y : V) (b : Bool), vs = [x, y] ∧ LetIs K H x b ∧ Vk K H y ∧ (b = false → NilE E C H) ∧ (b = true → betw y 0 80 = false ∧ NumE E N y H)
section
variable {P : Program} {w : World} {K : PySem.W.Frag} {mg : Str → Option Value} {base : Heap} {C N i0 fB fL : Addr} {dB dL : FuncData}
theorem ok_eachBad {f : Addr} {fd : FuncData} (F : Fun K "each_word" "each_word" sEach f fd) (T : Txt K mg) (gL : mg "check_letters" = some (.ref fL)) (kL : PySem.W.keepIn K (.ref fL) = true) (bL : Binds K dL ["letters"] [])
    (FL : FnOk P w K mg base (L2.CX P w) 5 fL dL ["letters"] (spChkLE K C)) (gB : mg "check_between" = some (.ref fB)) (kB : PySem.W.keepIn K (.ref fB) = true) (bB : Binds K dB ["value", "least", "most"] [])
    (FB : FnOk P w K mg base (L2.CX P w) 4 fB dB ["value", "least", "most"] (spChkBE K N)) : GFn P w K mg base 6 f fd ["letters", "most"] (spEachBad K C N) := by
  obtain ⟨oc, od, kV, doc, pm, an, cdv, ct, osl, rfl, lk, hcd⟩ := F.ex
  refine gfn_of lk hcd scEach (fun vs H Q E h => ?_) fun A outer s H vs Q E pn hr h => ?_
  · obtain ⟨x, y, b, rfl, _⟩ := h; rfl
  obtain ⟨x, y, b, rfl, hx, hy, k0, k1⟩ := h
  obtain ⟨t1, m1⟩ := T.cMAXDEGREE
  refine ⟨_, gss_cons (gs_ps (ps_expr (pe_call FL hr (by rfl) gL kL bL .nil (passes_call (E := E) takes_gcx (fun _ _ _ _ h => h)) (pa_cons (pv 0) pa_nil))))
    (gss_cons (gs_ps (ps_expr (pe_call (FB.mono (by decide)) hr (by rfl) gB kB bB .nil (passes_call (E := E) takes_gcx (fun _ _ _ _ h => h)) (pa_cons (pv 1) (pa_cons pe_int (pa_cons (pe_glob (v := .int 80) (by rfl) m1 ⟨_, rfl⟩) pa_nil))))))
    (gss_pss pss_never)), ?_⟩
  refine ⟨_, rfl, x, b, rfl, hx, k0, fun e H' s' => ⟨_, rfl, y, 0, 80, rfl, hy.mono s', fun _ => (k1 e).2.mono s', fun z => ?_⟩⟩
  rw [(k1 e).1] at z
  cases z
end
end K6
namespace K6
open PySem PySem.Spec PyProof.Rows L2 RZ
def ManyE (E : XK) (M : Addr) (k : Int) (H : Hp) : Prop := ∀ H' d, Same H H' → H' d = none → E (.ref M) (some d) (upd H' d (.xd [(("limit" : Str), .int k)]))
/-- right letters and a right degree with too many words -/
def spMany (K : PySem.W.Frag) (M : Addr) : Sp := fun vs H _ E => ∃ (a : Addr) (L : List Int) (d : Nat), vs = [.ref a, .int (d : Int)] ∧ SqT K H a (iV L) ∧ Lt L ∧ d ≤ 80 ∧ 400 < cnt L d ∧ ManyE E M 400 H
section
variable {P : Program} {w : World} {K : PySem.W.Frag} {mg : Str → Option Value} {base : Heap} {C N M i0 fB fL fC : Addr} {dB dL dC : FuncData}
theorem ok_wordsMany {f : Addr} {fd : FuncData} (F : Fun K "words_of" "words_of" sWordsOf f fd) (T : Txt K mg) (EM : K6M.NumTxt K mg M i0) (gL : mg "check_letters" = some (.ref fL)) (kL : PySem.W.keepIn K (.ref fL) = true) (bL : Binds K dL ["letters"] [])
    (FL : FnOk P w K mg base CX0 5 fL dL ["letters"] (spChkL K)) (gB : mg "check_between" = some (.ref fB)) (kB : PySem.W.keepIn K (.ref fB) = true) (bB : Binds K dB ["value", "least", "most"] [])
    (FB : FnOk P w K mg base CX0 4 fB dB ["value", "least", "most"] (spChkB K)) (gC : mg "count_words" = some (.ref fC)) (kC : PySem.W.keepIn K (.ref fC) = true) (bC : Binds K dC ["letters", "degree"] [])
    (FC : FnOk P w K mg base CX0 3 fC dC ["letters", "degree"] (spCount K)) : FnOk P w K mg base (L2.CX P w) 6 f fd ["letters", "degree"] (spMany K M) := by
  refine F.okX scWords (fun vs H Q E h => ?_) (fun cdv A outer s H vs Q E hr h => ?_)
  · obtain ⟨a, L, d, rfl, _⟩ := h; rfl
  obtain ⟨a, L, d, rfl, ha, hL, hd, hcn, k⟩ := h
  obtain ⟨t1, m1⟩ := T.cMAXDEGREE
  obtain ⟨t2, m2⟩ := T.cMAXWORDS
  refine ⟨_, pss_cons (ps_expr (pe_call FL hr (by rfl) gL kL bL .nil pass0 (pa_cons (pv 0) pa_nil)))
    (pss_cons (ps_expr (pe_call (FB.mono (by decide)) hr (by rfl) gB kB bB .nil pass0 (pa_cons (pv 1) (pa_cons pe_int (pa_cons (pe_glob (v := .int 80) (by rfl) m1 ⟨_, rfl⟩) pa_nil)))))
    (pss_cons (ps_if (pt_cmpR op_gt (pe_call (FC.mono (by decide)) hr (by rfl) gC kC bC .nil pass0 (pa_cons (pv 0) (pa_cons (pv 1) pa_nil))) (pe_glob (v := .int 400) (by rfl) m2 ⟨_, rfl⟩) (nomark _))
      (pss_one (ps_raiseMany (W := fun cls d _ H => E cls d H) rfl EM hr (takes_of rfl rfl rfl rfl) (by exact (pa_cons (pe_glob (v := .int 400) (by rfl) m2 ⟨_, rfl⟩) pa_nil)))) pss_nil) pss_never)), ?_⟩
  refine ⟨_, rfl, a, L, rfl, ha, hL, fun H0 s0 => ⟨_, rfl, _, _, _, rfl, by omega, by omega, by omega, by omega, _, rfl, _, rfl, a, L, d, rfl, tupSame s0 ha, hL, hd, fun H1 s1 => ⟨_, _, rfl, rfl, _, rfl, ?_⟩⟩⟩
  rw [decide_eq_true (by omega)]
  exact iteT ⟨_, rfl, fun p hp => k H1 p (s0.trans s1) hp⟩
end
end K6
namespace K6
open PySem PySem.Spec PyProof.Rows L2 RZ
/-- the degree of a word -/
def dgz (L W : List Int) : Int := (List.zipWith (· * ·) L W).sum
def spDeg (K : PySem.W.Frag) : Sp := fun vs H Q _ => ∃ (a b : Addr) (L W : List Int), vs = [.ref a, .ref b] ∧ SqT K H a (iV L) ∧ SqT K H b (iV W) ∧ Lt L ∧ (∀ e ∈ W, e.natAbs < 2 ^ 300) ∧ ∀ H', Same H H' → Q (.int (dgz L W)) H'
def spLen (K : PySem.W.Frag) : Sp := fun vs H Q _ => ∃ (b : Addr) (W : List Int), vs = [.ref b] ∧ SqT K H b (iV W) ∧ Q (.int W.sum) H
/-- values that are no tuples -/
inductive Out (H : Hp) : V → Prop
  | non : Out H .non
  | bl (b : Bool) : Out H (.bl b)
  | int (i : Int) : Out H (.int i)
  | str (z : Str) : Out H (.str z)
  | lst {a : Addr} {xs : List V} (h : H a = some (.lst xs)) : Out H (.ref a)
  | dic {a : Addr} {kvs : List (Key × V)} (h : H a = some (.dK kvs)) : Out H (.ref a)
theorem Out.ty {K : PySem.W.Frag} {H : Hp} {x : V} (h : Out H x) : ∃ T : String, TyX K H x (.type T) ∧ kitB T "tuple" = some false := by
  cases h with
  | non => exact ⟨"NoneType", .base .non, by decide +kernel⟩
  | bl b => exact ⟨"bool", .base (.bl _), by decide +kernel⟩
  | int i => exact ⟨"int", .base (.int _), by decide +kernel⟩
  | str z => exact ⟨"str", .base (.str _), by decide +kernel⟩
  | lst h => exact ⟨"list", .base (.lst h), by decide +kernel⟩
  | dic h => exact ⟨"dict", .base (.dK h), by decide +kernel⟩
theorem Out.mono {H H' : Hp} {x : V} (h : Out H x) (s : Same H H') : Out H' x := by
  cases h with
  | non => exact .non
  | bl b => exact .bl b
  | int i => exact .int i
  | str z => exact .str z
  | lst h => exact .lst (s _ _ h)
  | dic h => exact .dic (s _ _ h)
/-- a value that may be a word -/
inductive WdIs (K : PySem.W.Frag) (H : Hp) : V → Option (List V) → Prop
  | out {x : V} (h : Out H x) : WdIs K H x none
  | tup {a : Addr} {xs : List V} (h : SqT K H a xs) (n : xs.length ≤ 1000) (v : ∀ x ∈ xs, Vk K H x) (b : ∀ i, V.int i ∈ xs → i.natAbs < 2 ^ 300) : WdIs K H (.ref a) (some xs)
theorem WdIs.mono {K : PySem.W.Frag} {H H' : Hp} {x : V} {o : Option (List V)} (h : WdIs K H x o) (s : Same H H') : WdIs K H' x o := by
  cases h with
  | out h => exact .out (h.mono s)
  | tup h n v b => exact .tup (tupSame s h) n (fun x hx => (v x hx).mono s) b
def expB (n : Int) : Option (List V) → Bool
  | none => false
  | some xs => decide ((xs.length : Int) = n) && xs.all isI
def toI : V → Int
  | .int i => i
  | _ => 0
/-- exponents that fit their letters -/
def fit1 (d e : Int) : Bool := !(decide (e < 0) || (decide (d % 2 = 1) && decide (1 < e)))
def fits : List Int → List Int → Bool
  | d :: L, e :: W => fit1 d e && fits L W
  | _, _ => true
def wordB (L : List Int) : Option (List V) → Bool
  | none => false
  | some xs => (decide ((xs.length : Int) = L.length) && xs.all isI) && (fits L (xs.map toI) && decide (dgz L (xs.map toI) ≤ 400))
def spIsExp (K : PySem.W.Frag) : Sp := fun vs H Q _ => ∃ (x : V) (n : Int) (o : Option (List V)), vs = [x, .int n] ∧ WdIs K H x o ∧ ∀ H', Same H H' → Q (.bl (expB n o)) H'
def spIsPass (K : PySem.W.Frag) : Sp := fun vs H Q _ => ∃ (a : Addr) (L : List Int) (x : V) (o : Option (List V)), vs = [.ref a, x] ∧ SqT K H a (iV L) ∧ Lt L ∧ WdIs K H x o ∧ ∀ H', Same H H' → Q (.bl (wordB L o)) H'
theorem scDeg : FnScope ["letters", "word", "degree", "exponent"] ["letters", "word"] (defScope sDegOf) := ⟨rfl, rfl, rfl, by decide +kernel, rfl, by decide +kernel, by decide +kernel⟩
theorem scLen : FnScope ["word"] ["word"] (defScope sLenOf) := ⟨rfl, rfl, rfl, by decide +kernel, rfl, by decide +kernel, by decide +kernel⟩
theorem scIsExp : FnScope ["value", "size", "exponent"] ["value", "size"] (defScope sIsExp) := ⟨rfl, rfl, rfl, by decide +kernel, rfl, by decide +kernel, by decide +kernel⟩
theorem scIsPass : FnScope ["letters", "value", "degree", "exponent"] ["letters", "value"] (defScope sIsPass) := ⟨rfl, rfl, rfl, by decide +kernel, rfl, by decide +kernel, by decide +kernel⟩
theorem zw_get {L W : List Int} {i : Nat} {x y : V} (h1 : (iV L)[i]? = some x) (h2 : (iV W)[i]? = some y) : ∃ d e, x = .int d ∧ y = .int e ∧ L[i]? = some d ∧ W[i]? = some e ∧ (List.zipWith (· * ·) L W)[i]? = some (d * e) := by
  rw [List.getElem?_map] at h1 h2
  cases c1 : L[i]? with
  | none => rw [c1] at h1; cases h1
  | some d =>
    cases c2 : W[i]? with
    | none => rw [c2] at h2; cases h2
    | some e =>
      rw [c1] at h1
      rw [c2] at h2
      refine ⟨d, e, (Option.some.inj h1).symm, (Option.some.inj h2).symm, rfl, rfl, ?_⟩
      rw [List.getElem?_zipWith, c1, c2]
section
variable {P : Program} {w : World} {K : PySem.W.Frag} {mg : Str → Option Value} {base : Heap}
theorem dg_mul {d e : Int} (h1 : 1 ≤ d) (h2 : d ≤ 40) (h3 : e.natAbs < 2 ^ 300) : CMulW d e := wide_mul (a := 10) (b := 300) (Nat.lt_of_le_of_lt (by omega : d.natAbs ≤ 40) (by decide)) h3 (by decide) (by decide) (by decide)
theorem zw_int (L W : List Int) : List.zipWith (fun d e => V.int (d * e)) L W = (List.zipWith (· * ·) L W).map V.int := by
  rw [List.map_zipWith]
theorem ok_deg {f : Addr} {fd : FuncData} (F : Fun K "degree_of" "degree_of" sDegOf f fd) (T : Txt K mg) : FnOk P w K mg base CX0 1 f fd ["letters", "word"] (spDeg K) := by
  refine F.ok scDeg (fun vs H Q E h => ?_) (fun cdv A outer s H vs Q E hr h => ?_)
  · obtain ⟨a, b, L, W, rfl, _⟩ := h; rfl
  obtain ⟨a, b, L, W, rfl, ha, hb, hL, hW, k⟩ := h
  refine ⟨_, pss_one (ps_ret (pe_callB (cr_sum rfl) (by rfl) T.sum bootSum (pa_cons (pe_lc (own := [("degree", 2), ("exponent", 3)]) (g := gTup K 2 (gCons (gName 2) (gCons (gName 3) gNil))) rfl scDeg.nd (pi_zipA (by rfl) T.zip (pa_cons (pv 0) (pa_cons (pv 1) pa_nil)))
      (blkOk_by (N := ["letters", "word", "degree", "exponent"]) (sc := defScope sDegOf) (by decide +kernel)) (fun _ _ _ _ _ => pg_tup (by rfl) (pgs_cons (pg_name (i := 2) scDeg.nd rfl (.inl rfl)) (pgs_cons (pg_name (i := 3) scDeg.nd rfl (.inl rfl)) pgs_nil))) (fun _ _ _ _ _ => pts_nil)
      (fun _ _ _ _ _ => pe_op op_mulW (pv 2) (pv 3))) pa_nil))), ?_⟩
  refine ⟨_, rfl, _, rfl, a, b, _, _, rfl, .inr ⟨ha, hb, fun D hD => ?_⟩⟩
  refine lc_zip2 (fun d e => V.int (d * e)) hD ha hb (Nat.le_trans hL.len (by decide)) (fun _ _ => rfl) (fun n d e H1 Q1 h1 h2 s1 q => ?_) fun H' s' h' => ?_
  · exact ⟨_, rfl, _, rfl, _, _, rfl, rfl, dg_mul (hL.lo d (List.mem_of_getElem? h1)) (hL.hi d (List.mem_of_getElem? h1)) (hW e (List.mem_of_getElem? h2)), q _ (Same.refl _)⟩
  · rw [zw_int] at h'
    exact ⟨D, _, rfl, SqL.of h', k H' s'⟩
theorem ok_len {f : Addr} {fd : FuncData} (F : Fun K "length_of" "length_of" sLenOf f fd) (T : Txt K mg) : FnOk P w K mg base CX0 1 f fd ["word"] (spLen K) := by
  refine F.ok scLen (fun vs H Q E h => ?_) (fun cdv A outer s H vs Q E hr h => ?_)
  · obtain ⟨b, W, rfl, _⟩ := h; rfl
  obtain ⟨b, W, rfl, hb, k⟩ := h
  refine ⟨_, pss_one (ps_ret (pe_callB (cr_sumT rfl) (by rfl) T.sum bootSum (pa_cons (pv 0) pa_nil))), ?_⟩
  exact ⟨_, rfl, b, W, rfl, hb, k⟩
theorem ok_isexp {f fB : Addr} {fd fdB : FuncData} (F : Fun K "is_exponents" "is_exponents" sIsExp f fd) (T : Txt K mg) (gB : mg "is_whole" = some (.ref fB)) (kB : PySem.W.keepIn K (.ref fB) = true) (bB : Binds K fdB ["value"] [])
    (B : FnOk P w K mg base CX0 1 fB fdB ["value"] (spIsWhole K)) : FnOk P w K mg base CX0 2 f fd ["value", "size"] (spIsExp K) := by
  refine F.ok scIsExp (fun vs H Q E h => ?_) (fun cdv A outer s H vs Q E hr h => ?_)
  · obtain ⟨x, n, o, rfl, _⟩ := h; rfl
  obtain ⟨x, n, o, rfl, hx, k⟩ := h
  refine ⟨_, pss_cons (ps_if (PW.pt (pw_or (pt_not (pt_val (pe_callB call_isi (by rfl) T.isi bootIsi (pa_cons (pv 0) (pa_cons (pe_bltn (v := .ty "tuple") (by rfl) T.tuple bootTuple rfl) pa_nil)))))
        (pw_or1 (pt_cmpR op_ne (pe_callB call_len_seq (by rfl) T.len PySem.boot_len (pa_cons (pv 0) pa_nil)) (pv 1) (nomark _))))) (pss_one (ps_ret pe_bl)) pss_nil)
    (pss_one (ps_ret (pe_callB (cr_all rfl) (by rfl) T.all bootAll (pa_cons (pe_lc (own := [("exponent", 2)]) (g := gName 2) rfl scIsExp.nd (pi_tup (pv 0)) (blkOk_by (N := ["value", "size", "exponent"]) (sc := defScope sIsExp) (by decide +kernel)) (fun _ _ _ _ _ => pg_name (i := 2) scIsExp.nd rfl (Or.inl rfl)) (fun _ _ _ _ _ => pts_nil)
      (fun _ _ _ _ _ => pe_call B hr (by rfl) gB kB bB .nil pass0 (by exact (pa_cons (pv 2) pa_nil)))) pa_nil)))), ?_⟩
  have no := k H (Same.refl H)
  cases hx with
  | out ho =>
    obtain ⟨Ty, ty, e⟩ := ho.ty (K := K)
    exact ⟨_, rfl, _, _, _, _, false, rfl, .ty "tuple", ty, kit_ty e, _, rfl, iteT (iteT no)⟩
  | @tup a xs h l v b =>
    refine ⟨_, rfl, _, _, _, _, true, rfl, .ty "tuple", tyT h, kit_ty (by decide +kernel), _, rfl, iteF ⟨_, rfl, _, _, rfl, .inr h, _, rfl, rfl, _, rfl, ?_⟩⟩
    by_cases c : (xs.length : Int) = n
    · rw [decide_eq_true (show V.int (xs.length : Nat) = V.int n by rw [c])]
      refine iteF ⟨_, rfl, a, rfl, ⟨_, h⟩, fun D hD => lc_tup1 (fun x => V.bl (isI x)) hD h l (fun _ => rfl) (fun m x H1 Q1 h1 s1 q => ?_) fun H' s' h' => ?_⟩
      · exact ⟨_, rfl, x, rfl, (v x (List.mem_of_getElem? h1)).mono s1, q _ (Same.refl _)⟩
      · refine ⟨D, xs.map isI, rfl, SqL.of (by rw [h', List.map_map]; rfl), ?_⟩
        have q : Q (.bl (decide ((xs.length : Int) = n) && xs.all isI)) H' := k H' s'
        rw [decide_eq_true c, Bool.true_and] at q
        show Q (.bl ((xs.map isI).all id)) H'
        rw [List.all_map]
        exact q
    · rw [decide_eq_false (show ¬ V.int (xs.length : Nat) = V.int n from fun z => c (V.int.inj z))]
      have no : Q (.bl (decide ((xs.length : Int) = n) && xs.all isI)) H := no
      rw [decide_eq_false c, Bool.false_and] at no
      exact iteT no
/-- where a loop's turn leaves off -/
theorem fits_turn : ∀ {L W : List Int} {n : Nat} {d e : Int}, L[n]? = some d → W[n]? = some e → fit1 d e = false → fits L W = false
  | [], _, _, _, _, h, _, _ => by cases h
  | _ :: _, [], _, _, _, _, h, _ => by cases h
  | d' :: L, e' :: W, 0, d, e, h1, h2, h3 => by
    cases h1
    cases h2
    show (fit1 d' e' && _) = false
    rw [h3, Bool.false_and]
  | d' :: L, e' :: W, n + 1, d, e, h1, h2, h3 => by
    show (_ && fits L W) = false
    rw [fits_turn (L := L) (W := W) (n := n) h1 h2 h3, Bool.and_false]
theorem fits_all : ∀ {L W : List Int}, (∀ (n : Nat) (d e : Int), L[n]? = some d → W[n]? = some e → fit1 d e = true) → fits L W = true
  | [], _, _ => by
    unfold fits
    rfl
  | _ :: _, [], _ => by
    unfold fits
    rfl
  | d :: L, e :: W, h => by
    show (fit1 d e && fits L W) = true
    rw [h 0 d e rfl rfl, fits_all fun n x y h1 h2 => h (n + 1) x y h1 h2]
    rfl
theorem allI_iV {xs : List V} (h : xs.all isI = true) : xs = iV (xs.map toI) := by
  rw [List.all_eq_true] at h
  unfold iV
  rw [List.map_map]
  have : ∀ x ∈ xs, (V.int ∘ toI) x = id x := fun x hx => by
    have q := h x hx
    cases x <;> first | rfl | cases q
  rw [List.map_congr_left this, List.map_id]
theorem ok_ispass {f fB fG : Addr} {fd fdB fdG : FuncData} (F : Fun K "is_passed_word" "is_passed_word" sIsPass f fd) (T : Txt K mg) (gB : mg "is_exponents" = some (.ref fB)) (kB : PySem.W.keepIn K (.ref fB) = true) (bB : Binds K fdB ["value", "size"] [])
    (B : FnOk P w K mg base CX0 2 fB fdB ["value", "size"] (spIsExp K)) (gG : mg "degree_of" = some (.ref fG)) (kG : PySem.W.keepIn K (.ref fG) = true) (bG : Binds K fdG ["letters", "word"] []) (G : FnOk P w K mg base CX0 1 fG fdG ["letters", "word"] (spDeg K)) :
    FnOk P w K mg base CX0 3 f fd ["letters", "value"] (spIsPass K) := by
  refine F.ok scIsPass (fun vs H Q E h => ?_) (fun cdv A outer s H vs Q E hr h => ?_)
  · obtain ⟨a, L, x, o, rfl, _⟩ := h; rfl
  obtain ⟨a, L, x, o, rfl, ha, hL, hx, k⟩ := h
  obtain ⟨t1, m1⟩ := T.cMAXPASSED
  have hr1 : Room 1 _ := hr.mono (by decide)
  refine ⟨_, pss_cons (ps_if (pt_not (pt_val (pe_call B hr (by rfl) gB kB bB .nil pass0 (pa_cons (pv 1) (pa_cons (pe_callB call_len_seq (by rfl) T.len PySem.boot_len (pa_cons (pv 0) pa_nil)) pa_nil))))) (pss_one (ps_ret pe_bl)) pss_nil)
    (pss_cons (ps_for PassesOwn.never rfl (pi_zipA (by rfl) T.zip (pa_cons (pv 0) (pa_cons (pv 1) pa_nil))) (pg_tup (by rfl) (pgs_cons (pg_name (i := 2) scIsPass.nd rfl (.inl rfl)) (pgs_cons (pg_name (i := 3) scIsPass.nd rfl (.inl rfl)) pgs_nil)))
      (pss_one (ps_if (PW.pt (pw_or (pt_cmpR op_lt (pv 3) pe_int (nomark _)) (pw_or1 (PW.pt (pw_and (pt_cmpR op_eq (pe_op op_mod (pv 2) pe_int) pe_int (nomark _)) (pw_and1 (pt_cmpR op_gt (pv 3) pe_int (nomark _)))))))) (pss_one (ps_ret pe_bl)) pss_nil)))
    (pss_one (ps_ret (pe_cmpR op_le (pe_call G hr1 (by rfl) gG kG bG .nil pass0 (pa_cons (pv 0) (pa_cons (pv 1) pa_nil))) (pe_glob (v := .int 400) (by rfl) m1 ⟨_, rfl⟩) (nomark _))))), ?_⟩
  refine ⟨_, rfl, _, rfl, a, _, rfl, .inr ha, x, _, o, rfl, hx, fun H1 s1 => ⟨_, rfl, ?_⟩⟩
  rw [List.length_map]
  cases ce : expB (L.length : Nat) o with
  | false =>
    have q := k H1 s1
    refine iteT ?_
    cases o with
    | none => exact q
    | some xs =>
      have q : Q (.bl ((decide ((xs.length : Int) = L.length) && xs.all isI) && (fits L (xs.map toI) && decide (dgz L (xs.map toI) ≤ 400)))) H1 := q
      have ce : (decide ((xs.length : Int) = L.length) && xs.all isI) = false := ce
      rw [ce, Bool.false_and] at q
      exact q
  | true =>
    refine iteF ?_
    cases hx with
    | out _ => cases ce
    | @tup b xs h l v bd =>
      have ce' : (decide ((xs.length : Int) = L.length) && xs.all isI) = true := ce
      obtain ⟨c1, c2⟩ := Bool.and_eq_true_iff.mp ce'
      have ex := allI_iV c2
      have hW : ∀ e ∈ xs.map toI, e.natAbs < 2 ^ 300 := fun e he => bd e (by rw [ex]; exact List.mem_map_of_mem he)
      have kq : ∀ H', Same H H' → Q (.bl (fits L (xs.map toI) && decide (dgz L (xs.map toI) ≤ 400))) H' := fun H' s => by
        have q : Q (.bl ((decide ((xs.length : Int) = L.length) && xs.all isI) && (fits L (xs.map toI) && decide (dgz L (xs.map toI) ≤ 400)))) H' := k H' s
        rw [ce', Bool.true_and] at q
        exact q
      generalize xs.map toI = W at *
      subst ex
      have hb1 := tupSame s1 h
      refine ⟨_, rfl, _, rfl, a, b, iV L, iV W, rfl, .inr ⟨tupSame s1 ha, hb1, for_it (walk_zipT (xs := iV L) (ys := iV W) rfl) (fun n σ H' => (∃ o1 o2 : Option V, σ = [some (.ref a), some (.ref b), o1, o2]) ∧ Same H1 H' ∧ ∀ (m : Nat) (d e : Int), m < n → L[m]? = some d → W[m]? = some e → fit1 d e = true)
        ⟨⟨none, none, rfl⟩, Same.refl _, fun m _ _ z => absurd z (Nat.not_lt_zero m)⟩ (fun n σ H' _ p => ⟨tupSame (s1.trans p.2.1) ha, tupSame p.2.1 hb1⟩) (fun n x σ H2 H3 hn p y => ?_) fun σ H' p => ?_⟩⟩
      · obtain ⟨⟨o1, o2, rfl⟩, s2, hf⟩ := p
        obtain ⟨T', u, u2, rfl, hT, rfl, hu, hv⟩ := y
        have hu : (iV L)[n]? = some u := hu
        have hv : (iV W)[n]? = some u2 := hv
        rw [List.getElem?_map] at hu hv
        obtain ⟨d, hd1, rfl⟩ := Option.map_eq_some_iff.mp hu
        obtain ⟨e, he1, rfl⟩ := Option.map_eq_some_iff.mp hv
        have s3 : Same H2 (upd H2 T' (.tup [.int d, .int e])) := Same.new hT
        refine ⟨T', [.int d, .int e], rfl, SqT.of upd_same, rfl, .int d, [.int e], rfl, .int e, [], rfl, rfl, ?_⟩
        have stop : fit1 d e = false → Q (.bl false) (upd H2 T' (.tup [.int d, .int e])) := fun z => by
          have q := kq _ (s1.trans (s2.trans s3))
          rw [fits_turn hd1 he1 z, Bool.false_and] at q
          exact q
        have on : fit1 d e = true → (∃ o1 o2 : Option V, ([some (.ref a), some (.ref b), some (.int d), some (.int e)] : L2.St) = [some (.ref a), some (.ref b), o1, o2]) ∧ Same H1 (upd H2 T' (.tup [.int d, .int e])) ∧ ∀ (m : Nat) (d e : Int), m < n + 1 → L[m]? = some d → W[m]? = some e → fit1 d e = true := fun z =>
          ⟨⟨_, _, rfl⟩, s2.trans s3, fun m d' e' hm h1 h2 => by
            by_cases q : m = n
            · subst q
              rw [hd1] at h1
              rw [he1] at h2
              cases h1
              cases h2
              exact z
            · exact hf m d' e' (by omega) h1 h2⟩
        have ef : fit1 d e = !(decide (e < 0) || (decide (d % 2 = 1) && decide (1 < e))) := rfl
        refine ⟨_, rfl, _, _, rfl, rfl, _, rfl, ?_⟩
        by_cases c3 : e < 0
        · rw [decide_eq_true c3] at ef ⊢
          exact iteT (iteT (B := True) (stop ef))
        rw [decide_eq_false c3] at ef ⊢
        refine iteF ⟨_, rfl, _, _, rfl, rfl, (by show (0 : Int) < 2; decide), rfl, _, rfl, ?_⟩
        by_cases c4 : d % 2 = 1
        · rw [decide_eq_true c4] at ef
          rw [decide_eq_true (show V.int (d % 2) = V.int 1 by rw [c4])]
          refine iteT ⟨_, rfl, _, _, rfl, rfl, _, rfl, ?_⟩
          by_cases c5 : 1 < e
          · rw [decide_eq_true c5] at ef ⊢
            exact iteT (iteT (B := True) (stop ef))
          · rw [decide_eq_false c5] at ef ⊢
            exact iteF (iteF (A := True) (on ef))
        · rw [decide_eq_false c4] at ef
          rw [decide_eq_false (show ¬ V.int (d % 2) = V.int 1 from fun z => c4 (V.int.inj z))]
          exact iteF (iteF (A := True) (on ef))
      · obtain ⟨⟨o1, o2, rfl⟩, s2, hf⟩ := p
        refine ⟨_, rfl, _, rfl, a, b, L, W, rfl, tupSame (s1.trans s2) ha, tupSame s2 hb1, hL, hW, fun H4 s4 => ⟨_, _, rfl, rfl, ?_⟩⟩
        have q := kq H4 (s1.trans (s2.trans s4))
        rw [fits_all fun n d e h1 h2 => hf n d e (by
          have a1 := (List.getElem?_eq_some_iff.mp h1).1
          have a2 := (List.getElem?_eq_some_iff.mp h2).1
          rw [List.length_map, List.length_map]
          omega) h1 h2, Bool.true_and] at q
        exact q
end
end K6
namespace K6
open PySem PySem.Spec PyProof.Rows L2 RZ
/-- a def with a default -/
structure FunD (K : PySem.W.Frag) (x qual : Str) (st : Stmt) (f : Addr) (fd : FuncData) : Prop where
  ex : ∃ (oc : Value) (od : Option Addr) (dV kV doc pm : Value) (an : Option Addr) (cdv ct : Value) (osl : Array (Option Value)),
    fd = PySem.W.fnOf x qual (defArgs st) (defBody st) (defScope st) dV kV doc pm an cdv ct ∧ K.lookup f = some ⟨oc, od, .func fd, osl⟩ ∧ PySem.W.codeIn K cdv qual = true
section
variable {P : Program} {w : World} {K : PySem.W.Frag} {mg : Str → Option Value} {base : Heap}
theorem FunD.ok {x qual : Str} {st : Stmt} {f : Addr} {fd : FuncData} {N ps : List Str} {k : Nat} {sp : Sp} (F : FunD K x qual st f fd) (S : FnScope N ps (defScope st)) (len : ∀ vs H Q E, sp vs H Q E → vs.length = ps.length)
    (body : ∀ (cdv : Value) (A : Around) (outer : List Env) (s : Shared) (H : Hp) (vs : List V) (Q : VK) (E : XK), Room k (A.deeper (envOfC qual (defScope st) s.heap.objs.size f cdv)) → sp vs H Q E →
      ∃ t, PSs (cxOf CX0 P w K mg base N qual (defScope st) f cdv A outer s H E).nox (defBody st) t ∧ t { nx := fun _ H' => Q .non H', rt := Q } (start N vs) H) : FnOk P w K mg base CX0 (k + 1) f fd ps sp := by
  obtain ⟨oc, od, dV, kV, doc, pm, an, cdv, ct, osl, rfl, lk, hcd⟩ := F.ex
  exact fn_of lk hcd S len fun A outer s H vs Q E hr hsp => by
    obtain ⟨t, h, q⟩ := body cdv A outer s H vs Q E hr hsp
    exact ⟨t, h.nox, q⟩
end
/-! ### odd letters, unit words, products -/
def spOddsW (K : PySem.W.Frag) : Sp := fun vs H Q _ => ∃ (a : Addr) (L : List Int), vs = [.ref a] ∧ SqT K H a (iV L) ∧ L.length ≤ 24 ∧ ∀ (H' : Hp) (p : Addr), Same H H' → H' p = some (.tup (iV (od 0 L))) → Q (.ref p) H'
def unW (n : Nat) (x : V) : List Int := (List.range n).map fun k : Nat => if V.int k = x then 1 else 0
def spUnit (K : PySem.W.Frag) : Sp := fun vs H Q _ => ∃ (a : Addr) (L : List Int) (x : V), vs = [.ref a, x] ∧ SqT K H a (iV L) ∧ L.length ≤ 24 ∧ (x = .non ∨ ∃ i, x = .int i) ∧ ∀ (H' : Hp) (p : Addr), Same H H' → H' p = some (.tup (iV (unW L.length x))) → Q (.ref p) H'
def at' (u : List Int) (i : Int) : Int := u.getD i.toNat 0
/-- the loop over the odd letters from the last one on, told from the front -/
def jst (u v : List Int) : List Int → Option (Int × Int)
  | [] => some (1, 0)
  | i :: S => (jst u v S).bind fun p => if at' v i = 1 then (if at' u i = 1 then none else some (if p.2 % 2 = 1 then -p.1 else p.1, p.2)) else (if at' u i = 1 then some (p.1, p.2 + 1) else some p)
def spJoin (K : PySem.W.Frag) : Sp := fun vs H Q _ => ∃ (o a b : Addr) (O u v : List Int), vs = [.ref o, .ref a, .ref b] ∧ SqT K H o (iV O) ∧ SqT K H a (iV u) ∧ SqT K H b (iV v) ∧ u.length ≤ 24 ∧ v.length = u.length ∧ (∀ i ∈ O, 0 ≤ i ∧ i < u.length) ∧
  (jst u v O = none → ∀ H', Same H H' → Q .non H') ∧
  ∀ (s k : Int), jst u v O = some (s, k) → ∀ (H' : Hp) (p q : Addr), Same H H' → H' p = some (.tup [.int s, .ref q]) → H' q = some (.tup (iV (List.zipWith (· + ·) u v))) → Q (.ref p) H'
theorem scOddsW : FnScope ["letters", "index", "degree"] ["letters"] (defScope sOdds) := ⟨rfl, rfl, rfl, by decide +kernel, rfl, by decide +kernel, by decide +kernel⟩
theorem scUnit : FnScope ["letters", "index", "at"] ["letters", "index"] (defScope sUnit) := ⟨rfl, rfl, rfl, by decide +kernel, rfl, by decide +kernel, by decide +kernel⟩
theorem scJoin : FnScope ["odds", "one", "other", "sign", "behind", "index", "left", "right"] ["odds", "one", "other"] (defScope sJoined) := ⟨rfl, rfl, rfl, by decide +kernel, rfl, by decide +kernel, by decide +kernel⟩
theorem jst_none {u v : List Int} : ∀ {P S : List Int}, jst u v S = none → jst u v (P ++ S) = none
  | [], _, h => h
  | i :: P, S, h => by
    show (jst u v (P ++ S)).bind _ = none
    rw [jst_none (P := P) h]
    rfl
section
variable {P : Program} {w : World} {K : PySem.W.Frag} {mg : Str → Option Value} {base : Heap}
theorem ok_oddsW {f : Addr} {fd : FuncData} (F : Fun K "odd_indices" "odd_indices" sOdds f fd) (T : Txt K mg) : FnOk P w K mg base CX0 1 f fd ["letters"] (spOddsW K) := by
  refine F.ok scOddsW (fun vs H Q E h => ?_) (fun cdv A outer s H vs Q E hr h => ?_)
  · obtain ⟨a, L, rfl, _⟩ := h; rfl
  obtain ⟨a, L, rfl, ha, hn, k⟩ := h
  refine ⟨_, pss_one (ps_ret (pe_callTy call_tuple_of (by rfl) T.tuple bootTuple (pa_cons (pe_lc (own := [("index", 1), ("degree", 2)]) (g := gTup K 2 (gCons (gName 1) (gCons (gName 2) gNil))) rfl scOddsW.nd (pi_enumT (by rfl) T.enumerate (pa_cons (pv 0) pa_nil))
      (blkOk_by (N := ["letters", "index", "degree"]) (sc := defScope sOdds) (by decide +kernel)) (fun _ _ _ _ _ => pg_tup (by rfl) (pgs_cons (pg_name (i := 1) scOddsW.nd rfl (.inl rfl)) (pgs_cons (pg_name (i := 2) scOddsW.nd rfl (.inl rfl)) pgs_nil))) (fun _ _ _ _ _ => pts_one (pt_cmpR op_eq (pe_op op_mod (pv 2) pe_int) pe_int (nomark _)))
      (fun _ _ _ _ _ => pv 1)) pa_nil))), ?_⟩
  refine ⟨_, rfl, a, _, rfl, ha, fun D hD => lc_odds hD ha (Nat.le_trans hn (by decide)) (fun _ _ => rfl) (fun n d H1 Q1 q => ?_) (fun n d H1 Q1 q => ?_) fun H' s' h' => ?_⟩
  · refine ⟨_, rfl, _, _, rfl, rfl, (by show (0 : Int) < 2; decide), rfl, _, rfl, ?_⟩
    have e : decide (V.int (d % 2) = V.int 1) = decide (d % 2 = 1) := decide_eq_decide.mpr ⟨fun z => V.int.inj z, fun z => by rw [z]⟩
    rw [e]
    exact q
  · exact ⟨_, rfl, q⟩
  · exact ⟨D, _, rfl, .inl ⟨SqL.of h', fun l hl => k _ l (s'.trans (Same.new hl)) upd_same⟩⟩
theorem ok_unit {f : Addr} {fd : FuncData} (F : FunD K "unit_word" "unit_word" sUnit f fd) (T : Txt K mg) : FnOk P w K mg base CX0 1 f fd ["letters", "index"] (spUnit K) := by
  refine F.ok scUnit (fun vs H Q E h => ?_) (fun cdv A outer s H vs Q E hr h => ?_)
  · obtain ⟨a, L, x, rfl, _⟩ := h; rfl
  obtain ⟨a, L, x, rfl, ha, hn, hx, k⟩ := h
  refine ⟨_, pss_one (ps_ret (pe_callTy call_tuple_of (by rfl) T.tuple bootTuple (pa_cons (pe_lc (own := [("at", 2)]) (g := gName 2) rfl scUnit.nd (pi_range1 rfl T.range (pa_cons (pe_callB call_len_seq (by rfl) T.len PySem.boot_len (pa_cons (pv 0) pa_nil)) pa_nil))
      (blkOk_by (N := ["letters", "index", "at"]) (sc := defScope sUnit) (by decide +kernel)) (fun _ _ _ _ _ => pg_name (i := 2) scUnit.nd rfl (.inl rfl)) (fun _ _ _ _ _ => pts_nil)
      (fun _ _ _ _ _ => pe_ifExp (pt_cmpR op_eq (pv 2) (pv 1) (nomark _)) pe_int pe_int)) pa_nil))), ?_⟩
  have ll : (iV L).length = L.length := List.length_map _
  refine ⟨_, rfl, a, _, rfl, .inr ha, _, rfl, by omega, by omega, fun D hD => ?_⟩
  have eN : (((iV L).length : Nat) : Int).toNat = L.length := by omega
  refine lc_range1 (lo := 0) (fun j => V.int (if V.int j = x then 1 else 0)) hD (by omega) (fun _ => rfl) (fun n H1 Q1 hn2 s1 q => ?_) fun H' s' h' => ?_
  · have q := q H1 (Same.refl _)
    rcases hx with rfl | ⟨i, rfl⟩
    · refine ⟨_, rfl, _, rfl, rfl, _, rfl, ?_⟩
      rw [decide_eq_false (fun z => nomatch z)]
      rw [if_neg (fun z => nomatch z)] at q
      exact iteF q
    · refine ⟨_, rfl, _, rfl, rfl, _, rfl, ?_⟩
      by_cases c : V.int (0 + (n : Int)) = V.int i
      · rw [decide_eq_true c]
        rw [if_pos c] at q
        exact iteT q
      · rw [decide_eq_false c]
        rw [if_neg c] at q
        exact iteF q
  · refine ⟨D, _, rfl, .inl ⟨SqL.of h', fun l hl => k _ l (s'.trans (Same.new hl)) ?_⟩⟩
    rw [upd_same]
    unfold unW iV
    rw [List.map_map]
    have e : (List.range (((iV L).length : Nat) : Int).toNat).map (fun n : Nat => V.int (if V.int (0 + (n : Int)) = x then 1 else 0)) = (List.range L.length).map (V.int ∘ fun k : Nat => if V.int k = x then 1 else 0) := by
      rw [eN]
      refine List.map_congr_left fun n _ => ?_
      show V.int (if V.int (0 + (n : Int)) = x then 1 else 0) = V.int (if V.int (n : Int) = x then 1 else 0)
      rw [Int.zero_add]
    exact congrArg (fun z => some (HO.tup z)) e
/-- the invariant of the loop over reversed(odds) -/
theorem jst_turn {O : List Int} {n : Nat} {i : Int} (h : O[O.length - 1 - n]? = some i) (hn : n < O.length) : O.drop (O.length - (n + 1)) = i :: O.drop (O.length - n) := by
  have e1 : O.length - (n + 1) = O.length - 1 - n := by omega
  have e2 : O.length - n = O.length - 1 - n + 1 := by omega
  obtain ⟨h1, h2⟩ := List.getElem?_eq_some_iff.mp h
  rw [e1, e2, List.drop_eq_getElem_cons h1, h2]
theorem ix_at {u : List Int} {i : Int} (h0 : 0 ≤ i) (h1 : i < u.length) : atI (iV u) i = some (.int (at' u i)) := by
  have l : i.toNat < u.length := by omega
  refine L2.at_of (j := i.toNat) (by omega) ?_
  rw [List.getElem?_map, List.getElem?_eq_getElem l]
  unfold at'
  rw [List.getD_eq_getElem?_getD, List.getElem?_eq_getElem l]
  rfl
theorem ok_join {f : Addr} {fd : FuncData} (F : Fun K "joined_words" "joined_words" sJoined f fd) (T : Txt K mg) : FnOk P w K mg base CX0 1 f fd ["odds", "one", "other"] (spJoin K) := by
  refine F.ok scJoin (fun vs H Q E h => ?_) (fun cdv A outer s H vs Q E hr h => ?_)
  · obtain ⟨o, a, b, O, u, v, rfl, _⟩ := h; rfl
  obtain ⟨o, a, b, O, u, v, rfl, ho, ha, hb, hu, huv, hO, kn, ks⟩ := h
  refine ⟨_, pss_cons (ps_set (i := 3) scJoin.nd rfl (.inl rfl) pe_int) (pss_cons (ps_set (i := 4) scJoin.nd rfl (.inl rfl) pe_int)
    (pss_cons (ps_for PassesOwn.never rfl (RT.pi_revA (by rfl) T.reversed (pv 0)) (pg_name (i := 5) scJoin.nd rfl (.inl rfl))
      (pss_one (ps_if (pt_cmpR op_eq (pe_ix ix_tup (pv 2) (pv 5) (fun _ _ => rfl)) pe_int (nomark _))
        (pss_cons (ps_if (pt_cmpR op_eq (pe_ix ix_tup (pv 1) (pv 5) (fun _ _ => rfl)) pe_int (nomark _)) (pss_one (ps_ret pe_non)) pss_nil)
        (pss_one (ps_if (pt_cmpR op_eq (pe_op op_mod (pv 4) pe_int) pe_int (nomark _)) (pss_one (ps_set (i := 3) scJoin.nd rfl (.inl rfl) (pe_un un_neg (pv 3)))) pss_nil)))
        (pss_one (ps_if (pt_cmpR op_eq (pe_ix ix_tup (pv 1) (pv 5) (fun _ _ => rfl)) pe_int (nomark _)) (pss_one (ps_aug (i := 4) scJoin.nd rfl (.inl rfl) pe_int ip_add)) pss_nil)))))
    (pss_one (ps_ret (pe_tup (pa_cons (pv 3) (pa_cons (pe_callTy call_tuple_of (by rfl) T.tuple bootTuple (pa_cons (pe_lc (own := [("left", 6), ("right", 7)]) (g := gTup K 2 (gCons (gName 6) (gCons (gName 7) gNil))) rfl scJoin.nd (pi_zipA (by rfl) T.zip (pa_cons (pv 1) (pa_cons (pv 2) pa_nil)))
      (blkOk_by (N := ["odds", "one", "other", "sign", "behind", "index", "left", "right"]) (sc := defScope sJoined) (by decide +kernel)) (fun _ _ _ _ _ => pg_tup (by rfl) (pgs_cons (pg_name (i := 6) scJoin.nd rfl (.inl rfl)) (pgs_cons (pg_name (i := 7) scJoin.nd rfl (.inl rfl)) pgs_nil))) (fun _ _ _ _ _ => pts_nil)
      (fun _ _ _ _ _ => pe_op op_add (pv 6) (pv 7))) pa_nil)) pa_nil))))))), ?_⟩
  refine ⟨_, rfl, o, iV O, rfl, .inr ⟨ho, ?_⟩⟩
  have lO : (iV O).length = O.length := List.length_map _
  refine RT.for_ItvT (fun n σ H' => ∃ (s k : Int) (o5 : Option V), σ = [some (.ref o), some (.ref a), some (.ref b), some (.int s), some (.int k), o5, none, none] ∧ Same H H' ∧ jst u v (O.drop (O.length - n)) = some (s, k))
    ⟨1, 0, none, rfl, Same.refl _, by rw [Nat.sub_zero, List.drop_length]; rfl⟩ (fun n σ H' p => ?_) (fun n x σ H' hn hx p => ?_) fun σ H' p => ?_
  · obtain ⟨s, k, o5, rfl, s1, _⟩ := p
    exact tupSame s1 ho
  · obtain ⟨s, k, o5, rfl, s1, hj⟩ := p
    rw [lO] at hn hx
    rw [List.getElem?_map] at hx
    obtain ⟨i, hi, rfl⟩ := Option.map_eq_some_iff.mp hx
    have io := hO i (List.mem_of_getElem? hi)
    have ed := jst_turn hi hn
    have ej : jst u v (O.drop (O.length - (n + 1))) = (if at' v i = 1 then (if at' u i = 1 then none else some (if k % 2 = 1 then -s else s, k)) else (if at' u i = 1 then some (s, k + 1) else some (s, k))) := by
      rw [ed]
      show (jst u v (O.drop (O.length - n))).bind _ = _
      rw [hj]
      rfl
    have ha1 := tupSame s1 ha
    have hb1 := tupSame s1 hb
    have iu := ix_at (u := u) io.1 io.2
    have iv' := ix_at (u := v) io.1 (by rw [huv]; exact io.2)
    have dv : ∀ z : Int, decide (V.int z = V.int 1) = decide (z = 1) := fun z => decide_eq_decide.mpr ⟨fun y => V.int.inj y, fun y => by rw [y]⟩
    refine ⟨_, rfl, _, rfl, b, iV v, i, _, rfl, rfl, hb1, iv', rfl, _, rfl, ?_⟩
    rw [dv]
    by_cases c1 : at' v i = 1
    · rw [if_pos c1] at ej
      rw [decide_eq_true c1]
      refine iteT ⟨_, rfl, _, rfl, a, iV u, i, _, rfl, rfl, ha1, iu, rfl, _, rfl, ?_⟩
      rw [dv]
      by_cases c2 : at' u i = 1
      · rw [if_pos c2] at ej
        rw [decide_eq_true c2]
        refine iteT (B := True) (kn ?_ _ s1)
        have := jst_none (P := O.take (O.length - (n + 1))) ej
        rw [List.take_append_drop] at this
        exact this
      · rw [if_neg c2] at ej
        rw [decide_eq_false c2]
        refine iteF ⟨_, rfl, _, _, rfl, rfl, (by show (0 : Int) < 2; decide), rfl, _, rfl, ?_⟩
        rw [dv]
        by_cases c3 : k % 2 = 1
        · rw [if_pos c3] at ej
          rw [decide_eq_true c3]
          exact iteT ⟨_, rfl, _, rfl, -s, k, _, rfl, s1, ej⟩
        · rw [if_neg c3] at ej
          rw [decide_eq_false c3]
          exact iteF ⟨s, k, _, rfl, s1, ej⟩
    · rw [if_neg c1] at ej
      rw [decide_eq_false c1]
      refine iteF ⟨_, rfl, _, rfl, a, iV u, i, _, rfl, rfl, ha1, iu, rfl, _, rfl, ?_⟩
      rw [dv]
      by_cases c2 : at' u i = 1
      · rw [if_pos c2] at ej
        rw [decide_eq_true c2]
        exact iteT ⟨_, rfl, _, _, rfl, rfl, s, k + 1, _, rfl, s1, ej⟩
      · rw [if_neg c2] at ej
        rw [decide_eq_false c2]
        exact iteF ⟨s, k, _, rfl, s1, ej⟩
  · obtain ⟨s, k, o5, rfl, s1, hj⟩ := p
    rw [lO, Nat.sub_self, List.drop_zero] at hj
    refine ⟨_, rfl, _, rfl, _, rfl, a, b, iV u, iV v, rfl, .inr ⟨tupSame s1 ha, tupSame s1 hb, fun D hD => ?_⟩⟩
    refine lc_zip2 (fun d e => V.int (d + e)) hD (tupSame s1 ha) (tupSame s1 hb) (by omega) (fun _ _ => rfl) (fun n d e H1 Q1 h1 h2 s2 q => ?_) fun H2 s2 h2 => ?_
    · exact ⟨_, rfl, _, rfl, _, _, rfl, rfl, q _ (Same.refl _)⟩
    · refine ⟨D, _, rfl, .inl ⟨SqL.of h2, fun l hl => ⟨by show 2 ≤ sizeLine; decide, fun p hp => ?_⟩⟩⟩
      have s3 : Same H2 (upd H2 l (.tup (List.zipWith (fun d e => V.int (d + e)) u v))) := Same.new hl
      have s4 := Same.new (o := .tup [.int s, .ref l]) hp
      have hl2 : upd H2 l (.tup (List.zipWith (fun d e => V.int (d + e)) u v)) l = some (.tup (iV (List.zipWith (· + ·) u v))) := by
        rw [upd_same]
        unfold iV
        rw [List.map_zipWith]
      exact ks s k hj _ p l (s1.trans (s2.trans (s3.trans s4))) upd_same (s4 _ _ hl2)
end
end K6
namespace K6
open PySem PySem.Spec PyProof.Rows L2 RZ
/-- right words of right letters -/
structure Wd (L W : List Int) : Prop where
  len : W.length = L.length
  ok : wordB L (some (iV W)) = true
  sm : ∀ e ∈ W, e.natAbs < 2 ^ 300
theorem iV_mem {W : List Int} {i : Int} (h : V.int i ∈ iV W) : i ∈ W := by
  obtain ⟨j, hj, e⟩ := List.mem_map.mp h
  cases e
  exact hj
theorem Wd.is {K : PySem.W.Frag} {H : Hp} {a : Addr} {L W : List Int} (h : Wd L W) (hL : Lt L) (s : SqT K H a (iV W)) : WdIs K H (.ref a) (some (iV W)) :=
  .tup s (by rw [List.length_map, h.len]; exact Nat.le_trans hL.len (by decide)) iV_vk fun i hi => h.sm i (iV_mem hi)
theorem od_mem : ∀ {L : List Int} {k i : Int}, i ∈ od k L → k ≤ i ∧ i < k + L.length
  | [], _, _, h => by cases h
  | d :: L, k, i, h => by
    have e : od k (d :: L) = if d % 2 = 1 then k :: od (k + 1) L else od (k + 1) L := rfl
    rw [e] at h
    rw [List.length_cons]
    by_cases c : d % 2 = 1
    · rw [if_pos c] at h
      rcases List.mem_cons.mp h with z | z
      · rw [z]
        omega
      · have := od_mem z
        omega
    · rw [if_neg c] at h
      have := od_mem h
      omega
theorem jst_sign {u v : List Int} : ∀ {O : List Int} {s k : Int}, jst u v O = some (s, k) → (s = 1 ∨ s = -1) ∧ 0 ≤ k
  | [], s, k, h => by
    have e : some ((1 : Int), (0 : Int)) = some (s, k) := h
    cases e
    exact ⟨.inl rfl, by decide⟩
  | i :: O, s, k, h => by
    have e : (jst u v O).bind (fun p => if at' v i = 1 then (if at' u i = 1 then none else some (if p.2 % 2 = 1 then -p.1 else p.1, p.2)) else (if at' u i = 1 then some (p.1, p.2 + 1) else some p)) = some (s, k) := h
    cases hj : jst u v O with
    | none => rw [hj] at e; cases e
    | some p =>
      obtain ⟨s', k'⟩ := p
      have ih := jst_sign hj
      rw [hj] at e
      simp only [Option.bind_some] at e
      split at e
      · split at e
        · cases e
        · split at e <;> (cases e; refine ⟨?_, ih.2⟩; omega)
      · split at e
        · cases e
          exact ⟨ih.1, by omega⟩
        · cases e
          exact ih
theorem unW_len {n : Nat} {x : V} : (unW n x).length = n := by
  unfold unW
  rw [List.length_map, List.length_range]
def stepW (L : List Int) (acc : Option (Int × List Int)) (i : Int) : Option (Int × List Int) :=
  acc.bind fun p => (jst p.2 (unW L.length (.int i)) (od 0 L)).map fun r => (p.1 * r.1, List.zipWith (· + ·) p.2 (unW L.length (.int i)))
def pst (L s : List Int) : Option (Int × List Int) := s.foldl (stepW L) (some (1, unW L.length .non))
theorem pst_none (L : List Int) : ∀ s : List Int, s.foldl (stepW L) none = none
  | [] => rfl
  | _ :: s => pst_none L s
def spChkW (K : PySem.W.Frag) : Sp := fun vs H Q _ => ∃ (a b : Addr) (L W : List Int), vs = [.ref a, .ref b] ∧ SqT K H a (iV L) ∧ Lt L ∧ SqT K H b (iV W) ∧ Wd L W ∧ ∀ H', Same H H' → Q .non H'
def spWDeg (K : PySem.W.Frag) (g : List Int → List Int → Int) : Sp := fun vs H Q _ => ∃ (a b : Addr) (L W : List Int), vs = [.ref a, .ref b] ∧ SqT K H a (iV L) ∧ Lt L ∧ SqT K H b (iV W) ∧ Wd L W ∧ ∀ H', Same H H' → Q (.int (g L W)) H'
def spProd (K : PySem.W.Frag) : Sp := fun vs H Q _ => ∃ (a b c : Addr) (L u v : List Int), vs = [.ref a, .ref b, .ref c] ∧ SqT K H a (iV L) ∧ Lt L ∧ SqT K H b (iV u) ∧ Wd L u ∧ SqT K H c (iV v) ∧ Wd L v ∧
  (jst u v (od 0 L) = none → ∀ H', Same H H' → Q .non H') ∧
  ∀ (s k : Int), jst u v (od 0 L) = some (s, k) → ∀ (H' : Hp) (p q : Addr), Same H H' → H' p = some (.tup [.int s, .ref q]) → H' q = some (.tup (iV (List.zipWith (· + ·) u v))) → Q (.ref p) H'
def spIsIx (K : PySem.W.Frag) : Sp := fun vs H Q _ => ∃ (a : Addr) (L : List Int) (i : Int), vs = [.ref a, .int i] ∧ SqT K H a (iV L) ∧ L.length ≤ 24 ∧ 0 ≤ i ∧ i < L.length ∧ Q (.bl true) H
def spIsIxs (K : PySem.W.Frag) : Sp := fun vs H Q _ => ∃ (a b : Addr) (L s : List Int), vs = [.ref a, .ref b] ∧ SqT K H a (iV L) ∧ L.length ≤ 24 ∧ SqT K H b (iV s) ∧ s.length ≤ 40 ∧ (∀ i ∈ s, 0 ≤ i ∧ i < L.length) ∧ ∀ H', Same H H' → Q (.bl true) H'
def spSort (K : PySem.W.Frag) : Sp := fun vs H Q _ => ∃ (a b : Addr) (L s : List Int), vs = [.ref a, .ref b] ∧ SqT K H a (iV L) ∧ Lt L ∧ SqT K H b (iV s) ∧ s.length ≤ 40 ∧ (∀ i ∈ s, 0 ≤ i ∧ i < L.length) ∧
  (pst L s = none → ∀ H', Same H H' → Q .non H') ∧
  ∀ (g : Int) (W : List Int), pst L s = some (g, W) → ∀ (H' : Hp) (p q : Addr), Same H H' → H' p = some (.tup [.int g, .ref q]) → SqT K H' q (iV W) → Q (.ref p) H'
theorem scChkW : FnScope ["letters", "word"] ["letters", "word"] (defScope sChkW) := ⟨rfl, rfl, rfl, by decide +kernel, rfl, by decide +kernel, by decide +kernel⟩
theorem scIsWord : FnScope ["letters", "value"] ["letters", "value"] (defScope sIsWord) := ⟨rfl, rfl, rfl, by decide +kernel, rfl, by decide +kernel, by decide +kernel⟩
theorem scWDeg : FnScope ["letters", "word"] ["letters", "word"] (defScope sWDeg) := ⟨rfl, rfl, rfl, by decide +kernel, rfl, by decide +kernel, by decide +kernel⟩
theorem scWLen : FnScope ["letters", "word"] ["letters", "word"] (defScope sWLen) := ⟨rfl, rfl, rfl, by decide +kernel, rfl, by decide +kernel, by decide +kernel⟩
theorem scWProd : FnScope ["letters", "one", "other"] ["letters", "one", "other"] (defScope sWProd) := ⟨rfl, rfl, rfl, by decide +kernel, rfl, by decide +kernel, by decide +kernel⟩
theorem scIsIx : FnScope ["letters", "value"] ["letters", "value"] (defScope sIsIndex) := ⟨rfl, rfl, rfl, by decide +kernel, rfl, by decide +kernel, by decide +kernel⟩
theorem scIsIxs : FnScope ["letters", "value", "index"] ["letters", "value"] (defScope sIsInds) := ⟨rfl, rfl, rfl, by decide +kernel, rfl, by decide +kernel, by decide +kernel⟩
theorem scSort : FnScope ["letters", "indices", "odds", "sign", "word", "index", "joined"] ["letters", "indices"] (defScope sSorted) := ⟨rfl, rfl, rfl, by decide +kernel, rfl, by decide +kernel, by decide +kernel⟩
section
variable {P : Program} {w : World} {K : PySem.W.Frag} {mg : Str → Option Value} {base : Heap} {fC fB fG fO fU fJ : Addr} {dC dB dG dO dU dJ : FuncData}
theorem ok_chkw {f : Addr} {fd : FuncData} (F : Fun K "check_word" "check_word" sChkW f fd) (gC : mg "check_letters" = some (.ref fC)) (kC : PySem.W.keepIn K (.ref fC) = true) (bC : Binds K dC ["letters"] []) (C : FnOk P w K mg base CX0 5 fC dC ["letters"] (spChkL K))
    (gB : mg "is_passed_word" = some (.ref fB)) (kB : PySem.W.keepIn K (.ref fB) = true) (bB : Binds K dB ["letters", "value"] []) (B : FnOk P w K mg base CX0 3 fB dB ["letters", "value"] (spIsPass K)) : FnOk P w K mg base CX0 6 f fd ["letters", "word"] (spChkW K) := by
  refine F.ok scChkW (fun vs H Q E h => ?_) (fun cdv A outer s H vs Q E hr h => ?_)
  · obtain ⟨a, b, L, W, rfl, _⟩ := h; rfl
  obtain ⟨a, b, L, W, rfl, ha, hL, hb, hW, k⟩ := h
  have hr3 : Room 3 _ := hr.mono (by decide)
  refine ⟨_, pss_cons (ps_expr (pe_call C hr (by rfl) gC kC bC .nil pass0 (pa_cons (pv 0) pa_nil)))
    (pss_one (ps_if (pt_not (pt_val (pe_call B hr3 (by rfl) gB kB bB .nil pass0 (pa_cons (pv 0) (pa_cons (pv 1) pa_nil))))) pss_never pss_nil)), ?_⟩
  refine ⟨_, rfl, a, L, rfl, ha, hL, fun H1 s1 => ⟨_, rfl, _, rfl, a, L, _, some (iV W), rfl, tupSame s1 ha, hL, hW.is hL (tupSame s1 hb), fun H2 s2 => ⟨_, rfl, ?_⟩⟩⟩
  rw [hW.ok]
  exact iteF (k H2 (s1.trans s2))
theorem ok_isword {f : Addr} {fd : FuncData} (F : Fun K "is_word" "is_word" sIsWord f fd) (gC : mg "check_letters" = some (.ref fC)) (kC : PySem.W.keepIn K (.ref fC) = true) (bC : Binds K dC ["letters"] []) (C : FnOk P w K mg base CX0 5 fC dC ["letters"] (spChkL K))
    (gB : mg "is_passed_word" = some (.ref fB)) (kB : PySem.W.keepIn K (.ref fB) = true) (bB : Binds K dB ["letters", "value"] []) (B : FnOk P w K mg base CX0 3 fB dB ["letters", "value"] (spIsPass K)) : FnOk P w K mg base CX0 6 f fd ["letters", "value"] (spIsPass K) := by
  refine F.ok scIsWord (fun vs H Q E h => ?_) (fun cdv A outer s H vs Q E hr h => ?_)
  · obtain ⟨a, L, x, o, rfl, _⟩ := h; rfl
  obtain ⟨a, L, x, o, rfl, ha, hL, hx, k⟩ := h
  have hr3 : Room 3 _ := hr.mono (by decide)
  refine ⟨_, pss_cons (ps_expr (pe_call C hr (by rfl) gC kC bC .nil pass0 (pa_cons (pv 0) pa_nil))) (pss_one (ps_ret (pe_call B hr3 (by rfl) gB kB bB .nil pass0 (pa_cons (pv 0) (pa_cons (pv 1) pa_nil))))), ?_⟩
  exact ⟨_, rfl, a, L, rfl, ha, hL, fun H1 s1 => ⟨_, rfl, _, rfl, a, L, _, o, rfl, tupSame s1 ha, hL, hx.mono s1, fun H2 s2 => k H2 (s1.trans s2)⟩⟩
theorem ok_wdeg {f : Addr} {fd : FuncData} (F : Fun K "word_degree" "word_degree" sWDeg f fd) (gC : mg "check_word" = some (.ref fC)) (kC : PySem.W.keepIn K (.ref fC) = true) (bC : Binds K dC ["letters", "word"] []) (C : FnOk P w K mg base CX0 6 fC dC ["letters", "word"] (spChkW K))
    (gB : mg "degree_of" = some (.ref fB)) (kB : PySem.W.keepIn K (.ref fB) = true) (bB : Binds K dB ["letters", "word"] []) (B : FnOk P w K mg base CX0 1 fB dB ["letters", "word"] (spDeg K)) : FnOk P w K mg base CX0 7 f fd ["letters", "word"] (spWDeg K dgz) := by
  refine F.ok scWDeg (fun vs H Q E h => ?_) (fun cdv A outer s H vs Q E hr h => ?_)
  · obtain ⟨a, b, L, W, rfl, _⟩ := h; rfl
  obtain ⟨a, b, L, W, rfl, ha, hL, hb, hW, k⟩ := h
  have hr1 : Room 1 _ := hr.mono (by decide)
  refine ⟨_, pss_cons (ps_expr (pe_call C hr (by rfl) gC kC bC .nil pass0 (pa_cons (pv 0) (pa_cons (pv 1) pa_nil)))) (pss_one (ps_ret (pe_call B hr1 (by rfl) gB kB bB .nil pass0 (pa_cons (pv 0) (pa_cons (pv 1) pa_nil))))), ?_⟩
  exact ⟨_, rfl, _, rfl, a, b, L, W, rfl, ha, hL, hb, hW, fun H1 s1 => ⟨_, rfl, _, rfl, a, b, L, W, rfl, tupSame s1 ha, tupSame s1 hb, hL, hW.sm, fun H2 s2 => k H2 (s1.trans s2)⟩⟩
theorem ok_wlen {f : Addr} {fd : FuncData} (F : Fun K "word_length" "word_length" sWLen f fd) (gC : mg "check_word" = some (.ref fC)) (kC : PySem.W.keepIn K (.ref fC) = true) (bC : Binds K dC ["letters", "word"] []) (C : FnOk P w K mg base CX0 6 fC dC ["letters", "word"] (spChkW K))
    (gB : mg "length_of" = some (.ref fB)) (kB : PySem.W.keepIn K (.ref fB) = true) (bB : Binds K dB ["word"] []) (B : FnOk P w K mg base CX0 1 fB dB ["word"] (spLen K)) : FnOk P w K mg base CX0 7 f fd ["letters", "word"] (spWDeg K fun _ W => W.sum) := by
  refine F.ok scWLen (fun vs H Q E h => ?_) (fun cdv A outer s H vs Q E hr h => ?_)
  · obtain ⟨a, b, L, W, rfl, _⟩ := h; rfl
  obtain ⟨a, b, L, W, rfl, ha, hL, hb, hW, k⟩ := h
  have hr1 : Room 1 _ := hr.mono (by decide)
  refine ⟨_, pss_cons (ps_expr (pe_call C hr (by rfl) gC kC bC .nil pass0 (pa_cons (pv 0) (pa_cons (pv 1) pa_nil)))) (pss_one (ps_ret (pe_call B hr1 (by rfl) gB kB bB .nil pass0 (pa_cons (pv 1) pa_nil)))), ?_⟩
  exact ⟨_, rfl, _, rfl, a, b, L, W, rfl, ha, hL, hb, hW, fun H1 s1 => ⟨_, rfl, b, W, rfl, tupSame s1 hb, k H1 s1⟩⟩
theorem ok_wprod {f : Addr} {fd : FuncData} (F : Fun K "word_product" "word_product" sWProd f fd) (gC : mg "check_word" = some (.ref fC)) (kC : PySem.W.keepIn K (.ref fC) = true) (bC : Binds K dC ["letters", "word"] []) (C : FnOk P w K mg base CX0 6 fC dC ["letters", "word"] (spChkW K))
    (gO : mg "odd_indices" = some (.ref fO)) (kO : PySem.W.keepIn K (.ref fO) = true) (bO : Binds K dO ["letters"] []) (O : FnOk P w K mg base CX0 1 fO dO ["letters"] (spOddsW K)) (gJ : mg "joined_words" = some (.ref fJ)) (kJ : PySem.W.keepIn K (.ref fJ) = true) (bJ : Binds K dJ ["odds", "one", "other"] [])
    (J : FnOk P w K mg base CX0 1 fJ dJ ["odds", "one", "other"] (spJoin K)) : FnOk P w K mg base CX0 7 f fd ["letters", "one", "other"] (spProd K) := by
  refine F.ok scWProd (fun vs H Q E h => ?_) (fun cdv A outer s H vs Q E hr h => ?_)
  · obtain ⟨a, b, c, L, u, v, rfl, _⟩ := h; rfl
  obtain ⟨a, b, c, L, u, v, rfl, ha, hL, hb, hu, hc, hv, kn, ks⟩ := h
  have hr1 : Room 1 _ := hr.mono (by decide)
  refine ⟨_, pss_cons (ps_expr (pe_call C hr (by rfl) gC kC bC .nil pass0 (pa_cons (pv 0) (pa_cons (pv 1) pa_nil)))) (pss_cons (ps_expr (pe_call C hr (by rfl) gC kC bC .nil pass0 (pa_cons (pv 0) (pa_cons (pv 2) pa_nil))))
    (pss_one (ps_ret (pe_call J hr1 (by rfl) gJ kJ bJ .nil pass0 (pa_cons (pe_call O hr1 (by rfl) gO kO bO .nil pass0 (pa_cons (pv 0) pa_nil)) (pa_cons (pv 1) (pa_cons (pv 2) pa_nil))))))), ?_⟩
  refine ⟨_, rfl, _, rfl, a, b, L, u, rfl, ha, hL, hb, hu, fun H1 s1 => ⟨_, rfl, _, rfl, a, c, L, v, rfl, tupSame s1 ha, hL, tupSame s1 hc, hv, fun H2 s2 => ?_⟩⟩
  have s12 := s1.trans s2
  refine ⟨_, rfl, a, L, rfl, tupSame s12 ha, hL.len, fun H3 o s3 ho => ?_⟩
  have s13 := s12.trans s3
  refine ⟨_, rfl, _, rfl, o, b, c, od 0 L, u, v, rfl, SqT.of ho, tupSame s13 hb, tupSame s13 hc, by rw [hu.len]; exact hL.len, by rw [hu.len, hv.len], fun i hi => ?_, fun hn H4 s4 => kn hn H4 (s13.trans s4), fun g k hj H4 p q s4 hp hq => ks g k hj H4 p q (s13.trans s4) hp hq⟩
  have := od_mem hi
  rw [hu.len]
  omega
theorem ok_isix {f : Addr} {fd : FuncData} (F : Fun K "is_index" "is_index" sIsIndex f fd) (T : Txt K mg) (gB : mg "is_between" = some (.ref fB)) (kB : PySem.W.keepIn K (.ref fB) = true) (bB : Binds K dB ["value", "least", "most"] []) (B : FnOk P w K mg base CX0 3 fB dB ["value", "least", "most"] (spBetw K)) :
    FnOk P w K mg base CX0 4 f fd ["letters", "value"] (spIsIx K) := by
  refine F.ok scIsIx (fun vs H Q E h => ?_) (fun cdv A outer s H vs Q E hr h => ?_)
  · obtain ⟨a, L, i, rfl, _⟩ := h; rfl
  obtain ⟨a, L, i, rfl, ha, hn, h0, h1, k⟩ := h
  refine ⟨_, pss_one (ps_ret (pe_call B hr (by rfl) gB kB bB .nil pass0 (pa_cons (pv 1) (pa_cons pe_int (pa_cons (pe_op op_sub (pe_callB call_len_seq (by rfl) T.len PySem.boot_len (pa_cons (pv 0) pa_nil)) pe_int) pa_nil))))), ?_⟩
  have e : betw (.int i) 0 (((iV L).length : Nat) - 1) = true := by
    show ((decide (-(10 ^ 60) < i) && decide (i < 10 ^ 60)) && (decide (0 ≤ i) && decide (i ≤ ((iV L).length : Nat) - 1))) = true
    rw [List.length_map, decide_eq_true (by omega), decide_eq_true (by omega), decide_eq_true (by omega), decide_eq_true (by omega)]
    rfl
  refine ⟨_, rfl, _, rfl, a, _, rfl, .inr ha, _, _, rfl, rfl, _, 0, _, rfl, .int i, ?_⟩
  rw [e]
  exact k
theorem ok_isixs {f : Addr} {fd : FuncData} (F : Fun K "_is_indices" "_is_indices" sIsInds f fd) (T : Txt K mg) (gB : mg "is_index" = some (.ref fB)) (kB : PySem.W.keepIn K (.ref fB) = true) (bB : Binds K dB ["letters", "value"] []) (B : FnOk P w K mg base CX0 4 fB dB ["letters", "value"] (spIsIx K)) :
    FnOk P w K mg base CX0 5 f fd ["letters", "value"] (spIsIxs K) := by
  refine F.ok scIsIxs (fun vs H Q E h => ?_) (fun cdv A outer s H vs Q E hr h => ?_)
  · obtain ⟨a, b, L, s, rfl, _⟩ := h; rfl
  obtain ⟨a, b, L, xs, rfl, ha, hn, hb, hl, hx, k⟩ := h
  obtain ⟨t1, m1⟩ := T.cMAXINDICES
  refine ⟨_, pss_cons (ps_if (PW.pt (pw_or (pt_not (pt_val (pe_callB call_isi (by rfl) T.isi bootIsi (pa_cons (pv 1) (pa_cons (pe_bltn (v := .ty "tuple") (by rfl) T.tuple bootTuple rfl) pa_nil)))))
        (pw_or1 (pt_cmpR op_gt (pe_callB call_len_seq (by rfl) T.len PySem.boot_len (pa_cons (pv 1) pa_nil)) (pe_glob (v := .int 40) (by rfl) m1 ⟨_, rfl⟩) (nomark _))))) (pss_one (ps_ret pe_bl)) pss_nil)
    (pss_one (ps_ret (pe_callB (cr_all rfl) (by rfl) T.all bootAll (pa_cons (pe_lc (own := [("index", 2)]) (g := gName 2) rfl scIsIxs.nd (pi_tup (pv 1)) (blkOk_by (N := ["letters", "value", "index"]) (sc := defScope sIsInds) (by decide +kernel)) (fun _ _ _ _ _ => pg_name (i := 2) scIsIxs.nd rfl (Or.inl rfl)) (fun _ _ _ _ _ => pts_nil)
      (fun _ _ _ _ _ => pe_call B hr (by rfl) gB kB bB .nil pass0 (by exact (pa_cons (pv 0) (pa_cons (pv 2) pa_nil))))) pa_nil)))), ?_⟩
  refine ⟨_, rfl, _, _, _, _, true, rfl, .ty "tuple", tyT hb, kit_ty (by decide +kernel), _, rfl, iteF ⟨_, rfl, _, _, rfl, .inr hb, _, _, rfl, rfl, _, rfl, ?_⟩⟩
  have lx : (iV xs).length = xs.length := List.length_map _
  rw [decide_eq_false (by omega)]
  refine iteF ⟨_, rfl, b, rfl, ⟨_, hb⟩, fun D hD => lc_tup1 (fun _ => V.bl true) hD hb (by omega) (fun _ => rfl) (fun m x H1 Q1 h1 s1 q => ?_) fun H' s' h' => ?_⟩
  · rw [List.getElem?_map] at h1
    obtain ⟨i, hi, rfl⟩ := Option.map_eq_some_iff.mp h1
    have io := hx i (List.mem_of_getElem? hi)
    exact ⟨_, rfl, _, rfl, a, L, i, rfl, tupSame s1 ha, hn, io.1, io.2, q _ (Same.refl _)⟩
  · refine ⟨D, (iV xs).map fun _ => true, rfl, SqL.of (by rw [h']; generalize iV xs = ys; rw [List.map_map]; rfl), ?_⟩
    have e : ((iV xs).map fun _ => true).all id = true := by
      rw [List.all_map, List.all_eq_true]
      intro x _
      rfl
    rw [e]
    exact k H' s'
theorem ok_sort {f : Addr} {fd : FuncData} (F : Fun K "sorted_word" "sorted_word" sSorted f fd) (gC : mg "check_letters" = some (.ref fC)) (kC : PySem.W.keepIn K (.ref fC) = true) (bC : Binds K dC ["letters"] []) (C : FnOk P w K mg base CX0 5 fC dC ["letters"] (spChkL K))
    (gB : mg "_is_indices" = some (.ref fB)) (kB : PySem.W.keepIn K (.ref fB) = true) (bB : Binds K dB ["letters", "value"] []) (B : FnOk P w K mg base CX0 5 fB dB ["letters", "value"] (spIsIxs K))
    (gO : mg "odd_indices" = some (.ref fO)) (kO : PySem.W.keepIn K (.ref fO) = true) (bO : Binds K dO ["letters"] []) (O : FnOk P w K mg base CX0 1 fO dO ["letters"] (spOddsW K)) (gJ : mg "joined_words" = some (.ref fJ)) (kJ : PySem.W.keepIn K (.ref fJ) = true) (bJ : Binds K dJ ["odds", "one", "other"] [])
    (J : FnOk P w K mg base CX0 1 fJ dJ ["odds", "one", "other"] (spJoin K)) (gU : mg "unit_word" = some (.ref fU)) (kU : PySem.W.keepIn K (.ref fU) = true) (bU : Binds K dU ["letters", "index"] []) (bU1 : Binds K dU ["letters", "index"] [.none]) (U : FnOk P w K mg base CX0 1 fU dU ["letters", "index"] (spUnit K)) :
    FnOk P w K mg base CX0 6 f fd ["letters", "indices"] (spSort K) := by
  refine F.ok scSort (fun vs H Q E h => ?_) (fun cdv A outer s H vs Q E hr h => ?_)
  · obtain ⟨a, b, L, s, rfl, _⟩ := h; rfl
  obtain ⟨a, b, L, xs, rfl, ha, hL, hb, hl, hx, kn, ks⟩ := h
  have hr1 : Room 1 _ := hr.mono (by decide)
  refine ⟨_, pss_cons (ps_expr (pe_call C hr (by rfl) gC kC bC .nil pass0 (pa_cons (pv 0) pa_nil)))
    (pss_cons (ps_if (pt_not (pt_val (pe_call B hr (by rfl) gB kB bB .nil pass0 (pa_cons (pv 0) (pa_cons (pv 1) pa_nil))))) pss_never pss_nil)
    (pss_cons (ps_set (i := 2) scSort.nd rfl (.inl rfl) (pe_call O hr1 (by rfl) gO kO bO .nil pass0 (pa_cons (pv 0) pa_nil)))
    (pss_cons (ps_par (i := 3) (j := 4) rfl scSort.nd rfl rfl (by decide) rfl rfl (pa_cons pe_int (pa_cons (pe_call U hr1 (by rfl) gU kU bU1 (.cons (show RelV V.non Value.none from rfl) .nil) pass0 (pa_cons (pv 0) pa_nil)) pa_nil)) (by rfl))
    (pss_cons (ps_for PassesOwn.never rfl (pi_tup (pv 1)) (pg_name (i := 5) scSort.nd rfl (.inl rfl))
      (pss_cons (ps_set (i := 6) scSort.nd rfl (.inl rfl) (pe_call J hr1 (by rfl) gJ kJ bJ .nil pass0 (pa_cons (pv 2) (pa_cons (pv 4) (pa_cons (pe_call U hr1 (by rfl) gU kU bU .nil pass0 (pa_cons (pv 0) (pa_cons (pv 5) pa_nil))) pa_nil)))))
      (pss_cons (ps_if (pt_cmp (pc_isN (pv 6))) (pss_one (ps_ret pe_non)) pss_nil)
      (pss_one (ps_par (i := 3) (j := 4) rfl scSort.nd rfl rfl (by decide) rfl rfl (pa_cons (pe_op op_mul (pv 3) (pe_ix ix_tup (pv 6) pe_int (fun _ _ => rfl))) (pa_cons (pe_ix ix_tup (pv 6) pe_int (fun _ _ => rfl)) pa_nil)) (by rfl))))))
    (pss_one (ps_ret (pe_tup (pa_cons (pv 3) (pa_cons (pv 4) pa_nil))))))))), ?_⟩
  refine ⟨_, rfl, a, L, rfl, ha, hL, fun H1 s1 => ⟨_, rfl, _, rfl, a, b, L, xs, rfl, tupSame s1 ha, hL.len, tupSame s1 hb, hl, hx, fun H2 s2 => ⟨_, rfl, iteF ?_⟩⟩⟩
  have s12 := s1.trans s2
  refine ⟨_, rfl, a, L, rfl, tupSame s12 ha, hL.len, fun H3 o s3 ho => ?_⟩
  have s13 := s12.trans s3
  refine ⟨_, rfl, a, L, .non, rfl, tupSame s13 ha, hL.len, .inl rfl, fun H4 q s4 hq => ?_⟩
  have s14 := s13.trans s4
  have ho4 := s4 _ _ ho
  refine ⟨_, _, rfl, _, rfl, b, rfl, ⟨_, tupSame s14 hb⟩, ?_⟩
  have lx : (iV xs).length = xs.length := List.length_map _
  refine for_it (walk_tup (xs := iV xs)) (fun n σ H' => ∃ (g : Int) (W : List Int) (q : Addr) (o5 o6 : Option V), σ = [some (.ref a), some (.ref b), some (.ref o), some (.int g), some (.ref q), o5, o6] ∧ Same H4 H' ∧ SqT K H' q (iV W) ∧ W.length = L.length ∧ (g = 1 ∨ g = -1) ∧ (xs.take n).foldl (stepW L) (some (1, unW L.length .non)) = some (g, W))
    ⟨1, _, q, none, none, rfl, Same.refl _, SqT.of hq, unW_len, .inl rfl, rfl⟩ (fun n σ H' _ p => ?_) (fun n x σ H5 H6 hn p y => ?_) fun σ H' p => ?_
  · obtain ⟨g, W, q, o5, o6, rfl, s5, _⟩ := p
    exact tupSame (s14.trans s5) hb
  · obtain ⟨g, W, q, o5, o6, rfl, s5, hw, lw, g1, hf⟩ := p
    obtain ⟨rfl, hxi⟩ := y
    rw [List.getElem?_map] at hxi
    obtain ⟨i, hi, rfl⟩ := Option.map_eq_some_iff.mp hxi
    have io := hx i (List.mem_of_getElem? hi)
    have s15 := s14.trans s5
    refine ⟨_, rfl, _, rfl, _, rfl, _, rfl, a, L, .int i, rfl, tupSame s15 ha, hL.len, .inr ⟨i, rfl⟩, fun H7 r s7 hr7 => ?_⟩
    have s17 := s15.trans s7
    have ef : (xs.take (n + 1)).foldl (stepW L) (some (1, unW L.length .non)) = stepW L (some (g, W)) i := by
      rw [take_more hi, List.foldl_append, hf]
      rfl
    have es : stepW L (some (g, W)) i = (jst W (unW L.length (.int i)) (od 0 L)).map fun r => (g * r.1, List.zipWith (· + ·) W (unW L.length (.int i))) := rfl
    refine ⟨o, q, r, od 0 L, W, unW L.length (.int i), rfl, SqT.of ((s5.trans s7) _ _ ho4), tupSame s7 hw, SqT.of hr7, by rw [lw]; exact hL.len, by rw [lw, unW_len], fun j hj => by have := od_mem hj; rw [lw]; omega, fun hn8 H8 s8 => ?_, fun g' k' hj H8 p8 q8 s8 hp hq8 => ?_⟩
    · refine ⟨_, rfl, _, rfl, ?_⟩
      rw [decide_eq_true rfl]
      refine iteT (B := True) (kn ?_ _ (s17.trans s8))
      rw [hn8] at es
      have et := List.take_append_drop (n + 1) xs
      unfold pst
      rw [← et, List.foldl_append, ef, es]
      exact pst_none L _
    · refine ⟨_, rfl, _, rfl, ?_⟩
      rw [decide_eq_false (fun z => nomatch z)]
      have gs := (jst_sign hj).1
      refine iteF ⟨_, rfl, _, rfl, p8, _, _, _, rfl, rfl, SqT.of hp, rfl, _, _, rfl, rfl, .inl ⟨by omega, by omega⟩, _, rfl, p8, _, _, _, rfl, rfl, SqT.of hp, rfl, ?_⟩
      refine ⟨_, _, rfl, g * g', _, q8, _, _, rfl, s5.trans (s7.trans s8), SqT.of hq8, ?_, ?_, ?_⟩
      · rw [List.length_zipWith, lw, unW_len, Nat.min_self]
      · rcases g1 with rfl | rfl <;> rcases gs with rfl | rfl <;> decide
      · rw [ef, es, hj]
        rfl
  · obtain ⟨g, W, q, o5, o6, rfl, s5, hw, lw, g1, hf⟩ := p
    rw [lx, List.take_length] at hf
    refine ⟨_, rfl, _, rfl, by show 2 ≤ sizeLine; decide, fun p hp => ?_⟩
    have s6 : Same H' (upd H' p (.tup [.int g, .ref q])) := Same.new hp
    exact ks g W hf _ p q ((s14.trans s5).trans s6) upd_same (tupSame s6 hw)
end
end K6
namespace K6
open PySem PySem.Spec PyProof.Rows L2 RZ
/-- letters and a word: which of them is wrong, if one is -/
def spChkWE (K : PySem.W.Frag) (C W : Addr) : Sp := fun vs H Q E => ∃ (x y : V) (b : Bool), vs = [x, y] ∧ LetIs K H x b ∧ (b = false → NilE E C H) ∧
  (b = true → ∃ (a : Addr) (L : List Int) (o : Option (List V)), x = .ref a ∧ SqT K H a (iV L) ∧ Lt L ∧ WdIs K H y o ∧ (wordB L o = false → NilE E W H) ∧ (wordB L o = true → ∀ H', Same H H' → Q .non H'))
/-- one of both wrong -/
def spBadLW (K : PySem.W.Frag) (C W : Addr) : Sp := fun vs H _ E => ∃ (x y : V) (b : Bool), vs = [x, y] ∧ LetIs K H x b ∧ (b = false → NilE E C H) ∧
  (b = true → ∃ (a : Addr) (L : List Int) (o : Option (List V)), x = .ref a ∧ SqT K H a (iV L) ∧ Lt L ∧ WdIs K H y o ∧ wordB L o = false ∧ NilE E W H)
theorem bad_chk {K : PySem.W.Frag} {C W : Addr} {x y : V} {b : Bool} {H : Hp} {Q : VK} {E : XK} (hx : LetIs K H x b) (k0 : b = false → NilE E C H) (k1 : b = true → ∃ (a : Addr) (L : List Int) (o : Option (List V)), x = .ref a ∧ SqT K H a (iV L) ∧ Lt L ∧ WdIs K H y o ∧ wordB L o = false ∧ NilE E W H) : spChkWE K C W [x, y] H Q E := by
  refine ⟨x, y, b, rfl, hx, k0, fun e => ?_⟩
  obtain ⟨a, L, o, r1, r2, r3, r4, r5, r6⟩ := k1 e
  exact ⟨a, L, o, r1, r2, r3, r4, fun _ => r6, fun z => by rw [r5] at z; cases z⟩
section
variable {P : Program} {w : World} {K : PySem.W.Frag} {mg : Str → Option Value} {base : Heap} {C W fC fB : Addr} {dC dB : FuncData}
theorem ok_chkwE {f : Addr} {fd : FuncData} (F : Fun K "check_word" "check_word" sChkW f fd) (ER : ErrTxt K mg "InvalidWord" W) (gC : mg "check_letters" = some (.ref fC)) (kC : PySem.W.keepIn K (.ref fC) = true) (bC : Binds K dC ["letters"] [])
    (FC : FnOk P w K mg base (L2.CX P w) 5 fC dC ["letters"] (spChkLE K C))
    (gB : mg "is_passed_word" = some (.ref fB)) (kB : PySem.W.keepIn K (.ref fB) = true) (bB : Binds K dB ["letters", "value"] []) (B : FnOk P w K mg base CX0 3 fB dB ["letters", "value"] (spIsPass K)) : FnOk P w K mg base (L2.CX P w) 6 f fd ["letters", "word"] (spChkWE K C W) := by
  refine F.okX scChkW (fun vs H Q E h => ?_) (fun cdv A outer s H vs Q E hr h => ?_)
  · obtain ⟨x, y, b, rfl, _⟩ := h; rfl
  obtain ⟨x, y, b, rfl, hx, k0, k1⟩ := h
  have hr3 : Room 3 _ := hr.mono (by decide)
  refine ⟨_, pss_cons (ps_expr (pe_call FC hr (by rfl) gC kC bC .nil (passes_call (E := E) (takes_of rfl rfl rfl rfl) (fun _ _ _ _ h => h)) (pa_cons (pv 0) pa_nil)))
    (pss_one (ps_if (pt_not (pt_val (pe_call B hr3 (by rfl) gB kB bB .nil pass0 (pa_cons (pv 0) (pa_cons (pv 1) pa_nil)))))
      (pss_one (ps_raise (W := fun cls d _ H => E cls d H) rfl (takes_of rfl rfl rfl rfl) (pmk_own PySem.F.excBase_ValueError ER.made ER.named ER.keepC (raises_own ER.isExc ER.isCls) (by rfl)))) pss_nil)), ?_⟩
  refine ⟨_, rfl, x, b, rfl, hx, k0, fun e H1 s1 => ?_⟩
  obtain ⟨a, L, o, rfl, ha, hL, hy, k2, k3⟩ := k1 e
  refine ⟨_, rfl, _, rfl, a, L, y, o, rfl, tupSame s1 ha, hL, hy.mono s1, fun H2 s2 => ⟨_, rfl, ?_⟩⟩
  cases z : wordB L o with
  | false => exact iteT (k2 z H2 (s1.trans s2))
  | true => exact iteF (k3 z H2 (s1.trans s2))
theorem ok_wdegBad {f : Addr} {fd : FuncData} (F : Fun K "word_degree" "word_degree" sWDeg f fd) (gC : mg "check_word" = some (.ref fC)) (kC : PySem.W.keepIn K (.ref fC) = true) (bC : Binds K dC ["letters", "word"] [])
    (FC : FnOk P w K mg base (L2.CX P w) 6 fC dC ["letters", "word"] (spChkWE K C W)) : FnOk P w K mg base (L2.CX P w) 7 f fd ["letters", "word"] (spBadLW K C W) := by
  refine F.okX scWDeg (fun vs H Q E h => ?_) (fun cdv A outer s H vs Q E hr h => ?_)
  · obtain ⟨x, y, b, rfl, _⟩ := h; rfl
  obtain ⟨x, y, b, rfl, hx, k0, k1⟩ := h
  refine ⟨_, pss_cons (ps_expr (pe_call FC hr (by rfl) gC kC bC .nil (passes_call (E := E) (takes_of rfl rfl rfl rfl) (fun _ _ _ _ h => h)) (pa_cons (pv 0) (pa_cons (pv 1) pa_nil)))) pss_never, ?_⟩
  refine ⟨_, rfl, _, rfl, x, y, b, rfl, hx, k0, fun e => ?_⟩
  obtain ⟨a, L, o, r1, r2, r3, r4, r5, r6⟩ := k1 e
  exact ⟨a, L, o, r1, r2, r3, r4, fun _ => r6, fun z => by rw [r5] at z; cases z⟩
theorem ok_wlenBad {f : Addr} {fd : FuncData} (F : Fun K "word_length" "word_length" sWLen f fd) (gC : mg "check_word" = some (.ref fC)) (kC : PySem.W.keepIn K (.ref fC) = true) (bC : Binds K dC ["letters", "word"] [])
    (FC : FnOk P w K mg base (L2.CX P w) 6 fC dC ["letters", "word"] (spChkWE K C W)) : FnOk P w K mg base (L2.CX P w) 7 f fd ["letters", "word"] (spBadLW K C W) := by
  refine F.okX scWLen (fun vs H Q E h => ?_) (fun cdv A outer s H vs Q E hr h => ?_)
  · obtain ⟨x, y, b, rfl, _⟩ := h; rfl
  obtain ⟨x, y, b, rfl, hx, k0, k1⟩ := h
  refine ⟨_, pss_cons (ps_expr (pe_call FC hr (by rfl) gC kC bC .nil (passes_call (E := E) (takes_of rfl rfl rfl rfl) (fun _ _ _ _ h => h)) (pa_cons (pv 0) (pa_cons (pv 1) pa_nil)))) pss_never, ?_⟩
  refine ⟨_, rfl, _, rfl, x, y, b, rfl, hx, k0, fun e => ?_⟩
  obtain ⟨a, L, o, r1, r2, r3, r4, r5, r6⟩ := k1 e
  exact ⟨a, L, o, r1, r2, r3, r4, fun _ => r6, fun z => by rw [r5] at z; cases z⟩
/-- the first word wrong, or the letters, or the second word -/
def spBadProd (K : PySem.W.Frag) (C W : Addr) : Sp := fun vs H _ E => ∃ (x y z : V) (b : Bool), vs = [x, y, z] ∧ LetIs K H x b ∧ (b = false → NilE E C H) ∧
  (b = true → ∃ (a : Addr) (L : List Int) (o o' : Option (List V)), x = .ref a ∧ SqT K H a (iV L) ∧ Lt L ∧ WdIs K H y o ∧ WdIs K H z o' ∧ (wordB L o && wordB L o') = false ∧ NilE E W H)
theorem ok_wprodBad {f : Addr} {fd : FuncData} (F : Fun K "word_product" "word_product" sWProd f fd) (gC : mg "check_word" = some (.ref fC)) (kC : PySem.W.keepIn K (.ref fC) = true) (bC : Binds K dC ["letters", "word"] [])
    (FC : FnOk P w K mg base (L2.CX P w) 6 fC dC ["letters", "word"] (spChkWE K C W)) : FnOk P w K mg base (L2.CX P w) 7 f fd ["letters", "one", "other"] (spBadProd K C W) := by
  refine F.okX scWProd (fun vs H Q E h => ?_) (fun cdv A outer s H vs Q E hr h => ?_)
  · obtain ⟨x, y, z, b, rfl, _⟩ := h; rfl
  obtain ⟨x, y, z, b, rfl, hx, k0, k1⟩ := h
  refine ⟨_, pss_cons (ps_expr (pe_call FC hr (by rfl) gC kC bC .nil (passes_call (E := E) (takes_of rfl rfl rfl rfl) (fun _ _ _ _ h => h)) (pa_cons (pv 0) (pa_cons (pv 1) pa_nil))))
    (pss_cons (ps_expr (pe_call FC hr (by rfl) gC kC bC .nil (passes_call (E := E) (takes_of rfl rfl rfl rfl) (fun _ _ _ _ h => h)) (pa_cons (pv 0) (pa_cons (pv 2) pa_nil)))) pss_never), ?_⟩
  refine ⟨_, rfl, _, rfl, x, y, b, rfl, hx, k0, fun e => ?_⟩
  obtain ⟨a, L, o, o', rfl, ha, hL, hy, hz, hb, kW⟩ := k1 e
  refine ⟨a, L, o, rfl, ha, hL, hy, fun _ => kW, fun e1 H1 s1 => ⟨_, rfl, _, rfl, .ref a, z, b, rfl, hx.mono s1, fun e2 => (k0 e2).mono s1, fun _ => ⟨a, L, o', rfl, tupSame s1 ha, hL, hz.mono s1, fun _ => kW.mono s1, fun e2 => ?_⟩⟩⟩
  rw [e1, e2] at hb
  cases hb
end
end K6
namespace K6
open PySem PySem.Spec PyProof.Rows L2 RZ
def spTopOp (K : PySem.W.Frag) (O : Addr) : Sp := fun vs H _ E => ∃ (a : Addr) (L : List Int), vs = [.ref a] ∧ SqT K H a (iV L) ∧ Lt L ∧ (par 1 0 L).length < L.length ∧ NilE E O H
/-- letters that are none, and any value -/
def spBadLV (K : PySem.W.Frag) (C : Addr) : Sp := fun vs H _ E => ∃ x y : V, vs = [x, y] ∧ LetIs K H x false ∧ NilE E C H
section
variable {P : Program} {w : World} {K : PySem.W.Frag} {mg : Str → Option Value} {base : Heap} {C O fC fL fO : Addr} {dC dL dO : FuncData}
theorem ok_topwOp {f : Addr} {fd : FuncData} (F : Fun K "top_word" "top_word" sTopW f fd) (T : Txt K mg) (ER : ErrTxt K mg "InvalidOperation" O) (gL : mg "check_letters" = some (.ref fL)) (kL : PySem.W.keepIn K (.ref fL) = true) (bL : Binds K dL ["letters"] [])
    (FL : FnOk P w K mg base CX0 5 fL dL ["letters"] (spChkL K)) (gO : mg "odd_indices" = some (.ref fO)) (kO : PySem.W.keepIn K (.ref fO) = true) (bO : Binds K dO ["letters"] [])
    (FO : FnOk P w K mg base CX0 1 fO dO ["letters"] (spPar K 1)) : FnOk P w K mg base (L2.CX P w) 6 f fd ["letters"] (spTopOp K O) := by
  refine F.okX scTopW (fun vs H Q E h => ?_) (fun cdv A outer s H vs Q E hr h => ?_)
  · obtain ⟨a, L, rfl, _⟩ := h; rfl
  obtain ⟨a, L, rfl, ha, hL, ho, k⟩ := h
  refine ⟨_, pss_cons (ps_expr (pe_call FL hr (by rfl) gL kL bL .nil pass0 (pa_cons (pv 0) pa_nil)))
    (pss_cons (ps_if (pt_cmpR op_lt (pe_callB call_len_seq (by rfl) T.len PySem.boot_len (pa_cons (pe_call (FO.mono (by decide)) hr (by rfl) gO kO bO .nil pass0 (pa_cons (pv 0) pa_nil)) pa_nil)) (pe_callB call_len_seq (by rfl) T.len PySem.boot_len (pa_cons (pv 0) pa_nil)) (nomark _))
      (pss_one (ps_raise (W := fun cls d _ H => E cls d H) rfl (takes_of rfl rfl rfl rfl) (pmk_own PySem.F.excBase_ValueError ER.made ER.named ER.keepC (raises_own ER.isExc ER.isCls) (by rfl)))) pss_nil) pss_never), ?_⟩
  have lL : (iV L).length = L.length := List.length_map _
  refine ⟨_, rfl, a, L, rfl, ha, hL, fun H0 s0 => ⟨_, rfl, a, L, rfl, tupSame s0 ha, hL, fun H1 p s1 h1 => ⟨p, _, rfl, .inr h1, _, rfl, a, _, rfl, .inr (tupSame (s0.trans s1) ha), _, _, rfl, rfl, _, rfl, ?_⟩⟩⟩
  rw [decide_eq_true (by rw [lL, List.length_map]; omega)]
  exact iteT (k H1 (s0.trans s1))
theorem ok_iswordBad {f : Addr} {fd : FuncData} (F : Fun K "is_word" "is_word" sIsWord f fd) (gL : mg "check_letters" = some (.ref fL)) (kL : PySem.W.keepIn K (.ref fL) = true) (bL : Binds K dL ["letters"] [])
    (FL : FnOk P w K mg base (L2.CX P w) 5 fL dL ["letters"] (spChkLE K C)) : FnOk P w K mg base (L2.CX P w) 6 f fd ["letters", "value"] (spBadLV K C) := by
  refine F.okX scIsWord (fun vs H Q E h => ?_) (fun cdv A outer s H vs Q E hr h => ?_)
  · obtain ⟨x, y, rfl, _⟩ := h; rfl
  obtain ⟨x, y, rfl, hx, k0⟩ := h
  refine ⟨_, pss_cons (ps_expr (pe_call FL hr (by rfl) gL kL bL .nil (passes_call (E := E) (takes_of rfl rfl rfl rfl) (fun _ _ _ _ h => h)) (pa_cons (pv 0) pa_nil))) pss_never, ?_⟩
  exact ⟨_, rfl, x, false, rfl, hx, fun _ => k0, fun z => nomatch z⟩
theorem ok_sortBadL {f : Addr} {fd : FuncData} (F : Fun K "sorted_word" "sorted_word" sSorted f fd) (gL : mg "check_letters" = some (.ref fL)) (kL : PySem.W.keepIn K (.ref fL) = true) (bL : Binds K dL ["letters"] [])
    (FL : FnOk P w K mg base (L2.CX P w) 5 fL dL ["letters"] (spChkLE K C)) : FnOk P w K mg base (L2.CX P w) 6 f fd ["letters", "indices"] (spBadLV K C) := by
  refine F.okX scSort (fun vs H Q E h => ?_) (fun cdv A outer s H vs Q E hr h => ?_)
  · obtain ⟨x, y, rfl, _⟩ := h; rfl
  obtain ⟨x, y, rfl, hx, k0⟩ := h
  refine ⟨_, pss_cons (ps_expr (pe_call FL hr (by rfl) gL kL bL .nil (passes_call (E := E) (takes_of rfl rfl rfl rfl) (fun _ _ _ _ h => h)) (pa_cons (pv 0) pa_nil))) pss_never, ?_⟩
  exact ⟨_, rfl, x, false, rfl, hx, fun _ => k0, fun z => nomatch z⟩
end
end K6
namespace LamY
open PySem PySem.Spec PyProof.Rows L2 LamX
/-! ### objects that are known as they are: lambdas and cells -/
abbrev KnownO (o : Obj) : HO := .frz o (.own 0)
abbrev lamQ (X : Cx) : Str := X.env.qual ++ ("<lambda>" : Str)
abbrev LamO (q : Str) (params : Arguments) (body : Expr) (scope : Scope) (cl : List (Str × Addr)) (pm : Value) (c' : Addr) (ctv : Value) : HO := KnownO (PySem.W.kla_obj "<lambda>" q params body scope cl pm c' ctv)
theorem known_ok {P : Program} {w : World} {H : Hp} {h : Heap} {a : Addr} {o : Obj} (e : h.get? a = some o) : ObjOk P w H h a (KnownO o) := ⟨e, o, e⟩
section
variable {X : Cx} {pins : List (Addr × Obj)} {σ : L2.St} {H : Hp} {s : Shared} {T : List (Addr × Str)} {c P : Addr} {params : Arguments} {body : Expr} {scope : Scope} {pos : Pos} {E Q : Value → Shared → Prop}
theorem tabs_known {H H1 : Hp} {f : Addr} {o : HO} (t : Tabs T H1) (n : H1 f = none) : Tabs T (upd H1 f o) := fun p hp => (t p hp).ext fun b u e => by
  rw [upd_ne (ne_of_none e n)]
  exact e
theorem lam_make3 (I : L2.Inv X pins σ H s) (TB : TabB X.base X.mg c P) (hcode : X.env.code = .ref c) (hm : (P, lamQ X) ∈ T) (hu : ∀ p ∈ T, p.1 = P → p.2 = lamQ X) (hT : Tabs T H) (hdef : defaultsOf params X.env = ([], []))
    (hfree : ∀ y ∈ scope.names, y.2 = NameKind.free → ∃ c, X.env.cells.lookup y.1 = some c)
    (h : ∀ (f c' : Addr) (pm ctv : Value) (H1 : Hp) (s' : Shared), L2.Inv X pins σ (upd H1 f (LamO (lamQ X) params body scope (cloFrom X.env.cells scope.names []) pm c' ctv)) s' → ExtN H H1 → Tabs T H1 → H1 f = none → H1 c' = some (CodeO c' (lamQ X)) → Q (.ref f) s') :
    wpAny (model X.prog X.w) X.A (eval (.Lambda params body scope pos) X.env) Q E s := by
  obtain ⟨ps, hP, ht, ha⟩ := hT _ hm
  have bP := Heap.BuiltinsAt.keeps TB.bm I.bk
  have hP' := I.hok P (.tbl ps) hP
  refine W.kla_eval hdef ?_
  cases hc : codeAmong pos ps.toList with
  | none =>
    refine W.kla_makeFunction (closure_ok hfree) I.ok.glob (Heap.Ns.keeps I.mod.glob I.bk) hcode (W.CodeHd.keeps TB.code I.bk) hP' ht hc TB.gP bP fun c' ctv h' tk hx hge hlt hrec htb => ?_
    obtain ⟨c2, oc, vs, t, e2, hoc, hd, hv⟩ := hrec
    cases e2
    have hsz : s.heap.objs.size ≤ h'.objs.size := Nat.le_trans hge (Nat.le_of_lt hlt)
    have nC : H c' = none := HOk.fresh I.hok hge
    have I1 := inv_table (t' := tk) I hP hx htb hge ⟨oc, vs, t, hoc, hd, hv⟩
    have nP : P ≠ c' := fun z => by rw [z] at hP; rw [hP] at nC; cases nC
    have hE : ExtN H (upd (upd H P (.tbl (ps ++ #[rawInt pos.line, rawInt pos.col, .ref c']))) c' (CodeO c' (lamQ X))) := fun b o e n => by
      rw [upd_ne (ne_of_none e nC), upd_ne fun z => n ps (Option.some.inj (e.symm.trans (by rw [z]; exact hP)))]
      exact e
    have nf : upd (upd H P (.tbl (ps ++ #[rawInt pos.line, rawInt pos.col, .ref c']))) c' (CodeO c' (lamQ X)) h'.objs.size = none := HOk.fresh I1.hok (Nat.le_refl _)
    have got : (h'.push (PySem.W.kla_obj "<lambda>" (lamQ X) params body scope (cloFrom X.env.cells scope.names []) ((X.mg "__name__").getD Value.none) c' ctv)).get? h'.objs.size = some (PySem.W.kla_obj "<lambda>" (lamQ X) params body scope (cloFrom X.env.cells scope.names []) ((X.mg "__name__").getD Value.none) c' ctv) := Heap.get?_push_size _ rfl
    refine h h'.objs.size c' _ ctv _ _ (I1.laid (t' := tk) (o := LamO (lamQ X) params body scope (cloFrom X.env.cells scope.names []) ((X.mg "__name__").getD Value.none) c' ctv) (fun b u q => Heap.get?_push_of_some _ q) (Nat.le_refl _) (known_ok got)) hE (fun p hp => ?_) nf upd_same
    by_cases hb : p.1 = P
    · rw [hu p hp hb, hb]
      refine ⟨ps ++ #[rawInt pos.line, rawInt pos.col, .ref c'], by rw [upd_ne nP]; exact upd_same, ?_, fun p' cv hcv => ?_⟩
      · rw [Array.toList_append]
        exact TriplesOk_snoc _ _ _ _ ht
      · rw [Array.toList_append] at hcv
        rcases among_app ps.toList ht hcv with z | z
        · obtain ⟨c3, e3, h3⟩ := ha p' cv z
          exact ⟨c3, e3, hE _ _ h3 fun ps q => by unfold CodeO at q; cases q⟩
        · exact ⟨c', z, upd_same⟩
    · obtain ⟨ps', a1, a2, a3⟩ := hT p hp
      have n1 : p.1 ≠ c' := fun z => by rw [z, nC] at a1; cases a1
      refine ⟨ps', by rw [upd_ne n1, upd_ne hb]; exact a1, a2, fun p' cv hcv => ?_⟩
      obtain ⟨c3, e3, h3⟩ := a3 p' cv hcv
      exact ⟨c3, e3, hE _ _ h3 fun ps q => by unfold CodeO at q; cases q⟩
  | some cv =>
    obtain ⟨c', rfl, hco⟩ := ha pos cv hc
    refine W.kla_makeFunctionHit (closure_ok hfree) I.ok.glob (Heap.Ns.keeps I.mod.glob I.bk) hcode (W.CodeHd.keeps TB.code I.bk) hP' ht hc bP fun ctv h' tk hx hsz => ?_
    have got : (h'.push (PySem.W.kla_obj "<lambda>" (lamQ X) params body scope (cloFrom X.env.cells scope.names []) ((X.mg "__name__").getD Value.none) c' ctv)).get? h'.objs.size = some (PySem.W.kla_obj "<lambda>" (lamQ X) params body scope (cloFrom X.env.cells scope.names []) ((X.mg "__name__").getD Value.none) c' ctv) := Heap.get?_push_size _ rfl
    exact h h'.objs.size c' _ ctv H _ (I.laid (t' := tk) (o := LamO (lamQ X) params body scope (cloFrom X.env.cells scope.names []) ((X.mg "__name__").getD Value.none) c' ctv) (fun b u q => Heap.get?_push_of_some _ (hx b u q)) hsz (known_ok got)) (ExtN.refl H) hT (HOk.fresh I.hok hsz) hco
end
end LamY
namespace LamY
open PySem PySem.Spec PyProof.Rows L2 LamX
/-! ### cells that are known for the time of a call -/
/-- H without what stands at C -/
def minus (C : List Addr) (H : Hp) : Hp := fun b => if b ∈ C then none else H b
/-- H with what HZ tells of C -/
def plus (C : List Addr) (HZ H : Hp) : Hp := fun b => if b ∈ C then HZ b else H b
theorem minus_in {C : List Addr} {H : Hp} {b : Addr} (h : b ∈ C) : minus C H b = none := if_pos h
theorem minus_out {C : List Addr} {H : Hp} {b : Addr} (h : b ∉ C) : minus C H b = H b := if_neg h
theorem plus_in {C : List Addr} {HZ H : Hp} {b : Addr} (h : b ∈ C) : plus C HZ H b = HZ b := if_pos h
theorem plus_out {C : List Addr} {HZ H : Hp} {b : Addr} (h : b ∉ C) : plus C HZ H b = H b := if_neg h
/-- all that stands at C is known -/
def AllK (C : List Addr) (H : Hp) : Prop := ∀ b ∈ C, ∃ o, H b = some (KnownO o)
theorem known_ne {o : Obj} {u : HO} (h : ∀ o', u ≠ KnownO o') : some (KnownO o) ≠ some u := fun e => h o (Option.some.inj e).symm
section
variable {P : Program} {w : World} {C fs ex : List Addr} {H HZ H2 Hx : Hp} {h h' : Heap}
theorem hok_minus (ok : HOk P w Hx h) (k : AllK C Hx) : HOk P w (minus C Hx) h := fun a o e => by
  have na : a ∉ C := fun z => by rw [minus_in z] at e; cases e
  rw [minus_out na] at e
  have out : ∀ {b : Addr} {u : HO}, (∀ o', u ≠ KnownO o') → Hx b = some u → minus C Hx b = some u := fun {b u} n q => by
    refine (minus_out fun z => ?_).trans q
    obtain ⟨o', e'⟩ := k b z
    rw [e'] at q
    exact known_ne n q
  exact (ok a o e).stay (fun b u _ q => q) (fun b q => out (fun o' z => nomatch z) q) (fun b xs q => out (fun o' z => nomatch z) q)
/-- what is known at C may be told on top of what tells nothing of C -/
theorem hok_plus (ok : HOk P w H h) (n : ∀ b ∈ C, H b = none) (k : ∀ b ∈ C, ∃ o, HZ b = some (KnownO o) ∧ h.get? b = some o) : HOk P w (plus C HZ H) h := fun a o e => by
  by_cases na : a ∈ C
  · rw [plus_in na] at e
    obtain ⟨o', e1, e2⟩ := k a na
    rw [e1] at e
    cases e
    exact known_ok e2
  · rw [plus_out na] at e
    have out : ∀ {b : Addr} {u : HO}, H b = some u → plus C HZ H b = some u := fun {b u} q => by
      refine (plus_out fun z => ?_).trans q
      rw [n b z] at q
      cases q
    exact (ok a o e).stay (fun b u _ q => q) (fun b q => out q) (fun b xs q => out q)
/-- behind a call, what was told of C for its time is left out again -/
theorem un_minus (un : Un fs ex (plus C HZ H) H2 h h') (n : ∀ b ∈ C, H b = none) (k : ∀ b ∈ C, ∃ o, HZ b = some (KnownO o) ∧ h.get? b = some o) (d : ∀ b ∈ C, b ∉ fs) (ok : HOk P w H2 h') : Un fs ex H (minus C H2) h h' := by
  have at_ : ∀ b ∈ C, ∃ o, H2 b = some (KnownO o) ∧ h.get? b = some o ∧ h'.get? b = some o := fun b hb => by
    obtain ⟨o, e1, e2⟩ := k b hb
    have z := un.frzs b o (.own 0) ((plus_in hb).trans e1)
    exact ⟨o, z, e2, (ok b _ z).1⟩
  have same : ∀ {b : Addr} {u : HO}, H b = some u → b ∉ C := fun {b u} e z => by rw [n b z] at e; cases e
  refine ⟨fun b o e hb nf ne => ?_, fun b o e hb f ne => ?_, fun b o e hb ne => ?_, un.there, fun b xs e => ?_, fun b o u e => ?_, fun b ps e => ?_⟩
  · by_cases c : b ∈ C
    · obtain ⟨o', _, e2, e3⟩ := at_ b c
      rw [e] at e2
      cases e2
      exact e3
    · exact un.keep b o e ((plus_out c).trans hb) nf ne
  · exact un.slot b o e ((plus_out fun c => d b c f).trans hb) f ne
  · by_cases c : b ∈ C
    · exact minus_in c
    · exact (minus_out c).trans (un.free b o e ((plus_out c).trans hb) ne)
  · exact (minus_out (same e)).trans (un.tups b xs ((plus_out (same e)).trans e))
  · exact (minus_out (same e)).trans (un.frzs b o u ((plus_out (same e)).trans e))
  · obtain ⟨more, z⟩ := un.tbls b ps ((plus_out (same e)).trans e)
    exact ⟨more, (minus_out (same e)).trans z⟩
/-- within a call, what is known at C is left out for the time of a lambda's body -/
theorem un_plus (un : Un fs ex (minus C HZ) H2 h h') (k : AllK C HZ) : Un fs ex HZ (plus C HZ H2) h h' := by
  have kn : ∀ {b : Addr} {u : HO}, (∀ o', u ≠ KnownO o') → HZ b = some u → b ∉ C := fun {b u} n q z => by
    obtain ⟨o', e'⟩ := k b z
    rw [e'] at q
    exact known_ne n q
  have nn : ∀ {b : Addr}, HZ b = none → b ∉ C := fun {b} e z => by
    obtain ⟨o', e'⟩ := k b z
    rw [e'] at e
    cases e
  refine ⟨fun b o e hb nf ne => un.keep b o e ((minus_out (nn hb)).trans hb) nf ne, fun b o e hb f ne => un.slot b o e ((minus_out (nn hb)).trans hb) f ne,
    fun b o e hb ne => (plus_out (nn hb)).trans (un.free b o e ((minus_out (nn hb)).trans hb) ne), un.there, fun b xs e => ?_, fun b o u e => ?_, fun b ps e => ?_⟩
  · have c := kn (u := .tup xs) (fun o' z => nomatch z) e
    exact (plus_out c).trans (un.tups b xs ((minus_out c).trans e))
  · by_cases c : b ∈ C
    · exact (plus_in c).trans e
    · exact (plus_out c).trans (un.frzs b o u ((minus_out c).trans e))
  · have c := kn (u := .tbl ps) (fun o' z => nomatch z) e
    obtain ⟨more, z⟩ := un.tbls b ps ((minus_out c).trans e)
    exact ⟨more, (plus_out c).trans z⟩
end
section
variable {P : Program} {w : World} {outer : List Env} {C : List Addr} {H HZ : Hp} {s s' : Shared} {Q : VK} {E : XK} {u e : Value}
theorem ce_minus (h : CE outer P w (plus C HZ H) s (fun v H2 => Q v (minus C H2)) u s') (n : ∀ b ∈ C, H b = none) (k : ∀ b ∈ C, ∃ o, HZ b = some (KnownO o) ∧ s.heap.get? b = some o) (d : ∀ b ∈ C, b ∉ frs outer) : CE outer P w H s Q u s' := by
  obtain ⟨v, H', os, bare, un, ok, rv, q⟩ := h
  refine ⟨v, minus C H', os, bare, un_minus un n k d ok, hok_minus ok fun b hb => ?_, rv, q⟩
  obtain ⟨o, e1, _⟩ := k b hb
  exact ⟨o, un.frzs b o (.own 0) ((plus_in hb).trans e1)⟩
theorem ce_plus (h : CE outer P w (minus C HZ) s (fun v H2 => Q v (plus C HZ H2)) u s') (ok0 : HOk P w HZ s.heap) (k : AllK C HZ) (d : ∀ b ∈ C, b ∉ frs outer) : CE outer P w HZ s Q u s' := by
  obtain ⟨v, H', os, bare, un, ok, rv, q⟩ := h
  refine ⟨v, plus C HZ H', os, bare, un_plus un k, hok_plus ok (fun b hb => ?_) (fun b hb => ?_), rv, q⟩
  · obtain ⟨o, e⟩ := k b hb
    exact un.free b o (ok0 b _ e).1 (minus_in hb) (by simp)
  · obtain ⟨o, e⟩ := k b hb
    exact ⟨o, e, un.keep b o (ok0 b _ e).1 (minus_in hb) (d b hb) (by simp)⟩
theorem cx_plus (h : L2.CX P w outer (minus C HZ) s (fun cls d H2 => (∀ b ∈ C, H2 b = none) → E cls d (plus C HZ H2)) e s') (ok0 : HOk P w HZ s.heap) (k : AllK C HZ) (dj : ∀ b ∈ C, b ∉ frs outer) : L2.CX P w outer HZ s E e s' := by
  obtain ⟨a, B, H', cls, d, rfl, fly, ok, ub, na, os, bare, q⟩ := h
  have at_ : ∀ b ∈ C, ∃ o, HZ b = some (KnownO o) ∧ s.heap.get? b = some o ∧ B.get? b = some o := fun b hb => by
    obtain ⟨o, e⟩ := k b hb
    have g := (ok0 b _ e).1
    exact ⟨o, e, g, ub.keep b o g (minus_in hb) (dj b hb)⟩
  have aC : a ∉ C := fun z => by
    obtain ⟨o, _, _, e⟩ := at_ a z
    rw [fly.2.1] at e
    cases e
  have kn : ∀ {b : Addr} {u : HO}, (∀ o', u ≠ KnownO o') → HZ b = some u → b ∉ C := fun {b u} n q z => by
    obtain ⟨o', e'⟩ := k b z
    rw [e'] at q
    exact known_ne n q
  have nn : ∀ {b : Addr}, HZ b = none → b ∉ C := fun {b} e z => by
    obtain ⟨o', e'⟩ := k b z
    rw [e'] at e
    cases e
  refine ⟨a, B, plus C HZ H', cls, d, rfl, fly, hok_plus ok (fun b hb => ?_) (fun b hb => ?_), ⟨fun b o e hb nf => ub.keep b o e ((minus_out (nn hb)).trans hb) nf, ub.slot, fun b o e hb => (plus_out (nn hb)).trans (ub.free b o e ((minus_out (nn hb)).trans hb)), ub.there,
    fun b xs e => ?_, fun b o u e => ?_, fun b ps e => ?_⟩, (plus_out aC).trans na, os, bare, q fun b hb => ?_⟩
  · obtain ⟨o, _, g, _⟩ := at_ b hb
    exact ub.free b o g (minus_in hb)
  · obtain ⟨o, e, _, g⟩ := at_ b hb
    exact ⟨o, e, g⟩
  · have c := kn (u := .tup xs) (fun o' z => nomatch z) e
    exact (plus_out c).trans (ub.tups b xs ((minus_out c).trans e))
  · by_cases c : b ∈ C
    · exact (plus_in c).trans e
    · exact (plus_out c).trans (ub.frzs b o u ((minus_out c).trans e))
  · have c := kn (u := .tbl ps) (fun o' z => nomatch z) e
    obtain ⟨more, z⟩ := ub.tbls b ps ((minus_out c).trans e)
    exact ⟨more, (plus_out c).trans z⟩
  · obtain ⟨o, _, g, _⟩ := at_ b hb
    exact ub.free b o g (minus_in hb)
end
end LamY
namespace LamY
open PySem PySem.Spec PyProof.Rows L2 LamX
/-! ### a lambda's body, begun wherever the lambda is known -/
abbrev cellsOf (X : Cx) : List Addr := X.env.cells.map (·.2)
theorem cell_in {X : Cx} {x : Str} {c : Addr} (h : X.env.cells.lookup x = some c) : c ∈ cellsOf X := List.mem_map.mpr ⟨(x, c), PySem.mem_of_lookup h, rfl⟩
theorem allK_free {C : List Addr} {H : Hp} {outer : List Env} (k : AllK C H) (f : ∀ b ∈ frs outer, H b = none) : ∀ b ∈ C, b ∉ frs outer := fun b hb z => by
  obtain ⟨o, e⟩ := k b hb
  rw [f b z] at e
  cases e
theorem env0_minus {P : Program} {w : World} {K : PySem.W.Frag} {mg : Str → Option Value} {base : Heap} {A : Around} {outer : List Env} {s : Shared} {HZ : Hp} {C : List Addr} (e : Env0 P w K mg base A outer s HZ) (k : AllK C HZ) : Env0 P w K mg base A outer s (minus C HZ) := by
  have m : ∀ {b : Addr}, HZ b = none → minus C HZ b = none := fun {b} z => by
    unfold minus
    split
    · rfl
    · exact z
  exact ⟨e.frames, e.mod, fun b o q => ⟨(e.bs b o q).1, m (e.bs b o q).2⟩, e.bsz, e.funs, fun b hb => m (e.frf b hb), hok_minus e.hok k, e.bare⟩
/-- what is told of a variable's cell -/
def CellV (X : Cx) (σ : L2.St) (H : Hp) : Prop := ∀ (i : Nat) (x : Str) (v : V) (c : Addr), X.N[i]? = some x → σ[i]? = some (some v) → X.env.cells.lookup x = some c → ∃ o u, H c = some (KnownO o) ∧ o.data = .cell (some u) ∧ L2.RelV v u
/-- all cells are known -/
def CellK (X : Cx) (H : Hp) : Prop := ∀ b ∈ cellsOf X, ∃ o v, H b = some (KnownO o) ∧ o.data = .cell v
theorem CellK.all {X : Cx} {H : Hp} (h : CellK X H) : AllK (cellsOf X) H := fun b hb => by
  obtain ⟨o, _, e, _⟩ := h b hb
  exact ⟨o, e⟩
theorem lam_start3 {X : Cx} {σ : L2.St} {HZ : Hp} {s1 : Shared} {A : Around} {outer : List Env} {E : XK} {scope : Scope} {f c' : Addr} {h₁ : Heap} {tk : Nat} (L : LamS X.env.scope scope)
    (inj : ∀ (x y : Str) (c : Addr), X.env.cells.lookup x = some c → X.env.cells.lookup y = some c → x = y) (hfree : ∀ y ∈ scope.names, y.2 = NameKind.free → ∃ c, X.env.cells.lookup y.1 = some c) (len : σ.length = X.N.length)
    (e0 : Env0 X.prog X.w X.K X.mg X.base A outer s1 HZ) (hd : A.handled = none) (ck : CellK X HZ) (cv : CellV X σ HZ) (hns : h₁.Ns s1.heap.objs.size fun y => [].reverse.lookup y) (kp : ∀ (b : Addr) (o : Obj), s1.heap.get? b = some o → h₁.get? b = some o) :
    L2.Inv (lamCx X A outer s1 (minus (cellsOf X) HZ) E scope f c') [] σ (minus (cellsOf X) HZ) { heap := h₁, gens := s1.gens, drawn := s1.drawn, toks := tk, os := s1.os } := by
  have em := env0_minus e0 ck.all
  have cm : ∀ {y : Str} {c : Addr}, (cloFrom X.env.cells scope.names []).lookup y = some c → X.env.cells.lookup y = some c := fun {y c} e => by
    rcases cloFrom_mem (PySem.mem_of_lookup e) with hm | ⟨h1, h2⟩
    · cases hm
    · obtain ⟨c1, hc⟩ := hfree (y, .free) h1 rfl
      have hc : X.env.cells.lookup y = some c1 := hc
      rw [h2, hc]
      rfl
  have look : ∀ {y : Str}, scope.names.lookup y = some NameKind.free → ∃ c, (cloFrom X.env.cells scope.names []).lookup y = some c := fun {y} hl => mem_lookup (cloFrom_has (PySem.mem_of_lookup hl))
  have noA : ∀ b : Addr, b ∉ ([] : List Addr) := fun b z => nomatch z
  have cellAt : ∀ {c : Addr} {o : Obj}, HZ c = some (KnownO o) → h₁.get? c = some o := fun {c o} e => kp c o (e0.hok c _ e).1
  refine { ok := ?_, os := rfl, bare := e0.bare, base := Un.kept kp, loc := ?_, cell := ?_, free := ?_, freeC := ?_, pin := ?_, hok := ?_, len := len }
  · have has' : ∀ y : Str, (lamEnv X scope s1.heap.objs.size f c').kindOf y = some .cell ∨ (lamEnv X scope s1.heap.objs.size f c').kindOf y = some .free → ∃ c, (lamEnv X scope s1.heap.objs.size f c').cells.lookup y = some c := fun y hy => by
      rcases hy with hy | hy
      · exact absurd rfl (L.own (y, .cell) (PySem.mem_of_lookup hy)).2
      · exact look hy
    exact ⟨e0.mod, L.kind, rfl, rfl, Nat.le_refl s1.heap.objs.size, fun y z c e1 e2 => inj y z c (cm e1) (cm e2), has', fun y c z _ => (nomatch (show false = true from z)), fun _ => hd, Around.frames_deeper e0.frames, .inr ⟨rfl, rfl⟩, fun b z => absurd z (noA b), em.bs, e0.bsz, fun b _ _ => noA b, fun b z => absurd z (noA b), e0.funs, em.frf⟩
  · refine ⟨_, hns, fun i x v e1 e2 e3 => ?_⟩
    have k : scope.names.lookup x = some NameKind.free := by
      rcases e3 with k | k | k
      · exact absurd rfl (L.own (x, .local) (PySem.mem_of_lookup k)).1
      · exact absurd rfl (L.own (x, .cell) (PySem.mem_of_lookup k)).2
      · exact k
    obtain ⟨c2, h2⟩ := look k
    obtain ⟨o, u, g1, g2, g3⟩ := cv i x v c2 e1 e2 (cm h2)
    exact ⟨u, g3, .inr ⟨.inr k, c2, h2, o, cellAt g1, g2⟩⟩
  · intro x c e
    obtain ⟨o, v, g1, g2⟩ := ck c (cell_in (cm e))
    exact ⟨v, o, cellAt g1, g2⟩
  · exact HOk.fresh em.hok (Nat.le_refl _)
  · exact fun x c e => minus_in (cell_in (cm e))
  · exact fun p hp => nomatch hp
  · exact fun a o e => (em.hok a o e).stay (fun b u _ q => kp b u q) (fun _ q => q) (fun _ _ q => q)
/-- a lambda at f that may be called: tl tells what its body does -/
def LamIs (P : Program) (w : World) (K : PySem.W.Frag) (mg : Str → Option Value) (base : Heap) (k : Nat) (f : Addr) (tl : XK → Hp → VK → Prop) (H : Hp) : Prop :=
  ∃ (X : Cx) (params : Arguments) (body : Expr) (scope : Scope) (pm : Value) (c' : Addr) (ctv : Value) (σ : L2.St) (t : XK → TE), X.prog = P ∧ X.w = w ∧ X.K = K ∧ X.mg = mg ∧ X.base = base ∧
    H f = some (LamO (lamQ X) params body scope (cloFrom X.env.cells scope.names []) pm c' ctv) ∧ f ∉ cellsOf X ∧ H c' = some (CodeO c' (lamQ X)) ∧ LamS X.env.scope scope ∧
    (∀ (x y : Str) (c : Addr), X.env.cells.lookup x = some c → X.env.cells.lookup y = some c → x = y) ∧ (∀ y ∈ scope.names, y.2 = NameKind.free → ∃ c, X.env.cells.lookup y.1 = some c) ∧ σ.length = X.N.length ∧ CellK X H ∧ CellV X σ H ∧
    (∀ (q : Str) (cl : List (Str × Addr)) (pm cv ctv : Value), bindArgs (PySem.W.kla_fn "<lambda>" q params body scope cl pm cv ctv) {} = pure []) ∧
    (∀ (A : Around) (outer : List Env) (s : Shared) (H : Hp) (E : XK) (f c' : Addr), Room k (A.deeper (lamEnv X scope s.heap.objs.size f c')) → PE (lamCx X A outer s H E scope f c') body (t E)) ∧
    tl = fun E HZ Q => t (fun cls d H2 => (∀ b ∈ cellsOf X, H2 b = none) → E cls d (plus (cellsOf X) HZ H2)) σ (minus (cellsOf X) HZ) (fun v H2 => Q v (plus (cellsOf X) HZ H2))
theorem LamIs.mono {P : Program} {w : World} {K : PySem.W.Frag} {mg : Str → Option Value} {base : Heap} {k : Nat} {f : Addr} {tl : XK → Hp → VK → Prop} {H H' : Hp} (h : LamIs P w K mg base k f tl H) (s : Same H H') : LamIs P w K mg base k f tl H' := by
  obtain ⟨X, params, body, scope, pm, c', ctv, σ, t, h1, h2, h3, h4, h5, hf, hn, hc, L, inj, hfree, len, ck, cv, bd, hb, e⟩ := h
  refine ⟨X, params, body, scope, pm, c', ctv, σ, t, h1, h2, h3, h4, h5, s _ _ hf, hn, s _ _ hc, L, inj, hfree, len, fun b hb => ?_, fun i x v c e1 e2 e3 => ?_, bd, hb, e⟩
  · obtain ⟨o, v, g1, g2⟩ := ck b hb
    exact ⟨o, v, s _ _ g1, g2⟩
  · obtain ⟨o, u, g1, g2⟩ := cv i x v c e1 e2 e3
    exact ⟨o, u, s _ _ g1, g2⟩
theorem lam_runs {P : Program} {w : World} {K : PySem.W.Frag} {mg : Str → Option Value} {base : Heap} {k : Nat} {f : Addr} {tl : XK → Hp → VK → Prop} {HZ : Hp} {s1 : Shared} {A : Around} {outer : List Env} {E : XK} {Q : VK} (h : LamIs P w K mg base k f tl HZ)
    (e0 : Env0 P w K mg base A outer s1 HZ) (hr : Room (k + 1) A) (q : tl E HZ Q) : codeAny (model P w) A (.call (.ref f) ⟨[], []⟩) (CR (L2.CX P w) outer P w HZ s1 Q E) s1 := by
  obtain ⟨X, params, body, scope, pm, c', ctv, σ, t, rfl, rfl, rfl, rfl, rfl, hf, hn, hc, L, inj, hfree, len, ck, cv, bd, hb, rfl⟩ := h
  have of1 := (e0.hok f _ hf).1
  obtain ⟨⟨oc, vs, tt, hoc, hdc, hvc⟩, _⟩ := e0.hok c' _ hc
  have dj := allK_free ck.all e0.frf
  have lim : s1.heap.NoLimit := by
    obtain ⟨_, _, _, mc, h1, h2⟩ := e0.mod
    exact ⟨mc, Heap.Ns.keeps h1 (fun b o q => (e0.bs b o q).1), h2⟩
  refine PySem.W.kla_callFunE hr.depth of1 rfl L.co L.gen rfl ⟨c', oc, vs, tt, rfl, hoc, hdc, hvc⟩ ?_
  rw [bd]
  refine wpAny_pure (wpAny_newFunctionEnv (fun y hy => (L.own y hy).2) (fun y hy => absurd hy (by simp)) (fun h₁ hns hsb => ⟨Heap.NoLimit.fresh lim _ hsb, ?_⟩) L.kind)
  have kp : ∀ (b : Addr) (o : Obj), s1.heap.get? b = some o → h₁.get? b = some o := fun b o e => Heap.SameBut.extBut hsb b o (Nat.ne_of_lt (Heap.lt_size e)) (Heap.get?_push_of_some _ e)
  have J := lam_start3 (tk := s1.toks) (E := fun cls d H2 => (∀ b ∈ cellsOf X, H2 b = none) → E cls d (plus (cellsOf X) HZ H2)) (f := f) (c' := c') L inj hfree len e0 hr.hd ck cv hns kp
  refine PySem.W.kla_codeExpr (wpAny_mono ((hb A outer s1 (minus (cellsOf X) HZ) (fun cls d H2 => (∀ b ∈ cellsOf X, H2 b = none) → E cls d (plus (cellsOf X) HZ H2)) f c' (hr.deeper _)).run [] _ σ _ _ J q) (fun u s2 z => ?_) (fun e s2 z => ?_))
  · obtain ⟨v, H', J', rv, z⟩ := z
    exact ce_plus ⟨v, H', J'.os, J'.bare, J'.base, J'.hok, rv, z⟩ e0.hok ck.all dj
  · exact wpAny_mono z (fun _ s3 y => cx_plus y e0.hok ck.all dj) (fun e' s3 y => cx_plus y e0.hok ck.all dj)
/-- a() where a is a parameter that holds a lambda -/
theorem pe_actS {Z : Cx} {k i : Nat} {E : XK} {a : Str} {p1 p2 : Pos} (hps : Passes (L2.CX Z.prog Z.w) Z E) (hr : Room (k + 1) Z.A) (hN : Z.N[i]? = some a) (hv : Vis Z.env.scope a) (hd1 : (a == ("__debug__" : Str)) = false := by decide) (hd2 : (a == ("__classdict__" : Str)) = false := by decide) :
    PE Z (.Call (.Name a p1) [] [] p2) (fun σ H Q => ∃ f tl, σ[i]? = some (some (.ref f)) ∧ LamIs Z.prog Z.w Z.K Z.mg Z.base k f tl H ∧ tl E H Q) := by
  refine ⟨fun pins s σ H Q I h => ?_⟩
  obtain ⟨f, tl, hi, L, q⟩ := h
  refine wpAny_Call_Name_kw (thn ((pv (X := Z) (pos := p1) i hN hv hd1 hd2).run pins s σ H (fun v H1 => v = .ref f ∧ H1 = H) I ⟨_, hi, rfl, rfl⟩) fun u s1 z => ?_)
  obtain ⟨v, H1, I1, rv, rfl, rfl⟩ := z
  obtain rfl : u = Value.ref f := rv
  have e0 := I1.env0
  obtain ⟨X, params, body, scope, pm, c', ctv, σ', t, h1, h2, h3, h4, h5, hf, rest⟩ := L
  have of1 := (I1.hok f _ hf).1
  refine PySem.W.callWith_F0 ⟨_, _, _, _, of1⟩ ?_
  refine wpAny_call (codeAny_mono (lam_runs ⟨X, params, body, scope, pm, c', ctv, σ', t, h1, h2, h3, h4, h5, hf, rest⟩ e0 hr q) fun r s2 hq => ?_)
  cases r with
  | error e => exact hps pins σ _ s1 e s2 I1 hq
  | ok fl =>
    cases fl with
    | ret u => exact I1.after hq
    | next => exact hq.elim
    | brk => exact hq.elim
    | cont => exact hq.elim
end LamY
namespace LamY
open PySem PySem.Spec PyProof.Rows L2 LamX
/-! ### promises that lean on no repr being under way -/
structure FnG (P : Program) (w : World) (K : PySem.W.Frag) (mg : Str → Option Value) (base : Heap) (CX : CXT) (k : Nat) (f : Addr) (fd : FuncData) (ps : List Str) (sp : Sp) : Prop where
  len : ∀ vs H Q E, sp vs H Q E → vs.length = ps.length
  run : ∀ (A : Around) (outer : List Env) (s : Shared) (H : Hp) (args : Args) (us : List Value) (vs : List V) (Q : VK) (E : XK), A.guards = some [] → Room k A → Env0 P w K mg base A outer s H → BindsTo s fd args (ps.zip us) → Vals vs us → sp vs H Q E →
    codeAny (model P w) A (.call (.ref f) args) (CR CX outer P w H s Q E) s
theorem FnG.of {P : Program} {w : World} {K : PySem.W.Frag} {mg : Str → Option Value} {base : Heap} {CX : CXT} {k : Nat} {f : Addr} {fd : FuncData} {ps : List Str} {sp : Sp} (F : FnOk P w K mg base CX k f fd ps sp) : FnG P w K mg base CX k f fd ps sp :=
  ⟨F.len, fun A outer s H args us vs Q E _ => F.run A outer s H args us vs Q E⟩
theorem okG {P : Program} {w : World} {K : PySem.W.Frag} {mg : Str → Option Value} {base : Heap} {x qual : Str} {st : Stmt} {f : Addr} {fd : FuncData} {N ps : List Str} {k : Nat} {sp : Sp} (F : Fun K x qual st f fd) (sc : FnScope N ps (defScope st))
    (len : ∀ vs H Q E, sp vs H Q E → vs.length = ps.length)
    (hb : ∀ (cdv : Value) (A : Around) (outer : List Env) (s : Shared) (H : Hp) (vs : List V) (Q : VK) (E : XK), A.guards = some [] → Room k (A.deeper (envOfC qual (defScope st) s.heap.objs.size f cdv)) → sp vs H Q E →
      ∃ t, PSs (cxOf CX0 P w K mg base N qual (defScope st) f cdv A outer s H E).nox (defBody st) t ∧ t { nx := fun _ H' => Q .non H', rt := Q } (L2.start N vs) H) : FnG P w K mg base CX0 (k + 1) f fd ps sp := by
  obtain ⟨oc, od, kV, doc, pm, an, cdv, ct, osl, rfl, lk, hcd⟩ := F.ex
  refine ⟨len, fun A outer s H args us vs Q E hgd hr e0 hbd r h => run_ofS lk hcd sc hr e0 hbd r (len _ _ _ _ h) fun hr' => ?_⟩
  obtain ⟨t, h1, h2⟩ := hb cdv A outer s H vs Q E hgd hr' h
  exact ⟨t, h1.nox, h2⟩
/-! ### a lambda as a value -/
section
variable {X : Cx} {T : List (Addr × Str)} {c P : Addr}
/-- the new lambda is at f -/
def tLamV (X : Cx) (T : List (Addr × Str)) (params : Arguments) (body : Expr) (scope : Scope) : TE := fun _ H Q => Tabs T H ∧ ∀ (f c' : Addr) (pm ctv : Value) (H1 : Hp), ExtN H H1 → Tabs T H1 → H1 f = none → H1 c' = some (CodeO c' (lamQ X)) →
  Q (.ref f) (upd H1 f (LamO (lamQ X) params body scope (cloFrom X.env.cells scope.names []) pm c' ctv))
/-- each cell stands under its name -/
def Cells (X : Cx) : Prop := ∀ p ∈ X.env.cells, X.env.cells.lookup p.1 = some p.2
theorem cells_none {pins : List (Addr × Obj)} {σ : L2.St} {H : Hp} {s : Shared} (I : L2.Inv X pins σ H s) (hcl : Cells X) : ∀ b ∈ cellsOf X, H b = none := fun b hb => by
  obtain ⟨p, hp, rfl⟩ := List.mem_map.mp hb
  exact I.freeC p.1 p.2 (hcl p hp)
theorem cells_are {pins : List (Addr × Obj)} {σ : L2.St} {H : Hp} {s : Shared} (I : L2.Inv X pins σ H s) (hcl : Cells X) : ∀ b ∈ cellsOf X, ∃ o v, s.heap.get? b = some o ∧ o.data = .cell v := fun b hb => by
  obtain ⟨p, hp, rfl⟩ := List.mem_map.mp hb
  obtain ⟨v, o, h1, h2⟩ := I.cell p.1 p.2 (hcl p hp)
  exact ⟨o, v, h1, h2⟩
theorem pe_lamval {params : Arguments} {body : Expr} {scope : Scope} {pos : Pos} (TB : TabB X.base X.mg c P) (hcode : X.env.code = .ref c) (hm : (P, lamQ X) ∈ T) (hu : ∀ p ∈ T, p.1 = P → p.2 = lamQ X) (hdef : defaultsOf params X.env = ([], []))
    (hfree : ∀ y ∈ scope.names, y.2 = NameKind.free → ∃ c, X.env.cells.lookup y.1 = some c) : PE X (.Lambda params body scope pos) (tLamV X T params body scope) := by
  refine ⟨fun pins s σ H Q I h => ?_⟩
  obtain ⟨hT, h⟩ := h
  exact lam_make3 I TB hcode hm hu hT hdef hfree fun f c' pm ctv H1 s' I' e t n hc => ⟨.ref f, _, I', rfl, h f c' pm ctv H1 e t n hc⟩
/-! ### a call that hands lambdas on: the cells are known for its time -/
theorem pe_callC {k : Nat} {f : Addr} {fd : FuncData} {ps : List Str} {sp : Sp} {x : Str} {p pos : Pos} {e : Expr} {es : List Expr} {t : TA} (F : FnG X.prog X.w X.K X.mg X.base CX0 k f fd ps sp) (hgd : X.A.guards = some []) (hr : Room k X.A) (hg : Gl X x) (hm : X.mg x = some (.ref f))
    (hk : PySem.W.keepIn X.K (.ref f) = true) (hb : Binds X.K fd ps []) (hcl : Cells X) (hfn : ∀ y, X.fn y = true) (hvis : ∀ y c, X.env.cells.lookup y = some c → X.env.scope.names.lookup y = some NameKind.cell) (ha : PA X (e :: es) t)
    (hdb : (x == ("__debug__" : Str)) = false := by decide) (he : starEach (e :: es) X.env = (false, eval e X.env) :: starEach es X.env := by rfl) (hpl : (backTo pos (starEach es X.env)).any (·.1) = false := by rfl) :
    PE X (.Call (.Name x p) (e :: es) [] pos) (fun σ H Q => t σ H fun vs H1 => (∀ b ∈ cellsOf X, H1 b = none) → ∀ Hx, (∀ b, b ∉ cellsOf X → Hx b = H1 b) → CellK X Hx → CellV X σ Hx → sp vs Hx (fun v H2 => Q v (minus (cellsOf X) H2)) E0) := by
  refine ⟨fun pins s σ H Q I h => ?_⟩
  refine wpAny_Call_Name_kw (ld_glob I hg hm ?_ hdb)
  refine PySem.W.callWith_K (h₀ := X.base) I.ok.mod.kin hk (thn (ha.run pos pins s σ H _ I h) fun us s1 ⟨vs, H1, I1, r, q⟩ => ⟨I1.kIn, ?_⟩) he hpl
  let HZ : Hp := fun b => (s1.heap.get? b).map KnownO
  have n := cells_none I1 hcl
  have cells := cells_are I1 hcl
  have kz : ∀ b ∈ cellsOf X, ∃ o, HZ b = some (KnownO o) ∧ s1.heap.get? b = some o := fun b hb => by
    obtain ⟨o, v, g, _⟩ := cells b hb
    exact ⟨o, by show (s1.heap.get? b).map KnownO = _; rw [g]; rfl, g⟩
  have above : ∀ b ∈ cellsOf X, X.s_0.heap.objs.size ≤ b := fun b hb => by
    obtain ⟨p, hp, rfl⟩ := List.mem_map.mp hb
    exact I1.ok.cab p.1 p.2 (hfn _) (hcl p hp)
  have e0 := I1.env0
  have dj : ∀ b ∈ cellsOf X, b ∉ frs X.stack := fun b hb z => by
    rcases List.mem_cons.mp (I1.stkSub b z) with q | q
    · obtain ⟨o, v, g, d⟩ := cells b hb
      obtain ⟨m, ⟨o', es', ep', g', d', _⟩, _⟩ := I1.loc
      rw [q, g'] at g
      cases g
      rw [d'] at d
      cases d
    · obtain ⟨_, o', g', _⟩ := I1.ok.funs.mem (show b ∈ List.filterMap (fun x => x.frame) X.outer from q)
      exact Nat.lt_irrefl _ (Nat.lt_of_lt_of_le (Heap.lt_size g') (above b hb))
  have okx : HOk X.prog X.w (plus (cellsOf X) HZ H1) s1.heap := hok_plus I1.hok n kz
  have e1 : Env0 X.prog X.w X.K X.mg X.base X.A X.stack s1 (plus (cellsOf X) HZ H1) := by
    refine ⟨e0.frames, e0.mod, fun b o g => ⟨(e0.bs b o g).1, ?_⟩, e0.bsz, e0.funs, fun b hb => ?_, okx, e0.bare⟩
    · refine (plus_out fun hb => ?_).trans (e0.bs b o g).2
      exact Nat.lt_irrefl _ (Nat.lt_of_lt_of_le (Heap.lt_size g) (Nat.le_trans I1.ok.bsz (above b hb)))
    · exact (plus_out fun z => dj b z hb).trans (e0.frf b hb)
  have ck : CellK X (plus (cellsOf X) HZ H1) := fun b hb => by
    obtain ⟨o, v, g, d⟩ := cells b hb
    exact ⟨o, v, (plus_in hb).trans (by show (s1.heap.get? b).map KnownO = _; rw [g]; rfl), d⟩
  have cv : CellV X σ (plus (cellsOf X) HZ H1) := fun i y v c h1 h2 h3 => by
    obtain ⟨m, _, look⟩ := I1.loc
    obtain ⟨u, ru, lk⟩ := look i y v h1 h2 (.inr (.inl (hvis y c h3)))
    rcases lk with ⟨k', _⟩ | ⟨_, c2, e2, o, g, d⟩
    · rw [show X.env.kindOf y = X.env.scope.names.lookup y from rfl, hvis y c h3] at k'
      cases k'
    · rw [h3] at e2
      cases e2
      exact ⟨o, u, (plus_in (cell_in h3)).trans (by show (s1.heap.get? c).map KnownO = _; rw [g]; rfl), d, ru⟩
  have q' := q n _ (fun b hb => plus_out hb) ck cv
  have hl : us.length = ps.length := by rw [← r.length]; exact F.len _ _ _ _ q'
  refine wpAny_call (codeAny_mono (F.run X.A X.stack s1 (plus (cellsOf X) HZ H1) ⟨us, []⟩ us vs _ E0 hgd hr e1 ?_ r q') fun r' s2 hq => ?_)
  · have b := hb s1 us I1.kIn (by rw [List.append_nil]; exact hl)
    rw [List.append_nil] at b
    exact b
  · cases r' with
    | error e => exact hq.elim
    | ok fl =>
      cases fl with
      | ret u => exact I1.after (ce_minus hq n kz dj)
      | next => exact hq.elim
      | brk => exact hq.elim
      | cont => exact hq.elim
end
end LamY
namespace K6
open PySem PySem.Spec PyProof.Rows L2 LamX
theorem sl {n : Nat} (h : n ≤ 1000) : n ≤ sizeLine := Nat.le_of_lt (small1000 h)
/-! ### readings made stronger -/
theorem peImp {X : Cx} {e : Expr} {t t' : TE} (h : PE X e t) (i : ∀ σ H Q, t' σ H Q → t σ H Q) : PE X e t' := ⟨fun pins s σ H Q I q => h.run pins s σ H Q I (i _ _ _ q)⟩
theorem paImp {X : Cx} {es : List Expr} {t t' : TA} (h : PA X es t) (i : ∀ σ H Q, t' σ H Q → t σ H Q) : PA X es t' := ⟨fun pos pins s σ H Q I q => h.run pos pins s σ H Q I (i _ _ _ q)⟩
theorem psImp {X : Cx} {e : Stmt} {t t' : TS} (h : PS X e t) (i : ∀ D σ H, t' D σ H → t D σ H) : PS X e t' := ⟨fun pins s σ H Q I q => h.run pins s σ H Q I (i _ _ _ q)⟩
/-! ### what stays: all but the lists at S; all but these and the tables of code -/
def NoLst (o : HO) : Prop := ∀ xs, o ≠ .lst xs
def NoTbl (o : HO) : Prop := ∀ ps, o ≠ .tbl ps
def Kq (S : List Addr) (H H' : Hp) : Prop := ∀ b o, H b = some o → (b ∉ S ∨ NoLst o) → H' b = some o
def Kp (S : List Addr) (H H' : Hp) : Prop := ∀ b o, H b = some o → (b ∉ S ∨ NoLst o) → NoTbl o → H' b = some o
theorem tup_nl (xs : List V) : NoLst (.tup xs) := fun _ z => nomatch z
theorem tup_nt (xs : List V) : NoTbl (.tup xs) := fun _ z => nomatch z
theorem lst_nt (xs : List V) : NoTbl (.lst xs) := fun _ z => nomatch z
theorem dk_nl (kvs : List (Key × V)) : NoLst (.dK kvs) := fun _ z => nomatch z
theorem dk_nt (kvs : List (Key × V)) : NoTbl (.dK kvs) := fun _ z => nomatch z
theorem Kq.refl (S : List Addr) (H : Hp) : Kq S H H := fun _ _ h _ => h
theorem Kq.trans {S : List Addr} {H H1 H2 : Hp} (a : Kq S H H1) (b : Kq S H1 H2) : Kq S H H2 := fun c o h n => b c o (a c o h n) n
theorem Kp.refl (S : List Addr) (H : Hp) : Kp S H H := fun _ _ h _ _ => h
theorem Kp.trans {S : List Addr} {H H1 H2 : Hp} (a : Kp S H H1) (b : Kp S H1 H2) : Kp S H H2 := fun c o h n t => b c o (a c o h n t) n t
theorem Kq.kp {S : List Addr} {H H1 : Hp} (a : Kq S H H1) : Kp S H H1 := fun c o h n _ => a c o h n
theorem Kp.of {S : List Addr} {H H1 : Hp} (a : ExtN H H1) : Kp S H H1 := fun c o h _ t => a c o h t
theorem Kq.same {S : List Addr} {H H1 : Hp} (a : Same H H1) : Kq S H H1 := fun c o h _ => a c o h
theorem Kq.new {S : List Addr} {H : Hp} {p : Addr} {o : HO} (hp : H p = none) : Kq S H (upd H p o) := fun c u h _ => by
  rw [upd_ne (ne_of_none h hp)]
  exact h
theorem Kq.write {S : List Addr} {H : Hp} {s : Addr} {xs : List V} {o : HO} (hs : s ∈ S) (h : H s = some (.lst xs)) : Kq S H (upd H s o) := fun c u e n => by
  by_cases z : c = s
  · subst z
    rw [h] at e
    cases e
    rcases n with n | n
    · exact absurd hs n
    · exact absurd rfl (n xs)
  · rw [upd_ne z]
    exact e
theorem tab_kq {S : List Addr} {H H' : Hp} {P : Addr} {q : Str} (t : TabS H P q) (k : Kq S H H') : TabS H' P q := by
  obtain ⟨ps, h1, h2, h3⟩ := t
  refine ⟨ps, k _ _ h1 (.inr fun _ z => nomatch z), h2, fun pos cv hc => ?_⟩
  obtain ⟨c, e1, e2⟩ := h3 pos cv hc
  exact ⟨c, e1, k _ _ e2 (.inr fun _ z => by unfold CodeO at z; cases z)⟩
theorem tabs_kq {S : List Addr} {T : List (Addr × Str)} {H H' : Hp} (t : Tabs T H) (k : Kq S H H') : Tabs T H' := fun p hp => tab_kq (t p hp) k
theorem none_back {H H' : Hp} {p : Addr} (s : Same H H') (h : H' p = none) : H p = none := by
  cases e : H p with
  | none => rfl
  | some o =>
    rw [s p o e] at h
    cases h
/-! ### data -/
mutual
/-- x is the data d; its lists stand at addresses of N -/
inductive Da (N : Addr → Prop) (H : Hp) : V → PyData → Prop
  | non : Da N H .non .none
  | bl (b : Bool) : Da N H (.bl b) (.bool b)
  | int (i : Int) : Da N H (.int i) (.int i)
  | str (z : Str) : Da N H (.str z) (.str z)
  | tup {a : Addr} {xs : List V} {ds : List PyData} (e : H a = some (.tup xs)) (h : DaL N H xs ds) : Da N H (.ref a) (.tuple ds)
  | lst {a : Addr} {xs : List V} {ds : List PyData} (e : H a = some (.lst xs)) (n : N a) (h : DaL N H xs ds) : Da N H (.ref a) (.list ds)
  | dic {a : Addr} (e : H a = some (.dK [])) : Da N H (.ref a) (.dict [])
inductive DaL (N : Addr → Prop) (H : Hp) : List V → List PyData → Prop
  | nil : DaL N H [] []
  | cons {v : V} {vs : List V} {d : PyData} {ds : List PyData} (h : Da N H v d) (r : DaL N H vs ds) : DaL N H (v :: vs) (d :: ds)
end
section
variable {N M : Addr → Prop} {H H' : Hp} (f : ∀ a o, H a = some o → N a → M a) (k : ∀ b o, H b = some o → (N b ∨ NoLst o) → NoTbl o → H' b = some o)
include f k
mutual
theorem Da.map : ∀ (d : PyData) (x : V), Da N H x d → Da M H' x d
  | .none, _, h => by cases h; exact .non
  | .bool b, _, h => by cases h; exact .bl b
  | .int i, _, h => by cases h; exact .int i
  | .str z, _, h => by cases h; exact .str z
  | .tuple ds, _, h => by
    cases h with
    | tup e h => exact .tup (k _ _ e (.inr (tup_nl _)) (tup_nt _)) (DaL.map ds _ h)
  | .list ds, _, h => by
    cases h with
    | lst e n h => exact .lst (k _ _ e (.inl n) (lst_nt _)) (f _ _ e n) (DaL.map ds _ h)
  | .dict _, _, h => by
    cases h with
    | dic e => exact .dic (k _ _ e (.inr (dk_nl _)) (dk_nt _))
theorem DaL.map : ∀ (ds : List PyData) (xs : List V), DaL N H xs ds → DaL M H' xs ds
  | [], _, h => by cases h; exact .nil
  | d :: ds, _, h => by
    cases h with
    | cons h r => exact .cons (Da.map d _ h) (DaL.map ds _ r)
end
end
section
variable {S : List Addr} {H H' : Hp}
abbrev Ds (S : List Addr) (H : Hp) (x : V) (d : PyData) : Prop := Da (fun a => a ∉ S) H x d
abbrev DsL (S : List Addr) (H : Hp) (xs : List V) (ds : List PyData) : Prop := DaL (fun a => a ∉ S) H xs ds
abbrev Dn (H0 H : Hp) (x : V) (d : PyData) : Prop := Da (fun a => H0 a = none) H x d
abbrev DnL (H0 H : Hp) (xs : List V) (ds : List PyData) : Prop := DaL (fun a => H0 a = none) H xs ds
theorem Ds.mono {x : V} {d : PyData} (h : Ds S H x d) (k : Kp S H H') : Ds S H' x d := Da.map (fun _ _ _ n => n) k d x h
theorem DsL.mono {x : List V} {d : List PyData} (h : DsL S H x d) (k : Kp S H H') : DsL S H' x d := DaL.map (fun _ _ _ n => n) k d x h
theorem Da.mono {N M : Addr → Prop} {x : V} {d : PyData} (h : Da N H x d) (s : Same H H') (f : ∀ a, N a → M a) : Da M H' x d := Da.map (fun a _ _ n => f a n) (fun b o e _ _ => s b o e) d x h
theorem DaL.mono {N M : Addr → Prop} {x : List V} {d : List PyData} (h : DaL N H x d) (s : Same H H') (f : ∀ a, N a → M a) : DaL M H' x d := DaL.map (fun a _ _ n => f a n) (fun b o e _ _ => s b o e) d x h
theorem DaL.len {N : Addr → Prop} : ∀ {xs : List V} {ds : List PyData}, DaL N H xs ds → xs.length = ds.length
  | _, [], h => by cases h; rfl
  | _, d :: ds, h => by
    cases h with
    | cons h r => rw [List.length_cons, List.length_cons, DaL.len r]
theorem DaL.mem {N : Addr → Prop} {x : V} : ∀ {xs : List V} {ds : List PyData}, DaL N H xs ds → x ∈ xs → ∃ d, d ∈ ds ∧ Da N H x d
  | _, [], h, m => by cases h; cases m
  | _, d :: ds, h, m => by
    cases h with
    | cons h r =>
      rcases List.mem_cons.mp m with e | e
      · subst e
        exact ⟨_, List.mem_cons_self, h⟩
      · obtain ⟨d, h1, h2⟩ := DaL.mem r e
        exact ⟨d, List.mem_cons_of_mem _ h1, h2⟩
theorem DaL.append {N : Addr → Prop} {ys : List V} {es : List PyData} : ∀ {xs : List V} {ds : List PyData}, DaL N H xs ds → DaL N H ys es → DaL N H (xs ++ ys) (ds ++ es)
  | _, [], h, m => by cases h; exact m
  | _, d :: ds, h, m => by
    cases h with
    | cons h r => exact .cons h (DaL.append r m)
theorem DaL.rep {N : Addr → Prop} {xs : List V} {ds : List PyData} (h : DaL N H xs ds) : ∀ k : Nat, DaL N H (List.replicate k xs).flatten (List.replicate k ds).flatten
  | 0 => .nil
  | k + 1 => by
    rw [List.replicate_succ, List.replicate_succ, List.flatten_cons, List.flatten_cons]
    exact DaL.append h (DaL.rep h k)
/-- new data stand apart from what was there -/
theorem Dn.apart {H0 : Hp} {x : V} {d : PyData} (h : Dn H0 H x d) (hS : ∀ s ∈ S, H0 s ≠ none) : Ds S H x d := h.mono (Same.refl H) fun a n z => hS a z n
theorem DnL.apart {H0 : Hp} {x : List V} {d : List PyData} (h : DnL H0 H x d) (hS : ∀ s ∈ S, H0 s ≠ none) : DsL S H x d := h.mono (Same.refl H) fun a n z => hS a z n
end
/-- one address more that is left out: a new one -/
theorem Ds.more {S : List Addr} {H : Hp} {x : V} {d : PyData} {l : Addr} (h : Ds S H x d) (hl : H l = none) : Ds (l :: S) H x d :=
  Da.map (fun a o e n z => (List.mem_cons.mp z).elim (fun z => ne_of_none e hl z) n) (fun _ _ e _ _ => e) d x h
theorem Ds.sub {S M : List Addr} {H : Hp} {x : V} {d : PyData} (h : Ds S H x d) (hl : ∀ a, a ∈ M → a ∈ S) : Ds M H x d :=
  Da.map (fun a o e n z => n (hl a z)) (fun _ _ e _ _ => e) d x h
/-! ### displays of data -/
def tDat (d : PyData) : TE := fun _ H Q => ∀ x H', Same H H' → Dn H H' x d → Q x H'
def tDats (ds : List PyData) : TA := fun _ H Q => ∀ xs H', Same H H' → DnL H H' xs ds → Q xs H'
section
variable {X : Cx} {e : Expr} {es : List Expr} {d : PyData} {ds : List PyData} {pos : Pos}
theorem pd_non {j} : PE X (.Constant .none j pos) (tDat .none) := peImp pe_non fun _ H _ h => h _ _ (Same.refl H) .non
theorem pd_bl {b j} : PE X (.Constant (.bool b) j pos) (tDat (.bool b)) := peImp pe_bl fun _ H _ h => h _ _ (Same.refl H) (.bl b)
theorem pd_int {i j} : PE X (.Constant (.int i) j pos) (tDat (.int i)) := peImp pe_int fun _ H _ h => h _ _ (Same.refl H) (.int i)
theorem pd_str {z j} : PE X (.Constant (.str z) j pos) (tDat (.str z)) := peImp pe_str fun _ H _ h => h _ _ (Same.refl H) (.str z)
theorem pd_neg {i j p2} : PE X (.UnaryOp .USub (.Constant (.int i) j p2) pos) (tDat (.int (-i))) := peImp (pe_un un_neg pe_int) fun _ H _ h => ⟨i, rfl, h _ _ (Same.refl H) (.int (-i))⟩
theorem pd_pow {i k : Int} {j j2 p2 p3} (c : CPow i k) : PE X (.BinOp (.Constant (.int i) j p2) .Pow (.Constant (.int k) j2 p3) pos) (tDat (.int (i ^ k.toNat))) := peImp (pe_op op_pow pe_int pe_int) fun _ H _ h => ⟨i, k, rfl, rfl, c, h _ _ (Same.refl H) (.int _)⟩
theorem pd_dic : PE X (.Dict [] [] pos) (tDat (.dict [])) := peImp pe_dnewK fun _ H _ h p hp => h _ _ (Same.new hp) (.dic upd_same)
theorem pds_nil : PA X [] (tDats []) := paImp pa_nil fun _ H _ h => h _ _ (Same.refl H) .nil
theorem pds_cons (ha : PE X e (tDat d)) (hr : PA X es (tDats ds)) (hs : starEach (e :: es) X.env = (false, eval e X.env) :: starEach es X.env := by rfl) : PA X (e :: es) (tDats (d :: ds)) :=
  paImp (pa_cons ha hr hs) fun _ H _ h x H1 s1 d1 xs H2 s2 d2 => h (x :: xs) H2 (s1.trans s2) (.cons (d1.mono s2 fun _ n => n) (d2.mono (Same.refl H2) fun _ n => none_back s1 n))
theorem pd_tup {x1} (h : PA X es (tDats ds)) (hl : ds.length < 1000 := by decide) : PE X (.Tuple es x1 pos) (tDat (.tuple ds)) :=
  peImp (pe_tup h) fun _ H _ q xs H1 s1 d1 => ⟨sl (by rw [d1.len]; omega), fun p hp => q _ _ (s1.trans (Same.new hp)) (.tup upd_same (d1.mono (Same.new hp) fun _ n => n))⟩
theorem pd_lst (h : PA X es (tDats ds)) (hl : ds.length < 1000 := by decide) : PE X (.List es pos) (tDat (.list ds)) :=
  peImp (pe_lst h) fun _ H _ q xs H1 s1 d1 => ⟨sl (by rw [d1.len]; omega), fun p hp => q _ _ (s1.trans (Same.new hp)) (.lst upd_same (none_back s1 hp) (d1.mono (Same.new hp) fun _ n => n))⟩
/-- a tuple, some times -/
theorem pd_rep {k : Int} {j p2} (h : PE X e (tDat (.tuple ds))) (h0 : ds ≠ [] := by simp) (h1 : 2 ≤ k := by decide) (h2 : k ≤ 1000 := by decide) (hl : ds.length ≤ 1000 := by decide) : PE X (.BinOp e .Mult (.Constant (.int k) j p2) pos) (tDat (.tuple (List.replicate k.toNat ds).flatten)) :=
  peImp (pe_op op_repT h pe_int) fun _ H _ q x H1 s1 d1 => by
    cases d1 with
    | @tup a xs _ e d1 =>
      have l := d1.len
      exact ⟨a, k, xs, rfl, rfl, SqT.of e, fun z => h0 (List.eq_nil_of_length_eq_zero (by rw [← l, z]; rfl)), h1, h2, by omega, fun p hp => q _ _ (s1.trans (Same.new hp)) (.tup upd_same (DaL.rep (d1.mono (Same.new hp) fun _ n => n) _))⟩
theorem pd_cat {e2 : Expr} {es2 : List PyData} (h : PE X e (tDat (.tuple ds))) (g : PE X e2 (tDat (.tuple es2))) (h0 : ds ≠ [] := by simp) (h1 : es2 ≠ [] := by simp) (hl : ds.length + es2.length ≤ 1000 := by decide) : PE X (.BinOp e .Add e2 pos) (tDat (.tuple (ds ++ es2))) :=
  peImp (pe_op op_catT h g) fun _ H _ q x H1 s1 d1 y H2 s2 d2 => by
    cases d1 with
    | @tup a xs _ e d1 =>
      cases d2 with
      | @tup b ys _ e2 d2 =>
        have l := d1.len
        have l2 := d2.len
        exact ⟨a, b, xs, ys, rfl, rfl, SqT.of (s2 _ _ e), SqT.of e2, fun z => h0 (List.eq_nil_of_length_eq_zero (by rw [← l, z]; rfl)), sl (by omega), fun z => absurd (List.eq_nil_of_length_eq_zero (by rw [← l2, z]; rfl)) h1, fun _ p hp =>
          q _ _ ((s1.trans s2).trans (Same.new hp)) (.tup upd_same (DaL.append (d1.mono (s2.trans (Same.new hp)) fun _ n => n) (d2.mono (Same.new hp) fun _ n => none_back s1 n)))⟩
end
/-! ### what data are -/
section
variable {K : PySem.W.Frag} {N : Addr → Prop} {H : Hp}
theorem Da.vk {x : V} {d : PyData} (h : Da N H x d) : Vk K H x := by
  cases h with
  | non => exact .non
  | bl b => exact .bl b
  | int i => exact .int i
  | str z => exact .str z
  | tup e h => exact .tup (SqT.of e)
  | lst e n h => exact .lst e
  | dic e => exact .dic e
theorem DaL.vks {x : V} {xs : List V} {ds : List PyData} (h : DaL N H xs ds) (m : x ∈ xs) : Vk K H x := by
  obtain ⟨d, _, h⟩ := h.mem m
  exact h.vk
mutual
theorem Da.dp : ∀ (d : PyData) (x : V), d.hasDict = false → Da N H x d → Dp K H x d
  | .none, _, _, h => by cases h; exact .non
  | .bool b, _, _, h => by cases h; exact .bl b
  | .int i, _, _, h => by cases h; exact .int i
  | .str z, _, _, h => by cases h; exact .str z
  | .tuple ds, _, n, h => by
    cases h with
    | tup e h => exact .tup (SqT.of e) (DaL.dp ds _ n h)
  | .list ds, _, n, h => by
    cases h with
    | lst e _ h => exact .lst (SqL.of e) (DaL.dp ds _ n h)
  | .dict _, _, n, h => by cases n
theorem DaL.dp : ∀ (ds : List PyData) (xs : List V), PyData.hasDictAll ds = false → DaL N H xs ds → DpAll K H xs ds
  | [], _, _, h => by cases h; exact .nil
  | d :: ds, _, n, h => by
    cases h with
    | cons h r =>
      have n' : (d.hasDict || PyData.hasDictAll ds) = false := n
      rw [Bool.or_eq_false_iff] at n'
      exact .cons (Da.dp d _ n'.1 h) (DaL.dp ds _ n'.2 r)
end
end
end K6
namespace K6
open PySem PySem.Spec PyProof.Rows L2
/-! ### repr of data, where no repr is under way -/
/-- repr(x) is the text z -/
def Shown (K : PySem.W.Frag) (H : Hp) (x : V) (z : Str) : Prop := ∃ d : PyData, Dp K H x d ∧ d.showable = true ∧ d.hasDict = false ∧ d.depth ≤ 60 ∧ d.shown.length ≤ sizeLine ∧ z = d.shown
theorem call_reprS {X : Cx} (hg : X.A.guards = some []) (hu : X.A.units + 64 < cLine) : CallR X (.builtin "repr") (fun xs H Q => ∃ (x : V) (z : Str), xs = [x] ∧ Shown X.K H x z ∧ Q (.str z) H) := by
  intro pins s σ H xs us Q I r h
  obtain ⟨x, z, rfl, ⟨d, dp, sh, nd, de, le, rfl⟩, q⟩ := h
  obtain ⟨u, rfl, ru⟩ := vals1 r
  have ends : ∀ h' tk, (∀ b o, s.heap.get? b = some o → h'.get? b = some o) → ∀ t, EP X pins σ Q (.str d.shown t) { s with heap := h', toks := tk } := fun h' tk kp t => ⟨.str d.shown, H, I.kept kp, ⟨t, rfl⟩, q⟩
  cases dp with
  | non =>
    cases (show u = Value.none from ru)
    exact PySem.P.repr_of_none (ends _ _ (fun _ _ e => e) _)
  | bl b =>
    cases (show u = Value.bool b from ru)
    exact PySem.P.repr_of_bool (ends _ _ (fun _ _ e => e) _)
  | int i =>
    obtain ⟨t, e⟩ := (show ∃ t, u = Value.int i t from ru)
    subst e
    exact PySem.P.repr_of_int (of_decide_eq_true sh) (ends _ _ (fun _ _ e => e) _)
  | str y =>
    obtain ⟨t, e⟩ := (show ∃ t, u = Value.str y t from ru)
    subst e
    exact PySem.P.repr_of_str (ends _ _ (fun _ _ e => e) _) le
  | @lst a ys ds h1 h2 =>
    obtain ⟨as, rd⟩ := Dp.reads I _ _ _ (.lst h1 h2) ru
    cases (show u = Value.ref a from ru)
    exact repr_of_reads' rd sh (fun e => by rw [nd] at e; cases e) hg (by omega) (fun _ _ e => e) (fun h' u tk kp => ends h' tk kp u) le
  | @tup a ys ds h1 h2 =>
    obtain ⟨as, rd⟩ := Dp.reads I _ _ _ (.tup h1 h2) ru
    cases (show u = Value.ref a from ru)
    exact repr_of_reads' rd sh (fun e => by rw [nd] at e; cases e) hg (by omega) (fun _ _ e => e) (fun h' u tk kp => ends h' tk kp u) le
/-! ### try with several clauses, some with a name -/
abbrev Clause := Value × Option Nat × (Addr → Value → Option Addr → TS)
/-- behind a clause with a name the slot is empty -/
def gone (i : Nat) (D : Ends) : Ends := { nx := fun σ H => D.nx (σ.set i none) H, rt := D.rt, bk := fun σ H => D.bk (σ.set i none) H, ct := fun σ H => D.ct (σ.set i none) H }
/-- what a clause does with the error at a -/
def clauseRun (D : Ends) (ts : Addr → Value → Option Addr → TS) (a : Addr) (cls : Value) (d : Option Addr) (σ : L2.St) (H : Hp) : Option Nat → Prop
  | none => ts a cls d D σ H
  | some i => i < σ.length → ts a cls d (gone i D) (σ.set i (some (.ref a))) H
/-- the clauses one behind the other -/
def wMix (K : PySem.W.Frag) (D : Ends) : List Clause → WX
  | [] => fun _ _ _ _ => False
  | c :: r => fun cls d σ H => ∃ b, PySem.W.exmOne K cls c.1 = some b ∧ (b = true → ∀ a, H a = none → clauseRun D c.2.2 a cls d σ H c.2.1) ∧ (b = false → wMix K D r cls d σ H)
inductive MixOk (X : Cx) : List ExceptHandler → List Clause → Prop
  | nil : MixOk X [] []
  | plain {x : Str} {c : Value} {ts : Addr → Value → Option Addr → TS} {st : Stmt} {sts : List Stmt} {p p' : Pos} {hs : List ExceptHandler} {l : List Clause} (hc : Names X x c)
      (hsu : ∀ (a : Addr) (oe : Obj) (cls : Value) (d : Option Addr) (pn : List (Addr × Obj)), Zc cls d oe → (∃ vs, oe.data = .fields vs) → PSs (X.suite a ((a, oe) :: pn)) (st :: sts) (ts a cls d)) (r : MixOk X hs l) :
      MixOk X (.ExceptHandler (some (.Name x p)) none (st :: sts) p' :: hs) ((c, none, ts) :: l)
  | named {x n : Str} {c : Value} {i : Nat} {ts : Addr → Value → Option Addr → TS} {st : Stmt} {sts : List Stmt} {p p' : Pos} {hs : List ExceptHandler} {l : List Clause} (hc : Names X x c) (hi : X.N[i]? = some n) (hn : X.env.kindOf n = some .local)
      (hsu : ∀ (a : Addr) (oe : Obj) (cls : Value) (d : Option Addr) (pn : List (Addr × Obj)), Zc cls d oe → (∃ vs, oe.data = .fields vs) → PSs (X.suite a ((a, oe) :: pn)) (st :: sts) (ts a cls d)) (r : MixOk X hs l) :
      MixOk X (.ExceptHandler (some (.Name x p)) (some n) (st :: sts) p' :: hs) ((c, some i, ts) :: l)
section
variable {X : Cx} {body : List Stmt} {h1 : ExceptHandler} {hs : List ExceptHandler} {l : List Clause} {pos : Pos} {tb : WX → TS}
theorem ps_try_mix (hstk : X.stack = X.env :: X.outer) (hfr : X.env.frame = some X.env.locals) (hN : X.N.Nodup)
    (hbody : ∀ (W : WX) (pn : List (Addr × Obj)) (xe : Value → Shared → Prop), Takes (X.tr pn xe) W → PassesOwn (model X.prog X.w) X.A X.env xe → PSs (X.tr pn xe) body (tb W))
    (hclauses : MixOk X (h1 :: hs) l) : PS X (.Try body (h1 :: hs) [] [] pos) (fun D σ H => tb (wMix X.K D l) D σ H) := by
  refine ⟨fun pins s σ H D I h => ?_⟩
  have ok := I.ok
  have frames : X.A.frames = some (X.env :: X.outer) := by
    rw [ok.frames, hstk]
  refine wpAny_Try_except ?_
  refine wpAny_mono ((hbody (wMix X.K D l) (X.pn ++ pins)
      (fun e s1 => wpAny (model X.prog X.w) X.A (noteFrame e X.env) (fun _ s2 => wpAny (model X.prog X.w) X.A (setFlight e none)
        (fun _ s3 => wpAny (model X.prog X.w) X.A (handleBy e X.env (h1 :: hs)) (SP X pins D) X.xe s3) X.xe s2) X.xe s1)
      (fun u s' x => ?caught) PassesOwn.looking).run [] s σ H D (I.toTry _) h) (fun f s1 q => ?through) (fun e s1 q => q)
  case through =>
    cases f with
    | next =>
      obtain ⟨σ1, H1, J, q⟩ := q
      exact wpAny_execs_nil ⟨σ1, H1, J.ofTry ok, q⟩
    | brk =>
      obtain ⟨σ1, H1, J, q⟩ := q
      exact ⟨σ1, H1, J.ofTry ok, q⟩
    | cont =>
      obtain ⟨σ1, H1, J, q⟩ := q
      exact ⟨σ1, H1, J.ofTry ok, q⟩
    | ret u =>
      obtain ⟨v, σ1, H1, J, rv, q⟩ := q
      exact ⟨v, σ1, H1, J.ofTry ok, rv, q⟩
  case caught =>
    obtain ⟨a, B, sI, pins1, σ1, H1, cls, d, rfl, J0, nb, up, sky, na, hos, bare, wish⟩ := x
    have J : Inv X pins σ1 H1 sI := J0.ofTry ok
    have sky1 : Sky B (X.env :: X.outer) a (Zc cls d) X.env.locals s'.heap := by
      rw [← hstk]
      exact sky
    show wpAny (model X.prog X.w) X.A (noteFrame (.ref a) X.env) _ _ _
    refine Sky.land Zc.steady frames hfr sky1 fun g3 fly3 up3 => ?_
    have J3 : Inv X pins σ1 H1 { s' with heap := g3 } := J.landed nb fly3.1 (up.trans up3) hos bare
    obtain ⟨oe3, vs3, ge3, z3, dat3⟩ := fly3.there
    have out3 : a ∉ frs (X.env :: X.outer) := fun hm => by
      obtain ⟨_, o', e', hnf⟩ := fly3.2.2.1.mem hm
      rw [ge3] at e'
      cases e'
      exact hnf _ dat3
    have nL : a ≠ X.env.locals := fun z => out3 (List.mem_filterMap.mpr ⟨X.env, List.mem_cons_self, by rw [hfr, z]⟩)
    have nF : a ∉ X.fs := fun hm => by
      obtain ⟨e, he, q⟩ := List.mem_filterMap.mp hm
      exact out3 (List.mem_filterMap.mpr ⟨e, List.mem_cons_of_mem _ he, q⟩)
    have S3 := J3.suite ge3 dat3 na nL nF
    have asks : ∀ {x : Str} {c : Value} {p : Pos} {Q : Value → Shared → Prop} {E : Value → Shared → Prop}, Names X x c → Q c { s' with heap := g3 } →
        wpAny (model X.prog X.w) (X.A.mark (some (.ref a))) (eval (.Name x p) X.env) Q E { s' with heap := g3 } := fun {x c p Q E} hc q => by
      obtain ⟨hg, hd, hm | ⟨hm, hv, hnn⟩⟩ := hc
      · exact ld_glob (X := X.suite a ((a, oe3) :: (X.pn ++ pins))) S3 hg hm q hd
      · exact ld_blt (X := X.suite a ((a, oe3) :: (X.pn ++ pins))) S3 hg hm hv q hnn hd
    have cls3 : PySem.W.Looks (model X.prog X.w) g3 (typeOf (.ref a)) cls := fun A Q E s k q => wpAny_typeOf_ref (k _ _ ge3) (by rw [z3.1]; exact q)
    have go : ∀ {hs' : List ExceptHandler} {l' : List Clause}, MixOk X hs' l' → wMix X.K D l' cls d σ1 H1 → wpAny (model X.prog X.w) X.A (handleBy (.ref a) X.env hs') (SP X pins D) X.xe { s' with heap := g3 } := by
      intro hs' l' hk
      induction hk with
      | nil => exact fun no => no.elim
      | @plain x c ts st sts p p' hs2 l2 hc hsu r ih =>
        rintro ⟨b, hb, yes, no⟩
        refine wpAny_handleBy_cons (codeAny_handlers_test ?_) (by intro q; cases q)
        refine asks hc ((PySem.W.exm_one (M := model X.prog X.w) J3.kIn cls3 hb).here ?_)
        cases b with
        | false =>
          show wpAny _ X.A (handleBy (.ref a) X.env hs2) _ _ _
          exact ih (no rfl)
        | true =>
          refine codeAny_handlers_suite ?_
          refine HandSPX.lands_againZ fly3 fun g4 fly4 up4 => ?_
          have J4 : Inv X pins σ1 H1 { s' with heap := g4 } := J.landed nb fly4.1 ((up.trans up3).trans up4) hos bare
          obtain ⟨oe4, vs4, ge4, z4, dat4⟩ := fly4.there
          refine wpAny_mono ((hsu a oe4 cls d (X.pn ++ pins) z4 ⟨_, dat4⟩).run [] _ _ H1 _ (J4.suite ge4 dat4 na nL nF) (yes rfl a na)) (fun f s6 q => ?_) (fun _ _ z => z.elim)
          cases f with
          | next =>
            obtain ⟨σ6, H6, S6, q⟩ := q
            exact ⟨_, _, S6.unsuite ok, q⟩
          | brk =>
            obtain ⟨σ6, H6, S6, q⟩ := q
            exact ⟨_, _, S6.unsuite ok, q⟩
          | cont =>
            obtain ⟨σ6, H6, S6, q⟩ := q
            exact ⟨_, _, S6.unsuite ok, q⟩
          | ret u =>
            obtain ⟨v6, σ6, H6, S6, r6, q⟩ := q
            exact ⟨_, _, _, S6.unsuite ok, r6, q⟩
      | @named x n c i ts st sts p p' hs2 l2 hc hi hn hsu r ih =>
        rintro ⟨b, hb, yes, no⟩
        refine wpAny_handleBy_cons (codeAny_handlers_test ?_) (by intro q; cases q)
        refine asks hc ((PySem.W.exm_one (M := model X.prog X.w) J3.kIn cls3 hb).here ?_)
        cases b with
        | false =>
          show wpAny _ X.A (handleBy (.ref a) X.env hs2) _ _ _
          exact ih (no rfl)
        | true =>
          refine codeAny_handlers_suite_as ?_
          refine HandSPX.lands_againZ fly3 fun g4 fly4 up4 => ?_
          have J4 : Inv X pins σ1 H1 { s' with heap := g4 } := J.landed nb fly4.1 ((up.trans up3).trans up4) hos bare
          obtain ⟨oe4, vs4, ge4, z4, dat4⟩ := fly4.there
          refine store_ok (X := X.suite a ((a, oe4) :: (X.pn ++ pins))) (v := .ref a) (J4.suite ge4 dat4 na nL nF) hN hi (.inl hn) rfl (fun s5 S5 => ?_) (.inr hn)
          have close : ∀ {σ6 : L2.St} {H6 : Hp} {s6 : Shared} {R : Shared → Prop}, Inv (X.suite a ((a, oe4) :: (X.pn ++ pins))) [] σ6 H6 s6 → (∀ s7, Inv X pins (σ6.set i none) H6 s7 → R s7) →
              wpAny (model X.prog X.w) X.A (do bindName X.env n .none; unbindBehindTheSuite X.env n p') (fun _ s7 => R s7) X.xe s6 := fun S6 k => gone_ok (S6.unsuite ok) hN hi hn k
          have il : i < σ1.length := by
            rw [J.len]
            exact (List.getElem?_eq_some_iff.mp hi).1
          refine wpAny_mono ((hsu a oe4 cls d (X.pn ++ pins) z4 ⟨_, dat4⟩).run [] s5 _ H1 _ S5 (yes rfl a na il)) (fun f s6 q => ?_) (fun _ _ z => z.elim)
          cases f with
          | next =>
            obtain ⟨σ6, H6, S6, q⟩ := q
            exact close S6 fun s7 J7 => ⟨_, _, J7, q⟩
          | brk =>
            obtain ⟨σ6, H6, S6, q⟩ := q
            exact close S6 fun s7 J7 => ⟨_, _, J7, q⟩
          | cont =>
            obtain ⟨σ6, H6, S6, q⟩ := q
            exact close S6 fun s7 J7 => ⟨_, _, J7, q⟩
          | ret u =>
            obtain ⟨v6, σ6, H6, S6, r6, q⟩ := q
            exact close S6 fun s7 J7 => ⟨_, _, _, J7, r6, q⟩
    exact go hclauses wish
end
end K6
namespace K6
open PySem PySem.Spec PyProof.Rows L2 LamX LamY
/-! ### what the law makes of a call's end -/
def two (a b : V) : HO := .tup [a, b]
abbrev tR : V := .str "refused"
def MetEnd (K : PySem.W.Frag) (CL CW CO CN CM : Addr) (Q : VK) : XK := fun cls d H =>
  (cls = .ref CL ∧ ∀ p, H p = none → Q (.ref p) (upd H p (two tR (.str "letters")))) ∨
  (cls = .ref CW ∧ ∀ p, H p = none → Q (.ref p) (upd H p (two tR (.str "word")))) ∨
  (cls = .ref CO ∧ ∀ p, H p = none → Q (.ref p) (upd H p (two tR (.str "operation")))) ∨
  (cls = .ref CN ∧ ∃ (dd : Addr) (v : V) (z : Str), d = some dd ∧ H dd = some (.xd [(("given" : Str), v)]) ∧ Shown K H v z ∧ z.length ≤ 900 ∧ ∀ p, H p = none → Q (.ref p) (upd H p (two tR (.str ("number " ++ z))))) ∨
  (cls = .ref CM ∧ ∃ (dd : Addr) (v : V) (z : Str), d = some dd ∧ H dd = some (.xd [(("limit" : Str), v)]) ∧ Shown K H v z ∧ z.length ≤ 900 ∧ ∀ p, H p = none → Q (.ref p) (upd H p (two tR (.str ("many " ++ z)))))
def TMet (K : PySem.W.Frag) (CL CW CO CN CM : Addr) : (XK → Hp → VK → Prop) → Hp → VK → Prop := fun tl H Q =>
  tl (MetEnd K CL CW CO CN CM Q) H (fun _ H' => [V.str "fine"].length ≤ sizeLine ∧ ∀ p, H' p = none → Q (.ref p) (upd H' p (.tup [.str "fine"])))
/-- which clause takes which class -/
structure Clss (K : PySem.W.Frag) (mg : Str → Option Value) (CL CW CO CN CM : Addr) : Prop where
  nL : mg "InvalidLetters" = some (.ref CL)
  nW : mg "InvalidWord" = some (.ref CW)
  nO : mg "InvalidOperation" = some (.ref CO)
  nN : mg "InvalidNumber" = some (.ref CN)
  nM : mg "TooMany" = some (.ref CM)
  ll : PySem.W.exmOne K (.ref CL) (.ref CL) = some true
  wl : PySem.W.exmOne K (.ref CW) (.ref CL) = some false
  ww : PySem.W.exmOne K (.ref CW) (.ref CW) = some true
  ol : PySem.W.exmOne K (.ref CO) (.ref CL) = some false
  ow : PySem.W.exmOne K (.ref CO) (.ref CW) = some false
  oo : PySem.W.exmOne K (.ref CO) (.ref CO) = some true
  nl : PySem.W.exmOne K (.ref CN) (.ref CL) = some false
  nw : PySem.W.exmOne K (.ref CN) (.ref CW) = some false
  no : PySem.W.exmOne K (.ref CN) (.ref CO) = some false
  nn : PySem.W.exmOne K (.ref CN) (.ref CN) = some true
  ml : PySem.W.exmOne K (.ref CM) (.ref CL) = some false
  mw : PySem.W.exmOne K (.ref CM) (.ref CW) = some false
  mo : PySem.W.exmOne K (.ref CM) (.ref CO) = some false
  mn : PySem.W.exmOne K (.ref CM) (.ref CN) = some false
  mm : PySem.W.exmOne K (.ref CM) (.ref CM) = some true
theorem scMet : FnScope ["call", "error"] ["call"] (defScope sMet) := ⟨rfl, rfl, rfl, by decide +kernel, rfl, by decide +kernel, by decide +kernel⟩
theorem bootRepr : bootBuiltins "repr" = some (.builtin "repr") := by decide +kernel
def spMet (P : Program) (w : World) (K : PySem.W.Frag) (mg : Str → Option Value) (base : Heap) (k : Nat) (CL CW CO CN CM : Addr) : Sp := fun vs H Q _ => ∃ (f : Addr) (tl : XK → Hp → VK → Prop), vs = [.ref f] ∧ LamIs P w K mg base k f tl H ∧ TMet K CL CW CO CN CM tl H Q
abbrev tTold (X : Cx) (word : Str) (te : TE) : TS := tRet (tTup (tCons (tC tR) (tCons (tOp (fun x y H Q => ∃ i j, x = .str i ∧ y = .str j ∧ i.length + j.length ≤ sizeLine ∧ Q (.str (i ++ j)) H) (tC (.str word)) (tCB (fun xs H Q => ∃ (x : V) (z : Str), xs = [x] ∧ Shown X.K H x z ∧ Q (.str z) H) (tCons te tNil))) tNil)))
abbrev tWord (word : Str) : TS := tRet (tTup (tCons (tC tR) (tCons (tC (.str word)) tNil)))
section
variable {P : Program} {w : World} {K : PySem.W.Frag} {mg : Str → Option Value} {base : Heap} {CL CW CO CN CM i0 i1 : Addr}
theorem ok_met {k : Nat} {f : Addr} {fd : FuncData} (F : Fun K "_law_met" "_law_met" sMet f fd) (T : Txt K mg) (M : Clss K mg CL CW CO CN CM) (EN : K6X.NumTxt K mg CN i0) (EM : K6M.NumTxt K mg CM i1) :
    LamY.FnG P w K mg base CX0 (k + 2) f fd ["call"] (spMet P w K mg base k CL CW CO CN CM) := by
  refine okG F scMet (fun vs H Q E h => ?_) (fun cdv A outer s H vs Q E hgd hr h => ?_)
  · obtain ⟨f', tl, rfl, _⟩ := h; rfl
  obtain ⟨f', tl, rfl, hL, q⟩ := h
  have hu : A.units + 3 + 128 < cLine := by
    have h1 := hr.un
    have h3 : (A.deeper (envOfC (Str.ofString "_law_met") (defScope sMet) s.heap.objs.size f cdv)).units = A.units + 3 := rfl
    omega
  let Y := (cxOf CX0 P w K mg base ["call", "error"] "_law_met" (defScope sMet) f cdv A outer s H E).nox
  refine ⟨_, pss_cons (ps_try_mix (X := Y) (l := [(.ref CL, none, fun _ _ _ => tWord "letters"), (.ref CW, none, fun _ _ _ => tWord "word"), (.ref CO, none, fun _ _ _ => tWord "operation"),
        (.ref CN, some 1, fun a cls d => tTold Y "number " (tGiven CN a cls d (tVar 1))), (.ref CM, some 1, fun a cls d => tTold Y "many " (tLimit CM a cls d (tVar 1)))])
      (tb := fun W D σ H => ∃ Ech : XK, (∀ cls d σ' H', Ech cls d H' → W cls d σ' H') ∧ ∃ (f : Addr) (tl : XK → Hp → VK → Prop), σ[0]? = some (some (.ref f)) ∧ LamIs P w K mg base k f tl H ∧ tl Ech H (fun _ H' => D.nx σ H'))
      rfl rfl scMet.nd (fun W pn xe tk _ => ?_)
      (.plain ⟨by rfl, by decide, .inl M.nL⟩ (fun a oe cls d pn _ _ => pss_one (ps_ret (pe_tup (pa_cons pe_str (pa_cons pe_str pa_nil)))))
        (.plain ⟨by rfl, by decide, .inl M.nW⟩ (fun a oe cls d pn _ _ => pss_one (ps_ret (pe_tup (pa_cons pe_str (pa_cons pe_str pa_nil)))))
        (.plain ⟨by rfl, by decide, .inl M.nO⟩ (fun a oe cls d pn _ _ => pss_one (ps_ret (pe_tup (pa_cons pe_str (pa_cons pe_str pa_nil)))))
        (.named ⟨by rfl, by decide, .inl M.nN⟩ rfl rfl (fun a oe cls d pn hz hf => pss_one (ps_ret (pe_tup (pa_cons pe_str (pa_cons (pe_op op_add_str pe_str (pe_callB (call_reprS (by exact hgd) (by show A.units + 3 + 64 < cLine; omega)) (by rfl) T.repr bootRepr (by exact (pa_cons (pe_given (X := Y) EN hz hf (pv 1)) pa_nil)))) pa_nil)))))
        (.named ⟨by rfl, by decide, .inl M.nM⟩ rfl rfl (fun a oe cls d pn hz hf => pss_one (ps_ret (pe_tup (pa_cons pe_str (pa_cons (pe_op op_add_str pe_str (pe_callB (call_reprS (by exact hgd) (by show A.units + 3 + 64 < cLine; omega)) (by rfl) T.repr bootRepr (by exact (pa_cons (pe_limit (X := Y) EM hz hf (pv 1)) pa_nil)))) pa_nil))))) .nil))))))
    (pss_one (ps_ret (pe_tup (pa_cons pe_str pa_nil)))), ?_⟩
  · refine ⟨fun pins s' σ H' D I h' => ?_⟩
    obtain ⟨Ech, hW, f2, tl2, h1, h2, h3⟩ := h'
    exact (pss_one (ps_expr (pe_actS (Z := Y.tr pn xe) (k := k) (E := Ech) (i := 0) (passes_call tk hW) hr rfl (.inl rfl)))).run pins s' σ H' D I ⟨f2, tl2, h1, h2, h3⟩
  · have e7 : ("number " : Str).length = 7 := by decide +kernel
    have e5 : ("many " : Str).length = 5 := by decide +kernel
    have two' : ∀ {x y : V}, [x, y].length ≤ sizeLine := fun {x y} => by show 2 ≤ sizeLine; decide
    refine ⟨MetEnd K CL CW CO CN CM Q, fun cls d σ' H' z => ?_, f', tl, rfl, hL, ?_⟩
    · rcases z with ⟨rfl, c⟩ | ⟨rfl, c⟩ | ⟨rfl, c⟩ | ⟨rfl, dd, v, z, rfl, hd, sh, lz, c⟩ | ⟨rfl, dd, v, z, rfl, hd, sh, lz, c⟩
      · exact ⟨true, M.ll, fun _ a _ => ⟨two', c⟩, (fun e => nomatch e)⟩
      · exact ⟨false, M.wl, (fun e => nomatch e), fun _ => ⟨true, M.ww, fun _ a _ => ⟨two', c⟩, (fun e => nomatch e)⟩⟩
      · exact ⟨false, M.ol, (fun e => nomatch e), fun _ => ⟨false, M.ow, (fun e => nomatch e), fun _ => ⟨true, M.oo, fun _ a _ => ⟨two', c⟩, (fun e => nomatch e)⟩⟩⟩
      · refine ⟨false, M.nl, (fun e => nomatch e), fun _ => ⟨false, M.nw, (fun e => nomatch e), fun _ => ⟨false, M.no, (fun e => nomatch e), fun _ => ⟨true, M.nn, fun _ a _ hl => ?_, (fun e => nomatch e)⟩⟩⟩⟩
        exact ⟨.ref a, by rw [List.getElem?_set_self hl], rfl, rfl, dd, v, rfl, hd, v, z, rfl, sh, _, _, rfl, rfl, sl (by rw [e7]; omega), two', c⟩
      · refine ⟨false, M.ml, (fun e => nomatch e), fun _ => ⟨false, M.mw, (fun e => nomatch e), fun _ => ⟨false, M.mo, (fun e => nomatch e), fun _ => ⟨false, M.mn, (fun e => nomatch e), fun _ => ⟨true, M.mm, fun _ a _ hl => ?_, (fun e => nomatch e)⟩⟩⟩⟩⟩
        exact ⟨.ref a, by rw [List.getElem?_set_self hl], rfl, rfl, dd, v, rfl, hd, v, z, rfl, sh, _, _, rfl, rfl, sl (by rw [e5]; omega), two', c⟩
    · exact q
end
end K6
namespace LamY
open PySem PySem.Spec PyProof.Rows L2 LamX
section
variable {X : Cx} {k : Nat} {f : Addr} {fd : FuncData} {ps : List Str} {sp : Sp} {x : Str} {p pos : Pos} {e : Expr} {es : List Expr} {t : TA}
theorem pe_callG (F : FnG X.prog X.w X.K X.mg X.base CX0 k f fd ps sp) (hgd : X.A.guards = some []) (hr : Room k X.A) (hg : Gl X x) (hm : X.mg x = some (.ref f)) (hk : PySem.W.keepIn X.K (.ref f) = true) (hb : Binds X.K fd ps []) (ha : PA X (e :: es) t)
    (hdb : (x == ("__debug__" : Str)) = false := by decide) (he : starEach (e :: es) X.env = (false, eval e X.env) :: starEach es X.env := by rfl) (hpl : (backTo pos (starEach es X.env)).any (·.1) = false := by rfl) :
    PE X (.Call (.Name x p) (e :: es) [] pos) (fun σ H Q => t σ H fun vs H1 => sp vs H1 Q E0) := by
  refine ⟨fun pins s σ H Q I h => ?_⟩
  refine wpAny_Call_Name_kw (ld_glob I hg hm ?_ hdb)
  refine PySem.W.callWith_K (h₀ := X.base) I.ok.mod.kin hk (thn (ha.run pos pins s σ H _ I h) fun us s1 ⟨vs, H1, I1, r, q⟩ => ⟨I1.kIn, ?_⟩) he hpl
  have hl : us.length = ps.length := by rw [← r.length]; exact F.len _ _ _ _ q
  refine wpAny_call (codeAny_mono (F.run X.A X.stack s1 H1 ⟨us, []⟩ us vs Q E0 hgd hr I1.env0 ?_ r q) fun r' s2 hq => ?_)
  · have b := hb s1 us I1.kIn (by rw [List.append_nil]; exact hl)
    rw [List.append_nil] at b
    exact b
  · cases r' with
    | error e => exact hq.elim
    | ok fl =>
      cases fl with
      | ret u => exact I1.after hq
      | next => exact hq.elim
      | brk => exact hq.elim
      | cont => exact hq.elim
end
end LamY
namespace K6
open PySem PySem.Spec PyProof.Rows L2 LamX LamY
/-! ### what is due, and whether it is met -/
def dueV (z : Str) : List V := if z = "" then [.str "fine"] else [.str "refused", .str z]
def dueD (z : Str) : PyData := if z = "" then .tuple [.str "fine"] else .tuple [.str "refused", .str z]
theorem due_dp {K : PySem.W.Frag} {H : Hp} {p : Addr} {z : Str} (h : H p = some (.tup (dueV z))) : Dp K H (.ref p) (dueD z) := by
  unfold dueV at h
  unfold dueD
  split at h
  · rename_i e
    rw [if_pos e]
    exact .tup (SqT.of h) (.cons (.str _) .nil)
  · rename_i e
    rw [if_neg e]
    exact .tup (SqT.of h) (.cons (.str _) (.cons (.str _) .nil))
theorem due_shp {z : Str} (h : (PyData.str z).canLay0 = true) : Shp 1 (dueD z) := by
  have r : (PyData.str "refused").canLay0 = true := by decide +kernel
  have g : (PyData.str "fine").canLay0 = true := by decide +kernel
  unfold dueD
  split
  · exact ⟨by rw [PyData.canLay0, PyData.canLayAll0, PyData.canLayAll0, g]; rfl, by simp [PyData.depth, PyData.depthAll]⟩
  · exact ⟨by rw [PyData.canLay0, PyData.canLayAll0, PyData.canLayAll0, PyData.canLayAll0, r, h]; rfl, by simp [PyData.depth, PyData.depthAll]⟩
theorem dues_shp : ∀ {zs : List Str}, (∀ z ∈ zs, (PyData.str z).canLay0 = true) → PyData.canLayAll0 (zs.map dueD) = true ∧ PyData.depthAll (zs.map dueD) ≤ 1 + 1
  | [], _ => ⟨rfl, by simp [PyData.depthAll]⟩
  | z :: zs, h => by
    obtain ⟨h1, h2⟩ := dues_shp fun y hy => h y (List.mem_cons_of_mem _ hy)
    have s := due_shp (h z List.mem_cons_self)
    refine ⟨?_, ?_⟩
    · rw [List.map_cons, PyData.canLayAll0, s.can, h1]
      rfl
    · rw [List.map_cons, PyData.depthAll]
      have := s.dep
      omega
theorem dues_list {zs : List Str} (h : ∀ z ∈ zs, (PyData.str z).canLay0 = true) : Shp 4 (.list (zs.map dueD)) := by
  obtain ⟨h1, h2⟩ := dues_shp h
  exact ⟨by rw [PyData.canLay0]; exact h1, by rw [PyData.depth]; omega⟩
/-- the lists of tuples that tell what is due -/
inductive DueL (H : Hp) : List V → List Str → Prop
  | nil : DueL H [] []
  | cons {p : Addr} {xs : List V} {z : Str} {zs : List Str} (h : H p = some (.tup (dueV z))) (r : DueL H xs zs) : DueL H (.ref p :: xs) (z :: zs)
theorem DueL.mono {H H' : Hp} (k : ∀ b xs, H b = some (.tup xs) → H' b = some (.tup xs)) : ∀ {xs : List V} {zs : List Str}, DueL H xs zs → DueL H' xs zs
  | _, _, .nil => .nil
  | _, _, .cons h r => .cons (k _ _ h) (DueL.mono k r)
theorem DueL.dp {K : PySem.W.Frag} {H : Hp} : ∀ {xs : List V} {zs : List Str}, DueL H xs zs → DpAll K H xs (zs.map dueD)
  | _, _, .nil => .nil
  | _, _, .cons h r => .cons (due_dp h) (DueL.dp r)
theorem DueL.snoc {H : Hp} {p : Addr} {z : Str} (h : H p = some (.tup (dueV z))) : ∀ {xs : List V} {zs : List Str}, DueL H xs zs → DueL H (xs ++ [.ref p]) (zs ++ [z])
  | _, _, .nil => .cons h .nil
  | _, _, .cons g r => .cons g (DueL.snoc h r)
theorem DueL.len {H : Hp} : ∀ {xs : List V} {zs : List Str}, DueL H xs zs → xs.length = zs.length
  | _, _, .nil => rfl
  | _, _, .cons _ r => by rw [List.length_cons, List.length_cons, DueL.len r]
def MetAs (P : Program) (w : World) (K : PySem.W.Frag) (mg : Str → Option Value) (base : Heap) (k : Nat) (CL CW CO CN CM : Addr) (f : Addr) (z : Str) (H : Hp) : Prop :=
  ∃ tl : XK → Hp → VK → Prop, LamIs P w K mg base k f tl H ∧ ∀ (H1 : Hp) (Q : VK), Same H H1 → (∀ H2 p, Same H1 H2 → H2 p = some (.tup (dueV z)) → Q (.ref p) H2) → TMet K CL CW CO CN CM tl H1 Q
def spAre (P : Program) (w : World) (K : PySem.W.Frag) (mg : Str → Option Value) (base : Heap) (k : Nat) (CL CW CO CN CM : Addr) : Sp := fun vs H Q _ => ∃ (lc ld : Addr) (fs : List Addr) (zs : List Str), vs = [.ref lc, .ref ld] ∧ H lc = some (.lst (fs.map V.ref)) ∧ H ld = some (.lst (zs.map V.str)) ∧
  fs.length = zs.length ∧ zs.length ≤ 900 ∧ (∀ z ∈ zs, (PyData.str z).canLay0 = true) ∧ (∀ (i : Nat) (f : Addr) (z : Str), fs[i]? = some f → zs[i]? = some z → MetAs P w K mg base k CL CW CO CN CM f z H) ∧ ∀ H', Same H H' → Q (.bl true) H'
abbrev nAre : List Str := ["calls", "due", "met", "call", "word"]
theorem scAre : FnScope nAre ["calls", "due"] (defScope sAreMet) := ⟨rfl, rfl, rfl, by decide +kernel, rfl, by decide +kernel, by decide +kernel⟩
section
variable {P : Program} {w : World} {K : PySem.W.Frag} {mg : Str → Option Value} {base : Heap} {CL CW CO CN CM fM : Addr} {dM : FuncData}
theorem ok_are {k : Nat} {f : Addr} {fd : FuncData} (F : Fun K "_law_are_met" "_law_are_met" sAreMet f fd) (gM : mg "_law_met" = some (.ref fM)) (kM : PySem.W.keepIn K (.ref fM) = true) (bM : Binds K dM ["call"] [])
    (FM : LamY.FnG P w K mg base CX0 (k + 2) fM dM ["call"] (spMet P w K mg base k CL CW CO CN CM)) : LamY.FnG P w K mg base CX0 (k + 3) f fd ["calls", "due"] (spAre P w K mg base k CL CW CO CN CM) := by
  refine okG F scAre (fun vs H Q E h => ?_) (fun cdv A outer s H vs Q E hgd hr h => ?_)
  · obtain ⟨lc, ld, fs, zs, rfl, _⟩ := h; rfl
  obtain ⟨lc, ld, fs, zs, rfl, hc, hd, ll, l9, lay, met, q⟩ := h
  refine ⟨_, pss_cons (ps_setLc (i := 2) (te := fun σ H Q => tCons (tVar 3) tNil σ H fun vs H1 => spMet P w K mg base k CL CW CO CN CM vs H1 Q E0) (own := [("call", 3)]) (g := gName 3) rfl scAre.nd rfl rfl (by rfl) (pi_list (pv 0)) (blkOk_by (N := nAre) (sc := defScope sAreMet) (by decide +kernel))
      (fun _ _ _ _ _ => pg_name (i := 3) scAre.nd rfl (.inl rfl)) (fun _ _ _ _ _ => pts_nil) (fun _ _ _ _ _ => LamY.pe_callG FM hgd hr (by rfl) gM kM bM (by exact (pa_cons (pv 3) pa_nil))))
    (pss_one (ps_ret (pe_cmpR (op_eqD hr.units) (pv 2) (pe_lc (own := [("word", 4)]) (g := gName 4) rfl scAre.nd (pi_list (pv 1)) (blkOk_by (N := nAre) (sc := defScope sAreMet) (by decide +kernel)) (fun _ _ _ _ _ => pg_name (i := 4) scAre.nd rfl (.inl rfl)) (fun _ _ _ _ _ => pts_nil)
      (fun _ _ _ _ _ => pe_ifExp (pt_cmpR op_ne (pv 4) pe_str (nomark _)) (pe_tup (pa_cons pe_str (pa_cons (pv 4) pa_nil))) (pe_tup (pa_cons pe_str pa_nil)))) (nomark _)))), ?_⟩
  refine ⟨_, rfl, lc, rfl, ⟨_, SqL.of hc⟩, fun D hD => ?_⟩
  have lf : (fs.map V.ref).length = fs.length := List.length_map ..
  refine lc_it (te := fun σ H Q => tCons (tVar 3) tNil σ H fun vs H1 => spMet P w K mg base k CL CW CO CN CM vs H1 Q E0) (walk_list (xs := fs.map V.ref)) (fun n H' => Same H H' ∧ ∃ ys, H' D = some (.lst ys) ∧ DueL H' ys (zs.take n)) ⟨Same.new hD, [], upd_same, .nil⟩ (fun _ H' _ p => SqL.of (p.1 _ _ hc)) (fun n x H9 H1 hn p y => ?_) fun H1 p => ?_
  · obtain ⟨rfl, hx⟩ := y
    obtain ⟨s1, ys, hy, dy⟩ := p
    rw [List.getElem?_map] at hx
    obtain ⟨f', hf, rfl⟩ := Option.map_eq_some_iff.mp hx
    have nl := (List.getElem?_eq_some_iff.mp hf).1
    have hz : zs[n]? = some zs[n] := List.getElem?_eq_getElem (by omega)
    obtain ⟨tl, hl, tm⟩ := met n f' _ hf hz
    refine ⟨rfl, iteT (B := True) ⟨_, rfl, f', tl, rfl, hl.mono s1, tm H1 _ s1 fun H2 p s2 hp => ?_⟩⟩
    have lz : (zs.take n).length ≤ n := by rw [List.length_take]; omega
    have ly := dy.len
    have ne : D ≠ p := fun z => by
      rw [← z, s2 _ _ hy] at hp
      cases hp
    have tk : zs.take (n + 1) = zs.take n ++ [zs[n]] := by rw [List.take_add_one, hz]; rfl
    refine ⟨ys, s2 _ _ hy, small1000 (by omega), Same.back (s1.trans s2) hD, _, upd_same, ?_⟩
    rw [tk]
    have up : ∀ b xs, H2 b = some (.tup xs) → upd H2 D (.lst (ys ++ [.ref p])) b = some (.tup xs) := fun b xs e => by
      rw [upd_ne fun z => ?_]
      · exact e
      · rw [z, s2 _ _ hy] at e
        cases e
    exact DueL.snoc (up _ _ hp) (DueL.mono (fun b xs e => up b xs (s2 _ _ e)) dy)
  obtain ⟨s1, ys, hy, dy⟩ := p
  rw [lf, ll, List.take_length] at dy
  refine ⟨_, rfl, _, rfl, ld, rfl, ⟨_, SqL.of (s1 _ _ hd)⟩, fun D2 hD2 => ?_⟩
  have lw : (zs.map V.str).length = zs.length := List.length_map ..
  refine lc_it (walk_list (xs := zs.map V.str)) (fun n H' => Same H1 H' ∧ ∃ ys, H' D2 = some (.lst ys) ∧ DueL H' ys (zs.take n)) ⟨Same.new hD2, [], upd_same, .nil⟩ (fun _ H' _ p => SqL.of (p.1 _ _ (s1 _ _ hd))) (fun n x H9 H2 hn p y => ?_) fun H2 p => ?_
  · obtain ⟨rfl, hx⟩ := y
    obtain ⟨s2, us, hu, du⟩ := p
    rw [List.getElem?_map] at hx
    obtain ⟨z, hz, rfl⟩ := Option.map_eq_some_iff.mp hx
    have nl := (List.getElem?_eq_some_iff.mp hz).1
    have tk : zs.take (n + 1) = zs.take n ++ [z] := by rw [List.take_add_one, hz]; rfl
    have lz : (zs.take n).length ≤ n := by rw [List.length_take]; omega
    have ly := du.len
    have fin : ∀ p, H2 p = none → upd H2 p (.tup (dueV z)) D2 = some (.lst us) ∧ us.length < sizeLine ∧ (Same H1 (upd (upd H2 p (.tup (dueV z))) D2 (.lst (us ++ [.ref p]))) ∧ ∃ ys, upd (upd H2 p (.tup (dueV z))) D2 (.lst (us ++ [.ref p])) D2 = some (.lst ys) ∧ DueL (upd (upd H2 p (.tup (dueV z))) D2 (.lst (us ++ [.ref p]))) ys (zs.take (n + 1))) := fun p hp => by
      have ne : D2 ≠ p := ne_of_none hu hp
      have s3 := Same.new (o := .tup (dueV z)) hp
      refine ⟨s3 _ _ hu, small1000 (by omega), Same.back (s2.trans s3) hD2, _, upd_same, ?_⟩
      rw [tk]
      have up : ∀ b xs, upd H2 p (.tup (dueV z)) b = some (.tup xs) → upd (upd H2 p (.tup (dueV z))) D2 (.lst (us ++ [.ref p])) b = some (.tup xs) := fun b xs e => by
        rw [upd_ne fun z => ?_]
        · exact e
        · rw [z, s3 _ _ hu] at e
          cases e
      exact DueL.snoc (up _ _ upd_same) (DueL.mono (fun b xs e => up b xs (s3 _ _ e)) du)
    refine ⟨rfl, iteT (B := True) ⟨_, rfl, rfl, _, rfl, ite2 (fun b => ?_) (fun b => ?_)⟩⟩
    · have e : ¬ z = "" := fun e => by rw [e] at b; exact absurd b (by decide)
      have dv : dueV z = [.str "refused", .str z] := if_neg e
      rw [dv] at fin
      exact ⟨_, rfl, by show 2 ≤ sizeLine; decide, fun p hp => ⟨us, fin p hp⟩⟩
    · have e : z = "" := Decidable.byContradiction fun e => b (by show (!decide (V.str z = V.str "")) = true; rw [decide_eq_false fun y => e (V.str.inj y)]; rfl)
      have dv : dueV z = [.str "fine"] := if_pos e
      rw [dv] at fin
      exact ⟨by show 1 ≤ sizeLine; decide, fun p hp => ⟨us, fin p hp⟩⟩
  obtain ⟨s2, us, hu, du⟩ := p
  rw [lw, List.take_length] at du
  have sh := dues_list lay
  refine ⟨.list (zs.map dueD), .list (zs.map dueD), .lst (SqL.of (s2 _ _ hy)) (DueL.dp (DueL.mono (fun b xs e => s2 _ _ e) dy)), .lst (SqL.of hu) du.dp, sh.shaped (by decide), sh.shaped (by decide), ?_⟩
  rw [eqv_self sh (by decide)]
  exact q _ (s1.trans s2)
end
end K6
namespace K6
open PySem PySem.Spec PyProof.Rows L2 RZ
/-! ### tuples of ints within bounds -/
inductive TupIs (K : PySem.W.Frag) (H : Hp) (n : Nat) (lo hi : Int) : V → Bool → Prop
  | non : TupIs K H n lo hi .non false
  | bl (b : Bool) : TupIs K H n lo hi (.bl b) false
  | int (i : Int) : TupIs K H n lo hi (.int i) false
  | str (z : Str) : TupIs K H n lo hi (.str z) false
  | lst {a : Addr} {xs : List V} (h : H a = some (.lst xs)) : TupIs K H n lo hi (.ref a) false
  | dic {a : Addr} {kvs : List (Key × V)} (h : H a = some (.dK kvs)) : TupIs K H n lo hi (.ref a) false
  | long {a : Addr} {xs : List V} (h : SqT K H a xs) (l : n < xs.length) : TupIs K H n lo hi (.ref a) false
  | tup {a : Addr} {xs : List V} (h : SqT K H a xs) (l : xs.length ≤ n) (v : ∀ x ∈ xs, Vk K H x) : TupIs K H n lo hi (.ref a) (xs.all fun x => betw x lo hi)

theorem TupIs.mono {K : PySem.W.Frag} {H H' : Hp} {n : Nat} {lo hi : Int} {x : V} {b : Bool} (h : TupIs K H n lo hi x b) (s : Same H H') : TupIs K H' n lo hi x b := by
  cases h with
  | non => exact .non
  | bl b => exact .bl b
  | int i => exact .int i
  | str z => exact .str z
  | lst h => exact .lst (s _ _ h)
  | dic h => exact .dic (s _ _ h)
  | long h n => exact .long (tupSame s h) n
  | tup h n v => exact .tup (tupSame s h) n fun y hy => (v y hy).mono s
def spIsIxE (K : PySem.W.Frag) : Sp := fun vs H Q _ => ∃ (a : Addr) (L : List Int) (x : V), vs = [.ref a, x] ∧ SqT K H a (iV L) ∧ Vk K H x ∧ Q (.bl (betw x 0 ((L.length : Int) - 1))) H
def spIsIxsE (K : PySem.W.Frag) : Sp := fun vs H Q _ => ∃ (a : Addr) (L : List Int) (y : V) (b : Bool), vs = [.ref a, y] ∧ SqT K H a (iV L) ∧ TupIs K H 40 0 ((L.length : Int) - 1) y b ∧ ∀ H', Same H H' → Q (.bl b) H'
def spSortOp (K : PySem.W.Frag) (O : Addr) : Sp := fun vs H _ E => ∃ (a : Addr) (L : List Int) (y : V), vs = [.ref a, y] ∧ SqT K H a (iV L) ∧ Lt L ∧ TupIs K H 40 0 ((L.length : Int) - 1) y false ∧ NilE E O H
section
variable {P : Program} {w : World} {K : PySem.W.Frag} {mg : Str → Option Value} {base : Heap} {C O fL : Addr} {dL : FuncData}
theorem ok_isixE {f fB : Addr} {fd dB : FuncData} (F : Fun K "is_index" "is_index" sIsIndex f fd) (T : Txt K mg) (gB : mg "is_between" = some (.ref fB)) (kB : PySem.W.keepIn K (.ref fB) = true) (bB : Binds K dB ["value", "least", "most"] []) (B : FnOk P w K mg base CX0 3 fB dB ["value", "least", "most"] (spBetw K)) :
    FnOk P w K mg base CX0 4 f fd ["letters", "value"] (spIsIxE K) := by
  refine F.ok scIsIx (fun vs H Q E h => ?_) (fun cdv A outer s H vs Q E hr h => ?_)
  · obtain ⟨a, L, i, rfl, _⟩ := h; rfl
  obtain ⟨a, L, x, rfl, ha, hx, k⟩ := h
  refine ⟨_, pss_one (ps_ret (pe_call B hr (by rfl) gB kB bB .nil pass0 (pa_cons (pv 1) (pa_cons pe_int (pa_cons (pe_op op_sub (pe_callB call_len_seq (by rfl) T.len PySem.boot_len (pa_cons (pv 0) pa_nil)) pe_int) pa_nil))))), ?_⟩
  refine ⟨_, rfl, _, rfl, a, _, rfl, .inr ha, _, _, rfl, rfl, x, 0, _, rfl, hx, ?_⟩
  rw [List.length_map]
  exact k
theorem ok_isixsE {f fB : Addr} {fd dB : FuncData} (F : Fun K "_is_indices" "_is_indices" sIsInds f fd) (T : Txt K mg) (gB : mg "is_index" = some (.ref fB)) (kB : PySem.W.keepIn K (.ref fB) = true) (bB : Binds K dB ["letters", "value"] []) (B : FnOk P w K mg base CX0 4 fB dB ["letters", "value"] (spIsIxE K)) :
    FnOk P w K mg base CX0 5 f fd ["letters", "value"] (spIsIxsE K) := by
  refine F.ok scIsIxs (fun vs H Q E h => ?_) (fun cdv A outer s H vs Q E hr h => ?_)
  · obtain ⟨a, L, y, b, rfl, _⟩ := h; rfl
  obtain ⟨a, L, y, b, rfl, ha, hy, k⟩ := h
  obtain ⟨t1, m1⟩ := T.cMAXINDICES
  refine ⟨_, pss_cons (ps_if (PW.pt (pw_or (pt_not (pt_val (pe_callB call_isi (by rfl) T.isi bootIsi (pa_cons (pv 1) (pa_cons (pe_bltn (v := .ty "tuple") (by rfl) T.tuple bootTuple rfl) pa_nil)))))
        (pw_or1 (pt_cmpR op_gt (pe_callB call_len_seq (by rfl) T.len PySem.boot_len (pa_cons (pv 1) pa_nil)) (pe_glob (v := .int 40) (by rfl) m1 ⟨_, rfl⟩) (nomark _))))) (pss_one (ps_ret pe_bl)) pss_nil)
    (pss_one (ps_ret (pe_callB (cr_all rfl) (by rfl) T.all bootAll (pa_cons (pe_lc (own := [("index", 2)]) (g := gName 2) rfl scIsIxs.nd (pi_tup (pv 1)) (blkOk_by (N := ["letters", "value", "index"]) (sc := defScope sIsInds) (by decide +kernel)) (fun _ _ _ _ _ => pg_name (i := 2) scIsIxs.nd rfl (Or.inl rfl)) (fun _ _ _ _ _ => pts_nil)
      (fun _ _ _ _ _ => pe_call B hr (by rfl) gB kB bB .nil pass0 (by exact (pa_cons (pv 0) (pa_cons (pv 2) pa_nil))))) pa_nil)))), ?_⟩
  have no := fun z : b = false => (by rw [z] at k; exact k H (Same.refl H) : Q (.bl false) H)
  cases hy with
  | non => exact ⟨_, rfl, _, _, _, _, false, rfl, .ty "tuple", .base .non, kit_ty (by decide +kernel), _, rfl, iteT (iteT (no rfl))⟩
  | bl b => exact ⟨_, rfl, _, _, _, _, false, rfl, .ty "tuple", .base (.bl _), kit_ty (by decide +kernel), _, rfl, iteT (iteT (no rfl))⟩
  | int i => exact ⟨_, rfl, _, _, _, _, false, rfl, .ty "tuple", .base (.int _), kit_ty (by decide +kernel), _, rfl, iteT (iteT (no rfl))⟩
  | str z => exact ⟨_, rfl, _, _, _, _, false, rfl, .ty "tuple", .base (.str _), kit_ty (by decide +kernel), _, rfl, iteT (iteT (no rfl))⟩
  | lst h => exact ⟨_, rfl, _, _, _, _, false, rfl, .ty "tuple", .base (.lst h), kit_ty (by decide +kernel), _, rfl, iteT (iteT (no rfl))⟩
  | dic h => exact ⟨_, rfl, _, _, _, _, false, rfl, .ty "tuple", .base (.dK h), kit_ty (by decide +kernel), _, rfl, iteT (iteT (no rfl))⟩
  | @long a' xs h l =>
    refine ⟨_, rfl, _, _, _, _, true, rfl, .ty "tuple", tyT h, kit_ty (by decide +kernel), _, rfl, iteF ⟨_, rfl, _, _, rfl, .inr h, _, _, rfl, rfl, _, rfl, ?_⟩⟩
    rw [decide_eq_true (by omega)]
    exact iteT (no rfl)
  | @tup a' xs h l v =>
    refine ⟨_, rfl, _, _, _, _, true, rfl, .ty "tuple", tyT h, kit_ty (by decide +kernel), _, rfl, iteF ⟨_, rfl, _, _, rfl, .inr h, _, _, rfl, rfl, _, rfl, ?_⟩⟩
    rw [decide_eq_false (by omega)]
    refine iteF ⟨_, rfl, a', rfl, ⟨_, h⟩, fun D hD => ?_⟩
    refine lc_tup1 (xs := xs) (fun y => .bl (betw y 0 ((L.length : Int) - 1))) hD h (by omega) (fun _ => rfl) (fun n y H1 Q1 hy s1 h1 => ?_) fun H1 s1 hD1 => ?_
    · exact ⟨_, rfl, _, rfl, a, L, y, rfl, tupSame s1 ha, (v y (List.mem_of_getElem? hy)).mono s1, h1 H1 (Same.refl H1)⟩
    · refine ⟨D, xs.map fun y => betw y 0 ((L.length : Int) - 1), rfl, SqL.of (by rw [hD1, List.map_map]; rfl), ?_⟩
      rw [List.all_map]
      exact k H1 s1
theorem ok_sortOp {f fB : Addr} {fd dB : FuncData} (F : Fun K "sorted_word" "sorted_word" sSorted f fd) (ER : ErrTxt K mg "InvalidOperation" O) (gL : mg "check_letters" = some (.ref fL)) (kL : PySem.W.keepIn K (.ref fL) = true) (bL : Binds K dL ["letters"] [])
    (FL : FnOk P w K mg base (L2.CX P w) 5 fL dL ["letters"] (spChkLE K C)) (gB : mg "_is_indices" = some (.ref fB)) (kB : PySem.W.keepIn K (.ref fB) = true) (bB : Binds K dB ["letters", "value"] []) (B : FnOk P w K mg base CX0 5 fB dB ["letters", "value"] (spIsIxsE K)) :
    FnOk P w K mg base (L2.CX P w) 6 f fd ["letters", "indices"] (spSortOp K O) := by
  refine F.okX scSort (fun vs H Q E h => ?_) (fun cdv A outer s H vs Q E hr h => ?_)
  · obtain ⟨a, L, y, rfl, _⟩ := h; rfl
  obtain ⟨a, L, y, rfl, ha, hL, hy, k0⟩ := h
  refine ⟨_, pss_cons (ps_expr (pe_call FL hr (by rfl) gL kL bL .nil (passes_call (E := E) (takes_of rfl rfl rfl rfl) (fun _ _ _ _ h => h)) (pa_cons (pv 0) pa_nil)))
    (pss_cons (ps_if (pt_not (pt_val (pe_call B hr (by rfl) gB kB bB .nil pass0 (pa_cons (pv 0) (pa_cons (pv 1) pa_nil)))))
      (pss_one (ps_raise (W := fun cls d _ H => E cls d H) rfl (takes_of rfl rfl rfl rfl) (pmk_own PySem.F.excBase_ValueError ER.made ER.named ER.keepC (raises_own ER.isExc ER.isCls) (by rfl)))) pss_nil) pss_never), ?_⟩
  exact ⟨_, rfl, _, true, rfl, hL.is ha, (fun z => nomatch z), fun _ H1 s1 => ⟨_, rfl, _, rfl, a, L, y, false, rfl, tupSame s1 ha, hy.mono s1, fun H2 s2 => ⟨_, rfl, iteT (k0 H2 (s1.trans s2))⟩⟩⟩
end
end K6
namespace K6
open PySem PySem.Spec PyProof.Rows L2 LamX LamY
/-! ### how a lambda's body ends, and what the law tells of it -/
inductive EndsAs (K : PySem.W.Frag) (CL CW CO CN CM : Addr) (t : XK → TE) (σ : L2.St) (Ha : Hp) : Str → Prop
  | letters (h : ∀ E Q, NilE E CL Ha → t E σ Ha Q) : EndsAs K CL CW CO CN CM t σ Ha "letters"
  | word (h : ∀ E Q, NilE E CW Ha → t E σ Ha Q) : EndsAs K CL CW CO CN CM t σ Ha "word"
  | operation (h : ∀ E Q, NilE E CO Ha → t E σ Ha Q) : EndsAs K CL CW CO CN CM t σ Ha "operation"
  | number {x : V} {z : Str} (sh : ∀ H', Same Ha H' → Shown K H' x z) (l : z.length ≤ 900) (h : ∀ E Q, NumE E CN x Ha → t E σ Ha Q) : EndsAs K CL CW CO CN CM t σ Ha ("number " ++ z)
  | many {i : Int} {z : Str} (sh : ∀ H', Shown K H' (.int i) z) (l : z.length ≤ 900) (h : ∀ E Q, ManyE E CM i Ha → t E σ Ha Q) : EndsAs K CL CW CO CN CM t σ Ha ("many " ++ z)
  | fine (h : ∀ E Q, (∀ v H', Same Ha H' → Q v H') → t E σ Ha Q) : EndsAs K CL CW CO CN CM t σ Ha ""
theorem due_word {z : Str} (h : z ≠ "") : dueV z = [.str "refused", .str z] := if_neg h
theorem due_fine : dueV "" = [.str "fine"] := if_pos rfl
section
variable {C : List Addr} {H1 H' : Hp}
theorem same_plus (s : Same (minus C H1) H') : Same H1 (plus C H1 H') := fun b u e => by
  by_cases c : b ∈ C
  · exact (plus_in c).trans e
  · exact (plus_out c).trans (s b u ((minus_out c).trans e))
theorem same_in {d : Addr} {o : HO} (s : Same (minus C H1) H') (hd : H' d = none) : Same (minus C H1) (plus C H1 (upd H' d o)) := fun b u e => by
  have c : b ∉ C := fun z => by rw [minus_in z] at e; cases e
  have e2 := s b u e
  exact (plus_out c).trans ((upd_ne (ne_of_none e2 hd)).trans e2)
theorem same_plus2 {d : Addr} {o : HO} (s : Same (minus C H1) H') (hd : H' d = none) : Same H1 (plus C H1 (upd H' d o)) := same_plus (s.trans (Same.new hd))
end
theorem num_ne {w z : Str} (h : w.cps.size ≠ 0) : w ++ z ≠ "" := fun e => by
  have h2 := congrArg (fun s : Str => s.cps.size) e
  have h3 : (w ++ z).cps = w.cps ++ z.cps := rfl
  have h4 : ("" : Str).cps.size = 0 := by decide +kernel
  simp only [h3, h4, Array.size_append] at h2
  omega
theorem met_as {X : Cx} {params : Arguments} {body : Expr} {scope : Scope} {pm : Value} {c' : Addr} {ctv : Value} {σ : L2.St} {t : XK → TE} {k : Nat} {f CL CW CO CN CM : Addr} {z : Str} {H Hx : Hp}
    (hf : Hx f = some (LamO (lamQ X) params body scope (cloFrom X.env.cells scope.names []) pm c' ctv)) (hn : f ∉ cellsOf X) (hc : Hx c' = some (CodeO c' (lamQ X))) (LS : LamS X.env.scope scope)
    (inj : ∀ (x y : Str) (c : Addr), X.env.cells.lookup x = some c → X.env.cells.lookup y = some c → x = y) (hfree : ∀ y ∈ scope.names, y.2 = NameKind.free → ∃ c, X.env.cells.lookup y.1 = some c) (len : σ.length = X.N.length) (ck : CellK X Hx) (cv : CellV X σ Hx)
    (bd : ∀ (q : Str) (cl : List (Str × Addr)) (pm cv ctv : Value), bindArgs (PySem.W.kla_fn "<lambda>" q params body scope cl pm cv ctv) {} = pure [])
    (hb : ∀ (A : Around) (outer : List Env) (s : Shared) (H : Hp) (E : XK) (f c' : Addr), Room k (A.deeper (lamEnv X scope s.heap.objs.size f c')) → PE (lamCx X A outer s H E scope f c') body (t E))
    (g : ∀ Ha, ExtN H Ha → EndsAs X.K CL CW CO CN CM t σ Ha z) (e : ExtN H (minus (cellsOf X) Hx)) : MetAs X.prog X.w X.K X.mg X.base k CL CW CO CN CM f z Hx := by
  refine ⟨_, ⟨X, params, body, scope, pm, c', ctv, σ, t, rfl, rfl, rfl, rfl, rfl, hf, hn, hc, LS, inj, hfree, len, ck, cv, bd, hb, rfl⟩, fun H1 Q s1 kq => ?_⟩
  have eg : ExtN H (minus (cellsOf X) H1) := fun b o q n => by
    have r := e b o q n
    have c : b ∉ cellsOf X := fun z => by rw [minus_in z] at r; cases r
    rw [minus_out c] at r
    exact (minus_out c).trans (s1 b o r)
  have out : ∀ {H' : Hp} {w : Str}, (w : Str) ≠ "" → Same H1 (plus (cellsOf X) H1 H') → (z = w) → ∀ p, plus (cellsOf X) H1 H' p = none → Q (.ref p) (upd (plus (cellsOf X) H1 H') p (two tR (.str w))) := fun {H' w} hw s e p hp => by
    subst e
    refine kq _ p (s.trans (Same.new hp)) ?_
    rw [upd_same, due_word hw]
    rfl
  show t _ σ (minus (cellsOf X) H1) _
  cases g _ eg with
  | letters h => exact h _ _ fun H' s _ => .inl ⟨rfl, out (by decide) (same_plus s) rfl⟩
  | word h => exact h _ _ fun H' s _ => .inr (.inl ⟨rfl, out (by decide) (same_plus s) rfl⟩)
  | operation h => exact h _ _ fun H' s _ => .inr (.inr (.inl ⟨rfl, out (by decide) (same_plus s) rfl⟩))
  | @number x z' sh l h =>
    refine h _ _ fun H' d s hd nn => .inr (.inr (.inr (.inl ⟨rfl, d, x, z', rfl, ?_, sh _ (same_in s hd), l, out (num_ne (by decide +kernel)) (same_plus2 s hd) rfl⟩)))
    have c : d ∉ cellsOf X := fun q => by
      have := nn d q
      rw [upd_same] at this
      cases this
    exact (plus_out c).trans upd_same
  | @many i z' sh l h =>
    refine h _ _ fun H' d s hd nn => .inr (.inr (.inr (.inr ⟨rfl, d, .int i, z', rfl, ?_, sh _, l, out (num_ne (by decide +kernel)) (same_plus2 s hd) rfl⟩)))
    have c : d ∉ cellsOf X := fun q => by
      have := nn d q
      rw [upd_same] at this
      cases this
    exact (plus_out c).trans upd_same
  | fine h =>
    refine h _ _ fun v H' s => ⟨by show 1 ≤ sizeLine; decide, fun p hp => ?_⟩
    refine kq _ p ((same_plus s).trans (Same.new hp)) ?_
    rw [upd_same, due_fine]
end K6
namespace K6
open PySem PySem.Spec PyProof.Rows L2 LamX
/-! ### what drawn data are for the program -/
def dbet (lo hi : Int) : PyData → Bool
  | .int i => betw (.int i) lo hi
  | _ => false
def d60 : PyData → Bool
  | .int i => i60 (.int i)
  | _ => false
def dtup (n : Nat) (lo hi : Int) : PyData → Bool
  | .tuple ds => decide (ds.length ≤ n) && ds.all (dbet lo hi)
  | _ => false
section
variable {K : PySem.W.Frag} {N : Addr → Prop} {H : Hp} {x : V} {xs : List V} {d : PyData} {ds : List PyData}
theorem Da.betw (h : Da N H x d) (lo hi : Int) : K6.betw x lo hi = dbet lo hi d := by cases h <;> rfl
theorem Da.i60 (h : Da N H x d) : K6.i60 x = d60 d := by cases h <;> rfl
theorem DaL.all_bet (lo hi : Int) : ∀ {xs : List V} {ds : List PyData}, DaL N H xs ds → (xs.all fun x => K6.betw x lo hi) = ds.all (dbet lo hi)
  | _, [], h => by cases h; rfl
  | _, d :: ds, h => by
    cases h with
    | cons h r => rw [List.all_cons, List.all_cons, h.betw, DaL.all_bet lo hi r]
theorem DaL.ints : ∀ {L : List Int} {xs : List V}, DaL N H xs (L.map PyData.int) → xs = iV L
  | [], _, h => by cases h; rfl
  | i :: L, _, h => by
    cases h with
    | cons h r =>
      cases h
      rw [DaL.ints r]
      rfl
theorem bet_ints {lo hi : Int} : ∀ {ds : List PyData}, ds.all (dbet lo hi) = true → ∃ L : List Int, ds = L.map PyData.int ∧ ∀ i ∈ L, lo ≤ i ∧ i ≤ hi
  | [], _ => ⟨[], rfl, fun _ h => nomatch h⟩
  | d :: ds, h => by
    rw [List.all_cons, Bool.and_eq_true] at h
    obtain ⟨L, e, q⟩ := bet_ints h.2
    cases d with
    | int i =>
      have b : (K6.i60 (.int i) && (decide (lo ≤ i) && decide (i ≤ hi))) = true := h.1
      rw [Bool.and_eq_true, Bool.and_eq_true] at b
      refine ⟨i :: L, by rw [e]; rfl, fun j hj => ?_⟩
      rcases List.mem_cons.mp hj with z | z
      · rw [z]
        exact ⟨of_decide_eq_true b.2.1, of_decide_eq_true b.2.2⟩
      · exact q j z
    | none => cases h.1
    | bool b => cases h.1
    | str z => cases h.1
    | list l => cases h.1
    | tuple l => cases h.1
    | dict l => cases h.1
theorem Da.tupIs (h : Da N H x d) (n : Nat) (lo hi : Int) : TupIs K H n lo hi x (dtup n lo hi d) := by
  cases h with
  | non => exact .non
  | bl b => exact .bl b
  | int i => exact .int i
  | str z => exact .str z
  | @tup a xs ds e h =>
    show TupIs K H n lo hi (.ref a) (decide (ds.length ≤ n) && ds.all (dbet lo hi))
    have l := h.len
    by_cases c : ds.length ≤ n
    · rw [decide_eq_true c, Bool.true_and, ← h.all_bet]
      exact .tup (SqT.of e) (by omega) fun y hy => h.vks hy
    · rw [decide_eq_false c, Bool.false_and]
      exact .long (SqT.of e) (by omega)
  | lst e n h => exact .lst e
  | dic e => exact .dic e
theorem Da.letIs (h : Da N H x d) : LetIs K H x (dtup 24 1 40 d) := by
  cases h with
  | non => exact .non
  | bl b => exact .bl b
  | int i => exact .int i
  | str z => exact .str z
  | @tup a xs ds e h =>
    show LetIs K H (.ref a) (decide (ds.length ≤ 24) && ds.all (dbet 1 40))
    have l := h.len
    by_cases c : ds.length ≤ 24
    · rw [decide_eq_true c, Bool.true_and, ← h.all_bet]
      exact .tup (SqT.of e) (by omega) fun y hy => h.vks hy
    · rw [decide_eq_false c, Bool.false_and]
      exact .long (SqT.of e) (by omega)
  | lst e n h => exact .lst e
  | dic e => exact .dic e
/-! ### words -/
def dv : PyData → V
  | .int i => .int i
  | .bool b => .bl b
  | .str z => .str z
  | _ => .non
def dsim : PyData → Bool
  | .int i => decide (i.natAbs < 2 ^ 300)
  | .bool _ => true
  | .str _ => true
  | .none => true
  | _ => false
def dsims : PyData → Bool
  | .tuple ds => ds.all dsim && decide (ds.length ≤ 1000)
  | _ => true
def dword : PyData → Option (List V)
  | .tuple ds => some (ds.map dv)
  | _ => none
theorem DaL.simple : ∀ {xs : List V} {ds : List PyData}, ds.all dsim = true → DaL N H xs ds → xs = ds.map dv
  | _, [], _, h => by cases h; rfl
  | _, d :: ds, s, h => by
    rw [List.all_cons, Bool.and_eq_true] at s
    cases h with
    | cons h r =>
      rw [DaL.simple s.2 r, List.map_cons]
      congr 1
      cases h with
      | non => rfl
      | bl b => rfl
      | int i => rfl
      | str z => rfl
      | tup e h => cases s.1
      | lst e n h => cases s.1
      | dic e => cases s.1
theorem Da.wdIs (h : Da N H x d) (ok : dsims d = true) : WdIs K H x (dword d) := by
  cases h with
  | non => exact .out .non
  | bl b => exact .out (.bl b)
  | int i => exact .out (.int i)
  | str z => exact .out (.str z)
  | @tup a xs ds e h =>
    have ok : (ds.all dsim && decide (ds.length ≤ 1000)) = true := ok
    rw [Bool.and_eq_true] at ok
    have ex := DaL.simple ok.1 h
    subst ex
    refine .tup (SqT.of e) (by rw [List.length_map]; exact of_decide_eq_true ok.2) (fun y hy => h.vks hy) fun i hi => ?_
    obtain ⟨d, hd, e2⟩ := List.mem_map.mp hi
    have s := List.all_eq_true.mp ok.1 d hd
    cases d with
    | int j =>
      cases e2
      exact of_decide_eq_true s
    | none => cases e2
    | bool b => cases e2
    | str z => cases e2
    | list l => cases e2
    | tuple l => cases e2
    | dict l => cases e2
  | lst e n h => exact .out (.lst e)
  | dic e => exact .out (.dic e)
/-! ### drawn data -/
theorem pick_dat {S : List Addr} {H : Hp} {σ : L2.St} {d : Addr} {L : List V} {ds : List PyData} {Q : VK} (h0 : σ[0]? = some (some (.ref d))) (hd : H d = some (.lst L)) (hL : DiceL L) (dS : d ∈ S) (hS : ∀ s ∈ S, H s ≠ none) (n0 : ds ≠ []) (n1 : ds.length < 1000)
    (k : ∀ x dx L' H', dx ∈ ds → Ds S H' x dx → Kq S H H' → H' d = some (.lst L') → DiceL L' → Q x H') : tCall spPick [] C8.E0 (tCons (tVar 0) (tCons (tDat (.list ds)) tNil)) σ H Q := by
  refine ⟨_, h0, fun x H1 s1 dn => ?_⟩
  cases dn with
  | @lst a xs _ e n h =>
    have hd1 := s1 _ _ hd
    have ne : a ≠ d := fun z => by
      rw [z] at n
      rw [hd] at n
      cases n
    have l := h.len
    refine ⟨d, a, xs, L, rfl, hd1, hL, e, ne, fun z => n0 (List.eq_nil_of_length_eq_zero (by rw [← l, z]; rfl)), by omega, fun y L' hy hL' => ?_⟩
    obtain ⟨dy, my, hy⟩ := h.mem hy
    have kw : Kq S H1 (upd H1 d (.lst L')) := .write dS hd1
    exact k y dy L' _ my ((Dn.apart hy hS).mono kw.kp) ((Kq.same s1).trans kw) upd_same hL'
end
end K6
namespace K6
open PySem PySem.Spec PyProof.Rows L2 LamX LamY
/-! ### a def that makes lambdas, has them met at once, or keeps them -/
structure LamB (X : Cx) (k : Nat) (params : Arguments) (body : Expr) (scope : Scope) (t : XK → TE) : Prop where
  ls : LamS X.env.scope scope
  fr : ∀ y ∈ scope.names, y.2 = NameKind.free → ∃ c, X.env.cells.lookup y.1 = some c
  bd : ∀ (q : Str) (cl : List (Str × Addr)) (pm cv ctv : Value), bindArgs (PySem.W.kla_fn "<lambda>" q params body scope cl pm cv ctv) {} = pure []
  hb : ∀ (A : Around) (outer : List Env) (s : Shared) (H : Hp) (E : XK) (f c' : Addr), Room k (A.deeper (lamEnv X scope s.heap.objs.size f c')) → PE (lamCx X A outer s H E scope f c') body (t E)
def LamAt (X : Cx) (params : Arguments) (body : Expr) (scope : Scope) (H : Hp) (f : Addr) : Prop := ∃ (pm : Value) (c' : Addr) (ctv : Value), H f = some (LamO (lamQ X) params body scope (cloFrom X.env.cells scope.names []) pm c' ctv) ∧ H c' = some (CodeO c' (lamQ X))
theorem LamAt.ext {X : Cx} {params : Arguments} {body : Expr} {scope : Scope} {H H' : Hp} {f : Addr} (h : LamAt X params body scope H f) (e : ExtN H H') : LamAt X params body scope H' f := by
  obtain ⟨pm, c', ctv, h1, h2⟩ := h
  exact ⟨pm, c', ctv, e _ _ h1 (fun _ z => nomatch z), e _ _ h2 fun _ z => by unfold CodeO at z; cases z⟩
def Inj (X : Cx) : Prop := ∀ (x y : Str) (c : Addr), X.env.cells.lookup x = some c → X.env.cells.lookup y = some c → x = y
theorem extN_minus {X : Cx} {H Hx : Hp} (n : ∀ b ∈ cellsOf X, H b = none) (out : ∀ b, b ∉ cellsOf X → Hx b = H b) : ExtN H (minus (cellsOf X) Hx) := fun b o e _ => by
  have c : b ∉ cellsOf X := fun z => by rw [n b z] at e; cases e
  exact (minus_out c).trans ((out b c).trans e)
section
variable {X : Cx} {T : List (Addr × Str)} {k : Nat} {params : Arguments} {body : Expr} {scope : Scope} {t : XK → TE} {σ : L2.St} {H Hx : Hp} {f CL CW CO CN CM : Addr} {z : Str}
theorem as_met (B : LamB X k params body scope t) (inj : Inj X) (len : σ.length = X.N.length) (a : LamAt X params body scope H f) (n : ∀ b ∈ cellsOf X, H b = none) (out : ∀ b, b ∉ cellsOf X → Hx b = H b) (ck : CellK X Hx) (cv : CellV X σ Hx) (g : ∀ Ha, ExtN H Ha → EndsAs X.K CL CW CO CN CM t σ Ha z) :
    MetAs X.prog X.w X.K X.mg X.base k CL CW CO CN CM f z Hx := by
  obtain ⟨pm, c', ctv, h1, h2⟩ := a
  have n1 : f ∉ cellsOf X := fun z => by rw [n f z] at h1; cases h1
  have n2 : c' ∉ cellsOf X := fun z => by rw [n c' z] at h2; cases h2
  exact met_as ((out f n1).trans h1) n1 ((out c' n2).trans h2) B.ls inj B.fr len ck cv B.bd B.hb g (extN_minus n out)
theorem lamAt_new {H1 : Hp} {pm : Value} {c' : Addr} {ctv : Value} (n : H1 f = none) (hc : H1 c' = some (CodeO c' (lamQ X))) : LamAt X params body scope (upd H1 f (LamO (lamQ X) params body scope (cloFrom X.env.cells scope.names []) pm c' ctv)) f :=
  ⟨pm, c', ctv, upd_same, by rw [upd_ne (ne_of_none hc n)]; exact hc⟩
theorem extN_new {H H1 : Hp} {o : HO} (e : ExtN H H1) (n : H1 f = none) : ExtN H (upd H1 f o) := fun b u q t => by
  have r := e b u q t
  rw [upd_ne (ne_of_none r n)]
  exact r
theorem tabs_minus {H1 H2 : Hp} (t : Tabs T H1) (n : ∀ b ∈ cellsOf X, H1 b = none) (out : ∀ b, b ∉ cellsOf X → Hx b = H1 b) (s : Same Hx H2) : Tabs T (minus (cellsOf X) H2) := fun p hp => (t p hp).ext fun b u e => by
  have c : b ∉ cellsOf X := fun z => by rw [n b z] at e; cases e
  exact (minus_out c).trans (s b u ((out b c).trans e))
abbrev tMetCall (X : Cx) (T : List (Addr × Str)) (k : Nat) (CL CW CO CN CM : Addr) (params : Arguments) (body : Expr) (scope : Scope) : TE := fun σ H Q => tCons (tLamV X T params body scope) tNil σ H fun vs H1 => (∀ b ∈ cellsOf X, H1 b = none) → ∀ Hx, (∀ b, b ∉ cellsOf X → Hx b = H1 b) → CellK X Hx → CellV X σ Hx →
  spMet X.prog X.w X.K X.mg X.base k CL CW CO CN CM vs Hx (fun v H2 => Q v (minus (cellsOf X) H2)) E0
theorem met_call {Q : VK} (B : LamB X k params body scope t) (inj : Inj X) (len : σ.length = X.N.length) (hT : Tabs T H) (g : ∀ Ha, ExtN H Ha → EndsAs X.K CL CW CO CN CM t σ Ha z) (q : ∀ H2 p, ExtN H H2 → Tabs T H2 → H2 p = some (.tup (dueV z)) → Q (.ref p) H2) :
    tMetCall X T k CL CW CO CN CM params body scope σ H Q := by
  refine ⟨hT, fun f c' pm ctv H1 e t1 nf hc n Hx out ck cv => ?_⟩
  have eF := extN_new (o := LamO (lamQ X) params body scope (cloFrom X.env.cells scope.names []) pm c' ctv) e nf
  obtain ⟨tl, L, tm⟩ := as_met (CL := CL) (CW := CW) (CO := CO) (CN := CN) (CM := CM) (z := z) B inj len (lamAt_new nf hc) n out ck cv fun Ha ea => g Ha fun b o q t => ea b o (eF b o q t) t
  refine ⟨f, tl, rfl, L, tm Hx _ (Same.refl _) fun H2 p s2 hp => q _ p (fun b o qq t => ?_) (tabs_minus (tabs_known (H := H1) t1 nf) n out s2) ?_⟩
  · have r := eF b o qq t
    have c : b ∉ cellsOf X := fun z => by rw [n b z] at r; cases r
    exact (minus_out c).trans (s2 b o ((out b c).trans r))
  · refine (minus_out fun z => ?_).trans hp
    obtain ⟨o, _, g1, _⟩ := ck p z
    rw [s2 _ _ g1] at hp
    cases hp
end
end K6
namespace K6
open PySem PySem.Spec PyProof.Rows L2 LamX LamY
/-! ### a call of a def that a variable holds -/
theorem fn_wide {P : Program} {w : World} {K : PySem.W.Frag} {mg : Str → Option Value} {base : Heap} {k : Nat} {f : Addr} {fd : FuncData} {ps : List Str} {sp : Sp} (F : FnOk P w K mg base CX0 k f fd ps sp) : FnOk P w K mg base (L2.CX P w) k f fd ps sp :=
  ⟨F.len, fun A outer s H args us vs Q E hr e0 hb r h => codeAny_mono (F.run A outer s H args us vs Q E hr e0 hb r h) fun r' s' q => by
    cases r' with
    | error e => exact q.elim
    | ok fl =>
      cases fl with
      | ret u => exact q
      | next => exact q.elim
      | brk => exact q.elim
      | cont => exact q.elim⟩
def tCallV (Z : Cx) (k i : Nat) (t : TA) (E : XK) : TE := fun σ H Q => ∃ (f : Addr) (fd : FuncData) (ps : List Str) (sp : Sp), σ[i]? = some (some (.ref f)) ∧ FnOk Z.prog Z.w Z.K Z.mg Z.base (L2.CX Z.prog Z.w) k f fd ps sp ∧ PySem.W.keepIn Z.K (.ref f) = true ∧ Binds Z.K fd ps [] ∧ t σ H fun vs H1 => sp vs H1 Q E
theorem pe_callV {Z : Cx} {k i : Nat} {E : XK} {a : Str} {p1 p2 : Pos} {e : Expr} {es : List Expr} {t : TA} (hps : Passes (L2.CX Z.prog Z.w) Z E) (hr : Room k Z.A) (ha : PA Z (e :: es) t) (hN : Z.N[i]? = some a := by rfl) (hv : Vis Z.env.scope a := by exact .inr (.inr rfl)) (hd1 : (a == ("__debug__" : Str)) = false := by decide) (hd2 : (a == ("__classdict__" : Str)) = false := by decide)
    (he : starEach (e :: es) Z.env = (false, eval e Z.env) :: starEach es Z.env := by rfl) (hpl : (backTo p2 (starEach es Z.env)).any (·.1) = false := by rfl) : PE Z (.Call (.Name a p1) (e :: es) [] p2) (tCallV Z k i t E) := by
  refine ⟨fun pins s σ H Q I h => ?_⟩
  obtain ⟨f, fd, ps, sp, hi, F, hk, hb, q⟩ := h
  refine wpAny_Call_Name_kw (thn ((pv (X := Z) (pos := p1) i hN hv hd1 hd2).run pins s σ H (fun v H1 => v = .ref f ∧ H1 = H) I ⟨_, hi, rfl, rfl⟩) fun u s1 z => ?_)
  obtain ⟨v, H1, I1, rv, rfl, rfl⟩ := z
  obtain rfl : u = Value.ref f := rv
  refine PySem.W.callWith_K (h₀ := Z.base) I1.ok.mod.kin hk (thn (ha.run p2 pins s1 σ _ _ I1 q) fun us s2 ⟨vs, H2, I2, r, q2⟩ => ⟨I2.kIn, run_fn F hr hb (dvs := []) .nil hps I2 r (by rw [List.append_nil]; exact q2)⟩) he hpl
/-! ### the two ways in which a maker hands its lambdas on -/
def KeptL (X : Cx) (k : Nat) (t : XK → TE) (H : Hp) (f : Addr) : Prop := ∃ params body scope, LamB X k params body scope t ∧ LamAt X params body scope H f
theorem KeptL.ext {X : Cx} {k : Nat} {t : XK → TE} {H H' : Hp} {f : Addr} (h : KeptL X k t H f) (e : ExtN H H') : KeptL X k t H' f := by
  obtain ⟨params, body, scope, B, a⟩ := h
  exact ⟨params, body, scope, B, a.ext e⟩
theorem KeptL.write {X : Cx} {k : Nat} {t : XK → TE} {H : Hp} {f l : Addr} {xs : List V} {o : HO} (h : KeptL X k t H f) (e : H l = some (.lst xs)) : KeptL X k t (upd H l o) f := by
  obtain ⟨params, body, scope, B, pm, c', ctv, h1, h2⟩ := h
  refine ⟨params, body, scope, B, pm, c', ctv, ?_, ?_⟩
  · rw [upd_ne fun z => by rw [z, e] at h1; cases h1]
    exact h1
  · rw [upd_ne fun z => by rw [z, e] at h2; unfold CodeO at h2; cases h2]
    exact h2
def tKeep (X : Cx) (T : List (Addr × Str)) (k : Nat) (t : XK → TE) : TE := fun _ H Q => Tabs T H ∧ ∀ f H2, ExtN H H2 → Tabs T H2 → KeptL X k t H2 f → Q (.ref f) H2
def tMet2 (X : Cx) (T : List (Addr × Str)) (CL CW CO CN CM : Addr) (t : XK → TE) : TE := fun σ H Q => Tabs T H ∧ σ.length = X.N.length ∧ ∃ z : Str, (∀ Ha, ExtN H Ha → EndsAs X.K CL CW CO CN CM t σ Ha z) ∧ ∀ H2 p, ExtN H H2 → Tabs T H2 → H2 p = some (.tup (dueV z)) → Q (.ref p) H2
theorem pe_impL {X : Cx} {e : Expr} {t t' : TE} (h : PE X e t) (i : ∀ σ H Q, t' σ H Q → t σ H Q) : PE X e t' := ⟨fun pins s σ H Q I q => h.run pins s σ H Q I (i _ _ _ q)⟩
section
variable {X : Cx} {T : List (Addr × Str)} {c P : Addr} {k : Nat} {CL CW CO CN CM : Addr} {params : Arguments} {body : Expr} {scope : Scope} {t : XK → TE}
theorem pe_keep {pos : Pos} (B : LamB X k params body scope t) (TB : TabB X.base X.mg c P) (hcode : X.env.code = .ref c) (hm : (P, lamQ X) ∈ T) (hu : ∀ p ∈ T, p.1 = P → p.2 = lamQ X) (hdef : defaultsOf params X.env = ([], [])) :
    PE X (.Lambda params body scope pos) (tKeep X T k t) :=
  pe_impL (pe_lamval TB hcode hm hu hdef B.fr) fun σ H Q h => ⟨h.1, fun f c' pm ctv H1 e t1 n hc => h.2 f _ (extN_new e n) (tabs_known (H := H1) t1 n) ⟨params, body, scope, B, lamAt_new n hc⟩⟩
theorem pe_met2 {fM : Addr} {dM : FuncData} {p lpos pos : Pos} (B : LamB X k params body scope t) (TB : TabB X.base X.mg c P) (hcode : X.env.code = .ref c) (hm : (P, lamQ X) ∈ T) (hu : ∀ p ∈ T, p.1 = P → p.2 = lamQ X) (hdef : defaultsOf params X.env = ([], []))
    (FM : LamY.FnG X.prog X.w X.K X.mg X.base CX0 (k + 2) fM dM ["call"] (spMet X.prog X.w X.K X.mg X.base k CL CW CO CN CM)) (hgd : X.A.guards = some []) (hr : Room (k + 2) X.A) (hg : Gl X "_law_met") (gM : X.mg "_law_met" = some (.ref fM)) (kM : PySem.W.keepIn X.K (.ref fM) = true) (bM : Binds X.K dM ["call"] [])
    (hcl : Cells X) (hfn : ∀ y, X.fn y = true) (hvis : ∀ y c, X.env.cells.lookup y = some c → X.env.scope.names.lookup y = some NameKind.cell) (inj : Inj X) :
    PE X (.Call (.Name "_law_met" p) [.Lambda params body scope lpos] [] pos) (tMet2 X T CL CW CO CN CM t) :=
  pe_impL (pe_callC FM hgd hr hg gM kM bM hcl hfn hvis (pa_cons (pe_lamval TB hcode hm hu hdef B.fr) pa_nil)) fun σ H Q h => by
    obtain ⟨hT, len, z, g, q⟩ := h
    exact met_call B inj len hT g q
theorem kept_met {σ : L2.St} {H Hx : Hp} {f : Addr} {z : Str} (h : KeptL X k t H f) (inj : Inj X) (len : σ.length = X.N.length) (n : ∀ b ∈ cellsOf X, H b = none) (out : ∀ b, b ∉ cellsOf X → Hx b = H b) (ck : CellK X Hx) (cv : CellV X σ Hx) (g : ∀ Ha, ExtN H Ha → EndsAs X.K CL CW CO CN CM t σ Ha z) :
    MetAs X.prog X.w X.K X.mg X.base k CL CW CO CN CM f z Hx := by
  obtain ⟨params, body, scope, B, a⟩ := h
  exact as_met B inj len a n out ck cv g
end
end K6
namespace K6
open PySem PySem.Spec PyProof.Rows L2 LamX LamY
abbrev nWR : List Str := ["dice", "none", "bad", "three", "call", "told", "calls"]
theorem scWR : FnScope nWR ["dice"] (defScope sWordsR) := ⟨rfl, rfl, rfl, by decide +kernel, rfl, by decide +kernel, by decide +kernel⟩
def qWR : Str := (envOfC "_law_words_right" (defScope sWordsR) 0 0 .none).qual ++ ("<lambda>" : Str)
def noneW : List PyData := [.none, .int 2, .list [.int 2, .int 3], .tuple [.int 0], .tuple [.int 41], .tuple [.int 2, .bool true], .tuple [.str "2"], .tuple (List.replicate (25 : Int).toNat [.int 2]).flatten, .dict [], .tuple [.int (-1)], .str "letters", .tuple [.tuple [.int 2]]]
def badW : List PyData := [.none, .int 1, .list [.int 0, .int 0, .int 0], .tuple [.int 0, .int 0], .tuple [.int 0, .int 2, .int 0], .tuple [.int (-1), .int 0, .int 0], .tuple [.int 0, .bool true, .int 0], .tuple [.str "0", .int 0, .int 0], .tuple [.int 201, .int 0, .int 0], .dict [], .tuple [.int 0, .int 0, .int 0, .int 0], .str "word"]
theorem of_not {b : Bool} (h : (!b) = true) : b = false := by rw [Bool.not_eq_true'] at h; exact h
theorem noneW_ok : noneW.all (fun d => !dtup 24 1 40 d) = true := by decide +kernel
theorem badW_ok : badW.all (fun d => dsims d && !wordB [2, 3, 3] (dword d)) = true := by decide +kernel
def spWR (T : List (Addr × Str)) : Sp := fun vs H Q _ => ∃ (d : Addr) (L : List V), vs = [.ref d] ∧ H d = some (.lst L) ∧ DiceL L ∧ Tabs T H ∧ ∀ H' L', (∀ b o, b ≠ d → H b = some o → NoTbl o → H' b = some o) → H' d = some (.lst L') → DiceL L' → Tabs T H' → Q (.bl true) H'
section
variable {P : Program} {w : World} {K : PySem.W.Frag} {mg : Str → Option Value} {base : Heap} {CL CW CO CN CM fPi fMe fAr fDg fLn fEv fOd fTo fPd fWB : Addr} {dPi dMe dAr dDg dLn dEv dOd dTo dPd dWB : FuncData}
theorem ok_wr {f c P1 : Addr} {T : List (Addr × Str)} {kV doc pm ct oc : Value} {an od : Option Addr} {osl : Array (Option Value)} (mT : (P1, qWR) ∈ T) (uT : ∀ p ∈ T, p.1 = P1 → p.2 = qWR)
    (lk : K.lookup f = some ⟨oc, od, .func (PySem.W.fnOf "_law_words_right" "_law_words_right" (defArgs sWordsR) (defBody sWordsR) (defScope sWordsR) .none kV doc pm an (.ref c) ct), osl⟩)
    (hcd : PySem.W.codeIn K (.ref c) "_law_words_right" = true) (TB : TabB base mg c P1)
    (gPi : mg "_law_pick" = some (.ref fPi)) (kPi : PySem.W.keepIn K (.ref fPi) = true) (bPi : Binds K dPi ["dice", "items"] []) (FPi : FnOk P w K mg base CX0 2 fPi dPi ["dice", "items"] spPick)
    (gMe : mg "_law_met" = some (.ref fMe)) (kMe : PySem.W.keepIn K (.ref fMe) = true) (bMe : Binds K dMe ["call"] []) (FMe : LamY.FnG P w K mg base CX0 11 fMe dMe ["call"] (spMet P w K mg base 9 CL CW CO CN CM))
    (gAr : mg "_law_are_met" = some (.ref fAr)) (kAr : PySem.W.keepIn K (.ref fAr) = true) (bAr : Binds K dAr ["calls", "due"] []) (FAr : LamY.FnG P w K mg base CX0 12 fAr dAr ["calls", "due"] (spAre P w K mg base 9 CL CW CO CN CM))
    (gDg : mg "word_degree" = some (.ref fDg)) (kDg : PySem.W.keepIn K (.ref fDg) = true) (bDg : Binds K dDg ["letters", "word"] []) (FDg : FnOk P w K mg base (L2.CX P w) 7 fDg dDg ["letters", "word"] (spBadLW K CL CW)) (FDg2 : FnOk P w K mg base CX0 7 fDg dDg ["letters", "word"] (spWDeg K dgz))
    (gLn : mg "word_length" = some (.ref fLn)) (kLn : PySem.W.keepIn K (.ref fLn) = true) (bLn : Binds K dLn ["letters", "word"] []) (FLn : FnOk P w K mg base (L2.CX P w) 7 fLn dLn ["letters", "word"] (spBadLW K CL CW)) (FLn2 : FnOk P w K mg base CX0 7 fLn dLn ["letters", "word"] (spWDeg K fun _ W => W.sum))
    (gEv : mg "even_letters" = some (.ref fEv)) (kEv : PySem.W.keepIn K (.ref fEv) = true) (bEv : Binds K dEv ["letters"] []) (FEv : FnOk P w K mg base (L2.CX P w) 6 fEv dEv ["letters"] (spBadL K CL))
    (gOd : mg "odd_letters" = some (.ref fOd)) (kOd : PySem.W.keepIn K (.ref fOd) = true) (bOd : Binds K dOd ["letters"] []) (FOd : FnOk P w K mg base (L2.CX P w) 6 fOd dOd ["letters"] (spBadL K CL))
    (gTo : mg "top_word" = some (.ref fTo)) (kTo : PySem.W.keepIn K (.ref fTo) = true) (bTo : Binds K dTo ["letters"] []) (FTo : FnOk P w K mg base (L2.CX P w) 6 fTo dTo ["letters"] (spBadL K CL)) (FTO : FnOk P w K mg base (L2.CX P w) 6 fTo dTo ["letters"] (spTopOp K CO)) (FTR : FnOk P w K mg base CX0 6 fTo dTo ["letters"] (spTop K))
    (gPd : mg "word_product" = some (.ref fPd)) (kPd : PySem.W.keepIn K (.ref fPd) = true) (bPd : Binds K dPd ["letters", "one", "other"] []) (FPd : FnOk P w K mg base (L2.CX P w) 7 fPd dPd ["letters", "one", "other"] (spBadProd K CL CW))
    (gWB : mg "is_word" = some (.ref fWB)) (kWB : PySem.W.keepIn K (.ref fWB) = true) (bWB : Binds K dWB ["letters", "value"] []) (FWB : FnOk P w K mg base (L2.CX P w) 6 fWB dWB ["letters", "value"] (spBadLV K CL)) (FWR : FnOk P w K mg base CX0 6 fWB dWB ["letters", "value"] (spIsPass K)) :
    LamY.FnG P w K mg base CX0 13 f (PySem.W.fnOf "_law_words_right" "_law_words_right" (defArgs sWordsR) (defBody sWordsR) (defScope sWordsR) .none kV doc pm an (.ref c) ct) ["dice"] (spWR T) := by
  refine ⟨fun vs H Q E h => ?_, fun A outer s H args us vs Q E hgd hr e0 hb r h => ?_⟩
  · obtain ⟨d, L, rfl, _⟩ := h; rfl
  have hlen : vs.length = (["dice"] : List Str).length := by obtain ⟨d, L, rfl, _⟩ := h; rfl
  refine run_ofS (N := nWR) (k := 12) lk hcd scWR hr e0 hb r hlen fun hr => ?_
  obtain ⟨d, L, rfl, hd, hL, hT, k⟩ := h
  have hr2 : Room 2 _ := hr.mono (by decide)
  have hr11 : Room 11 _ := hr.mono (by decide)
  have FTO' := FTO
  have gTO := gTo
  have gTR := gTo
  have kTO := kTo
  have kTR := kTo
  have bTO := bTo
  have bTR := bTo
  have gWR := gWB
  have kWR := kWB
  have bWR := bWB
  have FWR := fn_wide FWR
  have FTR := fn_wide FTR
  have ec : (cxOf CX0 P w K mg base nWR "_law_words_right" (defScope sWordsR) f (.ref c) A outer s H E).nox.env.cells = [(("three" : Str), s.heap.objs.size + 1 + 1 + 1 + 1), ("none", s.heap.objs.size + 1 + 1 + 1), ("call", s.heap.objs.size + 1 + 1), ("bad", s.heap.objs.size + 1)] := rfl
  have mem4 : ∀ {p q1 q2 q3 q4 : Str × Addr}, p ∈ [q1, q2, q3, q4] → p = q1 ∨ p = q2 ∨ p = q3 ∨ p = q4 := fun {p q1 q2 q3 q4} h => by simpa using h
  have hcl : Cells (cxOf CX0 P w K mg base nWR "_law_words_right" (defScope sWordsR) f (.ref c) A outer s H E).nox := fun p hp => by
    rw [ec] at hp ⊢
    rcases mem4 hp with e | e | e | e <;> subst e <;> rfl
  have hfn : ∀ y, (cxOf CX0 P w K mg base nWR "_law_words_right" (defScope sWordsR) f (.ref c) A outer s H E).nox.fn y = true := fun _ => rfl
  have hvis : ∀ y c', (cxOf CX0 P w K mg base nWR "_law_words_right" (defScope sWordsR) f (.ref c) A outer s H E).nox.env.cells.lookup y = some c' → (cxOf CX0 P w K mg base nWR "_law_words_right" (defScope sWordsR) f (.ref c) A outer s H E).nox.env.scope.names.lookup y = some NameKind.cell := fun y c' e => by
    rw [ec] at e
    rcases mem4 (PySem.mem_of_lookup e) with e | e | e | e <;> cases e <;> rfl
  have hinj : Inj (cxOf CX0 P w K mg base nWR "_law_words_right" (defScope sWordsR) f (.ref c) A outer s H E).nox := fun x y c' e1 e2 => by
    rw [ec] at e1 e2
    rcases mem4 (PySem.mem_of_lookup e1) with h | h | h | h <;> rcases mem4 (PySem.mem_of_lookup e2) with g | g | g | g <;> first
      | exact (congrArg Prod.fst h).trans (congrArg Prod.fst g).symm
      | (have a1 : c' = _ := congrArg Prod.snd h; have a2 : c' = _ := congrArg Prod.snd g; exact absurd (a1.symm.trans a2) (by generalize s.heap.objs.size = n; show ¬ (_ : Nat) = _; omega))
  have hcell : ∀ y : Str, (defScope sWordsR).names.lookup y = some .cell → ∃ c, (cxOf CX0 P w K mg base nWR "_law_words_right" (defScope sWordsR) f (.ref c) A outer s H E).nox.env.cells.lookup y = some c := fun y e => by
    have h : ((defScope sWordsR).names.all fun y => !decide (y.2 = .cell) || ((cxOf CX0 P w K mg base nWR "_law_words_right" (defScope sWordsR) f (.ref c) A outer s H E).nox.env.cells.lookup y.1).isSome) = true := rfl
    have h1 := List.all_eq_true.mp h _ (PySem.mem_of_lookup e)
    exact Option.isSome_iff_exists.mp h1
  have fr : ∀ {scope : Scope}, ((scope.names.all fun y => !decide (y.2 = NameKind.free) || decide ((defScope sWordsR).names.lookup y.1 = some .cell)) = true) → ∀ y ∈ scope.names, y.2 = NameKind.free → ∃ c, (cxOf CX0 P w K mg base nWR "_law_words_right" (defScope sWordsR) f (.ref c) A outer s H E).nox.env.cells.lookup y.1 = some c := fun {scope} h y hy e => by
    have h1 := List.all_eq_true.mp h y hy
    rw [e] at h1
    exact hcell _ (of_decide_eq_true h1)
  have bld : ∀ {params : Arguments} {body : Expr} {scope : Scope} {t : XK → TE}, lamSB (defScope sWordsR) scope = true → ((scope.names.all fun y => !decide (y.2 = NameKind.free) || decide ((defScope sWordsR).names.lookup y.1 = some .cell)) = true) →
      (∀ (q : Str) (cl : List (Str × Addr)) (pm cv ctv : Value), bindArgs (PySem.W.kla_fn "<lambda>" q params body scope cl pm cv ctv) {} = pure []) →
      (∀ (A' : Around) (outer' : List Env) (s' : Shared) (H' : Hp) (E' : XK) (f' c' : Addr), Room 9 (A'.deeper (lamEnv (cxOf CX0 P w K mg base nWR "_law_words_right" (defScope sWordsR) f (.ref c) A outer s H E).nox scope s'.heap.objs.size f' c')) → PE (lamCx (cxOf CX0 P w K mg base nWR "_law_words_right" (defScope sWordsR) f (.ref c) A outer s H E).nox A' outer' s' H' E' scope f' c') body (t E')) →
      LamB (cxOf CX0 P w K mg base nWR "_law_words_right" (defScope sWordsR) f (.ref c) A outer s H E).nox 9 params body scope t := fun h1 h2 h3 h4 => ⟨lamS_by h1, fr h2, h3, h4⟩
  have mc : ∀ {params : Arguments} {body : Expr} {scope : Scope} {t : XK → TE} {p lpos pos : Pos}, lamSB (defScope sWordsR) scope = true → ((scope.names.all fun y => !decide (y.2 = NameKind.free) || decide ((defScope sWordsR).names.lookup y.1 = some .cell)) = true) → defaultsOf params (cxOf CX0 P w K mg base nWR "_law_words_right" (defScope sWordsR) f (.ref c) A outer s H E).nox.env = ([], []) →
      (∀ (q : Str) (cl : List (Str × Addr)) (pm cv ctv : Value), bindArgs (PySem.W.kla_fn "<lambda>" q params body scope cl pm cv ctv) {} = pure []) →
      (∀ (A' : Around) (outer' : List Env) (s' : Shared) (H' : Hp) (E' : XK) (f' c' : Addr), Room 9 (A'.deeper (lamEnv (cxOf CX0 P w K mg base nWR "_law_words_right" (defScope sWordsR) f (.ref c) A outer s H E).nox scope s'.heap.objs.size f' c')) → PE (lamCx (cxOf CX0 P w K mg base nWR "_law_words_right" (defScope sWordsR) f (.ref c) A outer s H E).nox A' outer' s' H' E' scope f' c') body (t E')) →
      PE (cxOf CX0 P w K mg base nWR "_law_words_right" (defScope sWordsR) f (.ref c) A outer s H E).nox (.Call (.Name "_law_met" p) [.Lambda params body scope lpos] [] pos) (tMet2 (cxOf CX0 P w K mg base nWR "_law_words_right" (defScope sWordsR) f (.ref c) A outer s H E).nox T CL CW CO CN CM t) := fun h1 h2 h0 h3 h4 => pe_met2 (k := 9) (bld h1 h2 h3 h4) TB rfl mT uT h0 FMe hgd hr11 (by rfl) gMe kMe bMe hcl hfn hvis hinj
  have lv : ∀ {params : Arguments} {body : Expr} {scope : Scope} {t : XK → TE} {lpos : Pos}, lamSB (defScope sWordsR) scope = true → ((scope.names.all fun y => !decide (y.2 = NameKind.free) || decide ((defScope sWordsR).names.lookup y.1 = some .cell)) = true) → defaultsOf params (cxOf CX0 P w K mg base nWR "_law_words_right" (defScope sWordsR) f (.ref c) A outer s H E).nox.env = ([], []) →
      (∀ (q : Str) (cl : List (Str × Addr)) (pm cv ctv : Value), bindArgs (PySem.W.kla_fn "<lambda>" q params body scope cl pm cv ctv) {} = pure []) →
      (∀ (A' : Around) (outer' : List Env) (s' : Shared) (H' : Hp) (E' : XK) (f' c' : Addr), Room 9 (A'.deeper (lamEnv (cxOf CX0 P w K mg base nWR "_law_words_right" (defScope sWordsR) f (.ref c) A outer s H E).nox scope s'.heap.objs.size f' c')) → PE (lamCx (cxOf CX0 P w K mg base nWR "_law_words_right" (defScope sWordsR) f (.ref c) A outer s H E).nox A' outer' s' H' E' scope f' c') body (t E')) →
      PE (cxOf CX0 P w K mg base nWR "_law_words_right" (defScope sWordsR) f (.ref c) A outer s H E).nox (.Lambda params body scope lpos) (tKeep (cxOf CX0 P w K mg base nWR "_law_words_right" (defScope sWordsR) f (.ref c) A outer s H E).nox T 9 t) := fun h1 h2 h0 h3 h4 => pe_keep (bld h1 h2 h3 h4) TB rfl mT uT h0
  suffices hx : ∃ t, PSs (cxOf CX0 P w K mg base nWR "_law_words_right" (defScope sWordsR) f (.ref c) A outer s H E).nox (defBody sWordsR) t ∧ t { nx := fun _ H' => Q .non H', rt := Q } (L2.start nWR [.ref d]) H by
    obtain ⟨t, ht, hq⟩ := hx
    exact ⟨t, ht.nox, hq⟩
  refine ⟨_, (pss_cons (ps_set (i := 1) scWR.nd rfl (.inr rfl) (pe_call FPi hr2 (by rfl) gPi kPi bPi .nil pass0 (pa_cons (pv 0) (pa_cons (pd_lst (pds_cons pd_non (pds_cons pd_int (pds_cons (pd_lst (pds_cons pd_int (pds_cons pd_int pds_nil))) (pds_cons (pd_tup (pds_cons pd_int pds_nil)) (pds_cons (pd_tup (pds_cons pd_int pds_nil)) (pds_cons (pd_tup (pds_cons pd_int (pds_cons pd_bl pds_nil))) (pds_cons (pd_tup (pds_cons pd_str pds_nil)) (pds_cons (pd_rep (pd_tup (pds_cons pd_int pds_nil))) (pds_cons pd_dic (pds_cons (pd_tup (pds_cons pd_neg pds_nil)) (pds_cons pd_str (pds_cons (pd_tup (pds_cons (pd_tup (pds_cons pd_int pds_nil)) pds_nil)) pds_nil))))))))))))) pa_nil))))
    (pss_cons (ps_set (i := 2) scWR.nd rfl (.inr rfl) (pe_call FPi hr2 (by rfl) gPi kPi bPi .nil pass0 (pa_cons (pv 0) (pa_cons (pd_lst (pds_cons pd_non (pds_cons pd_int (pds_cons (pd_lst (pds_cons pd_int (pds_cons pd_int (pds_cons pd_int pds_nil)))) (pds_cons (pd_tup (pds_cons pd_int (pds_cons pd_int pds_nil))) (pds_cons (pd_tup (pds_cons pd_int (pds_cons pd_int (pds_cons pd_int pds_nil)))) (pds_cons (pd_tup (pds_cons pd_neg (pds_cons pd_int (pds_cons pd_int pds_nil)))) (pds_cons (pd_tup (pds_cons pd_int (pds_cons pd_bl (pds_cons pd_int pds_nil)))) (pds_cons (pd_tup (pds_cons pd_str (pds_cons pd_int (pds_cons pd_int pds_nil)))) (pds_cons (pd_tup (pds_cons pd_int (pds_cons pd_int (pds_cons pd_int pds_nil)))) (pds_cons pd_dic (pds_cons (pd_tup (pds_cons pd_int (pds_cons pd_int (pds_cons pd_int (pds_cons pd_int pds_nil))))) (pds_cons pd_str pds_nil))))))))))))) pa_nil))))
    (pss_cons (ps_set (i := 3) scWR.nd rfl (.inr rfl) (pe_tup (pa_cons pe_int (pa_cons pe_int (pa_cons pe_int pa_nil)))))
    (pss_cons (ps_for PassesOwn.never rfl (pi_tup (pe_tup (pa_cons (pe_glob (v := .ref fDg) (by rfl) gDg rfl) (pa_cons (pe_glob (v := .ref fLn) (by rfl) gLn rfl) pa_nil)))) (pg_name (i := 4) scWR.nd rfl (.inr rfl))
    (pss_cons (ps_set (i := 5) scWR.nd rfl (.inl rfl) (pe_lst (pa_cons (mc (t := (fun E' => tCallV (cxOf CX0 P w K mg base nWR "_law_words_right" (defScope sWordsR) f (.ref c) A outer s H E).nox 9 4 (tCons (tVar 1) (tCons (tVar 2) tNil)) E')) (by decide +kernel) (by decide +kernel) (by rfl) (fun _ _ _ _ _ => rfl) (fun A' o' s' H' E' f' c' rm => pe_callV (k := 9) (i := 4) (E := E') (passes_call (E := E') (takes_of rfl rfl rfl rfl) (fun _ _ _ _ h => h)) rm (by exact (pa_cons (pv 1) (pa_cons (pv 2) pa_nil))))) pa_nil)))
    (pss_cons (ps_expr (pe_bm PySem.F.plainAttrs_list PySem.F.slot_list_append PySem.F.type_list_append mt_append (pv 5) (pa_cons (mc (t := (fun E' => tCallV (cxOf CX0 P w K mg base nWR "_law_words_right" (defScope sWordsR) f (.ref c) A outer s H E).nox 9 4 (tCons (tVar 3) (tCons (tVar 2) tNil)) E')) (by decide +kernel) (by decide +kernel) (by rfl) (fun _ _ _ _ _ => rfl) (fun A' o' s' H' E' f' c' rm => pe_callV (k := 9) (i := 4) (E := E') (passes_call (E := E') (takes_of rfl rfl rfl rfl) (fun _ _ _ _ h => h)) rm (by exact (pa_cons (pv 3) (pa_cons (pv 2) pa_nil))))) pa_nil)))
    (pss_cons (ps_expr (pe_bm PySem.F.plainAttrs_list PySem.F.slot_list_append PySem.F.type_list_append mt_append (pv 5) (pa_cons (mc (t := (fun E' => tCallV (cxOf CX0 P w K mg base nWR "_law_words_right" (defScope sWordsR) f (.ref c) A outer s H E).nox 9 4 (tCons (tVar 3) (tCons (tTup (tCons (tC (.int 200)) (tCons (tC (.int 0)) (tCons (tC (.int 0)) tNil)))) tNil)) E')) (by decide +kernel) (by decide +kernel) (by rfl) (fun _ _ _ _ _ => rfl) (fun A' o' s' H' E' f' c' rm => pe_callV (k := 9) (i := 4) (E := E') (passes_call (E := E') (takes_of rfl rfl rfl rfl) (fun _ _ _ _ h => h)) rm (by exact (pa_cons (pv 3) (pa_cons (pe_tup (pa_cons pe_int (pa_cons pe_int (pa_cons pe_int pa_nil)))) pa_nil))))) pa_nil)))
    (pss_one (ps_if (pt_cmpR (op_neD hr.units) (pv 5) (pe_lst (pa_cons (pe_tup (pa_cons pe_str (pa_cons pe_str pa_nil))) (pa_cons (pe_tup (pa_cons pe_str (pa_cons pe_str pa_nil))) (pa_cons (pe_tup (pa_cons pe_str pa_nil)) pa_nil)))) (nomark _)) (pss_one (ps_ret pe_bl)) pss_nil))))))
    (pss_cons (ps_for PassesOwn.never rfl (pi_tup (pe_tup (pa_cons (pe_glob (v := .ref fEv) (by rfl) gEv rfl) (pa_cons (pe_glob (v := .ref fOd) (by rfl) gOd rfl) (pa_cons (pe_glob (v := .ref fTo) (by rfl) gTo rfl) pa_nil))))) (pg_name (i := 4) scWR.nd rfl (.inr rfl))
    (pss_one (ps_if (pt_cmpR (op_neD hr.units) (mc (t := (fun E' => tCallV (cxOf CX0 P w K mg base nWR "_law_words_right" (defScope sWordsR) f (.ref c) A outer s H E).nox 9 4 (tCons (tVar 1) tNil) E')) (by decide +kernel) (by decide +kernel) (by rfl) (fun _ _ _ _ _ => rfl) (fun A' o' s' H' E' f' c' rm => pe_callV (k := 9) (i := 4) (E := E') (passes_call (E := E') (takes_of rfl rfl rfl rfl) (fun _ _ _ _ h => h)) rm (by exact (pa_cons (pv 1) pa_nil)))) (pe_tup (pa_cons pe_str (pa_cons pe_str pa_nil))) (nomark _)) (pss_one (ps_ret pe_bl)) pss_nil)))
    (pss_cons (ps_set (i := 6) scWR.nd rfl (.inl rfl) (pe_lst (pa_cons (lv (t := (fun E' => tCall (spBadProd K CL CW) [] E' (tCons (tVar 1) (tCons (tVar 2) (tCons (tVar 2) tNil))))) (by decide +kernel) (by decide +kernel) (by rfl) (fun _ _ _ _ _ => rfl) (fun A' o' s' H' E' f' c' rm => pe_call FPd (rm.mono (by decide)) (by rfl) gPd kPd bPd .nil (passes_call (E := E') (takes_of rfl rfl rfl rfl) (fun _ _ _ _ h => h)) (by exact (pa_cons (pv 1) (pa_cons (pv 2) (pa_cons (pv 2) pa_nil)))))) pa_nil)))
    (pss_cons (ps_expr (pe_bm PySem.F.plainAttrs_list PySem.F.slot_list_append PySem.F.type_list_append mt_append (pv 6) (pa_cons (lv (t := (fun E' => tCall (spBadProd K CL CW) [] E' (tCons (tVar 3) (tCons (tVar 2) (tCons (tC .non) tNil))))) (by decide +kernel) (by decide +kernel) (by rfl) (fun _ _ _ _ _ => rfl) (fun A' o' s' H' E' f' c' rm => pe_call FPd (rm.mono (by decide)) (by rfl) gPd kPd bPd .nil (passes_call (E := E') (takes_of rfl rfl rfl rfl) (fun _ _ _ _ h => h)) (by exact (pa_cons (pv 3) (pa_cons (pv 2) (pa_cons pe_non pa_nil)))))) pa_nil)))
    (pss_cons (ps_expr (pe_bm PySem.F.plainAttrs_list PySem.F.slot_list_append PySem.F.type_list_append mt_append (pv 6) (pa_cons (lv (t := (fun E' => tCall (spBadProd K CL CW) [] E' (tCons (tVar 3) (tCons (tTup (tCons (tC (.int 1)) (tCons (tC (.int 1)) (tCons (tC (.int 1)) tNil)))) (tCons (tVar 2) tNil))))) (by decide +kernel) (by decide +kernel) (by rfl) (fun _ _ _ _ _ => rfl) (fun A' o' s' H' E' f' c' rm => pe_call FPd (rm.mono (by decide)) (by rfl) gPd kPd bPd .nil (passes_call (E := E') (takes_of rfl rfl rfl rfl) (fun _ _ _ _ h => h)) (by exact (pa_cons (pv 3) (pa_cons (pe_tup (pa_cons pe_int (pa_cons pe_int (pa_cons pe_int pa_nil)))) (pa_cons (pv 2) pa_nil)))))) pa_nil)))
    (pss_cons (ps_expr (pe_bm PySem.F.plainAttrs_list PySem.F.slot_list_append PySem.F.type_list_append mt_append (pv 6) (pa_cons (lv (t := (fun E' => tCall (spBadLV K CL) [] E' (tCons (tVar 1) (tCons (tVar 2) tNil)))) (by decide +kernel) (by decide +kernel) (by rfl) (fun _ _ _ _ _ => rfl) (fun A' o' s' H' E' f' c' rm => pe_call FWB (rm.mono (by decide)) (by rfl) gWB kWB bWB .nil (passes_call (E := E') (takes_of rfl rfl rfl rfl) (fun _ _ _ _ h => h)) (by exact (pa_cons (pv 1) (pa_cons (pv 2) pa_nil))))) pa_nil)))
    (pss_cons (ps_expr (pe_bm PySem.F.plainAttrs_list PySem.F.slot_list_append PySem.F.type_list_append mt_append (pv 6) (pa_cons (lv (t := (fun E' => tCall (spIsPass K) [] E' (tCons (tVar 3) (tCons (tVar 2) tNil)))) (by decide +kernel) (by decide +kernel) (by rfl) (fun _ _ _ _ _ => rfl) (fun A' o' s' H' E' f' c' rm => pe_call FWR (rm.mono (by decide)) (by rfl) gWR kWR bWR .nil (passes_call (E := E') (takes_of rfl rfl rfl rfl) (fun _ _ _ _ h => h)) (by exact (pa_cons (pv 3) (pa_cons (pv 2) pa_nil))))) pa_nil)))
    (pss_cons (ps_expr (pe_bm PySem.F.plainAttrs_list PySem.F.slot_list_append PySem.F.type_list_append mt_append (pv 6) (pa_cons (lv (t := (fun E' => tCall (spTopOp K CO) [] E' (tCons (tVar 3) tNil))) (by decide +kernel) (by decide +kernel) (by rfl) (fun _ _ _ _ _ => rfl) (fun A' o' s' H' E' f' c' rm => pe_call FTO (rm.mono (by decide)) (by rfl) gTO kTO bTO .nil (passes_call (E := E') (takes_of rfl rfl rfl rfl) (fun _ _ _ _ h => h)) (by exact (pa_cons (pv 3) pa_nil)))) pa_nil)))
    (pss_cons (ps_expr (pe_bm PySem.F.plainAttrs_list PySem.F.slot_list_append PySem.F.type_list_append mt_append (pv 6) (pa_cons (lv (t := (fun E' => tCall (spTop K) [] E' (tCons (tTup (tCons (tC (.int 3)) (tCons (tC (.int 3)) (tCons (tC (.int 39)) tNil)))) tNil))) (by decide +kernel) (by decide +kernel) (by rfl) (fun _ _ _ _ _ => rfl) (fun A' o' s' H' E' f' c' rm => pe_call FTR (rm.mono (by decide)) (by rfl) gTR kTR bTR .nil (passes_call (E := E') (takes_of rfl rfl rfl rfl) (fun _ _ _ _ h => h)) (by exact (pa_cons (pe_tup (pa_cons pe_int (pa_cons pe_int (pa_cons pe_int pa_nil)))) pa_nil)))) pa_nil)))
    (pss_one (ps_ret (pe_callC FAr hgd hr (by rfl) gAr kAr bAr hcl hfn hvis (pa_cons (pv 6) (pa_cons (pe_lst (pa_cons pe_str (pa_cons pe_str (pa_cons pe_str (pa_cons pe_str (pa_cons pe_str (pa_cons pe_str (pa_cons pe_str pa_nil)))))))) pa_nil))))))))))))))))), ?_⟩
  have dS : d ∈ [d] := List.mem_cons_self
  have dN : ∀ {H' : Hp} {L' : List V}, H' d = some (.lst L') → ∀ s' ∈ [d], H' s' ≠ none := fun e s' hs => by
    rw [List.mem_singleton.mp hs, e]
    exact (fun z => nomatch z)
  refine pick_dat (ds := noneW) rfl hd hL dS (dN hd) (by simp [noneW]) (by decide) (fun v1 d1 L1 H1 m1 a1 kq1 hd1 hL1 => ?_)
  refine pick_dat (ds := badW) rfl hd1 hL1 dS (dN hd1) (by simp [badW]) (by decide) (fun v2 d2 L2' H2 m2 a2 kq2 hd2 hL2 => ?_)
  replace a1 := a1.mono kq2.kp
  have o1 : dtup 24 1 40 d1 = false := of_not (List.all_eq_true.mp noneW_ok d1 m1)
  have o2 := List.all_eq_true.mp badW_ok d2 m2
  rw [Bool.and_eq_true] at o2
  have o3 : wordB [2, 3, 3] (dword d2) = false := of_not o2.2
  refine ⟨by show 3 ≤ sizeLine; decide, fun th hth => ?_⟩
  have kq3 : Kq [d] H2 (upd H2 th (.tup [.int 2, .int 3, .int 3])) := .new hth
  have hd3 : upd H2 th (.tup [.int 2, .int 3, .int 3]) d = some (.lst L2') := by rw [upd_ne (ne_of_none hd2 hth)]; exact hd2
  have gth : upd H2 th (.tup [.int 2, .int 3, .int 3]) th = some (.tup (iV [2, 3, 3])) := upd_same
  have hT3 : Tabs T (upd H2 th (.tup [.int 2, .int 3, .int 3])) := tabs_kq hT ((kq1.trans kq2).trans kq3)
  have kp3 := ((kq1.trans kq2).trans kq3).kp
  replace a1 := a1.mono kq3.kp
  replace a2 := a2.mono kq3.kp
  generalize upd H2 th (.tup [.int 2, .int 3, .int 3]) = H3 at *
  have lt3 : Lt [2, 3, 3] := ⟨by decide, by decide, by decide⟩
  -- what stays true
  have eL : ∀ Ha, ExtN H3 Ha → LetIs K Ha v1 false := fun Ha e => by
    have q := (a1.mono (Kp.of e)).letIs (K := K)
    rw [o1] at q
    exact q
  have eW : ∀ Ha, ExtN H3 Ha → WdIs K Ha v2 (dword d2) := fun Ha e => (a2.mono (Kp.of e)).wdIs o2.1
  have eT : ∀ Ha, ExtN H3 Ha → SqT K Ha th (iV [2, 3, 3]) := fun Ha e => SqT.of (e _ _ gth fun _ z => nomatch z)
  have xt : ∀ {A B C : Hp}, ExtN A B → ExtN B C → ExtN A C := fun a b c o q n => b c o (a c o q n) n
  have xs' : ∀ {A B : Hp}, Same A B → ExtN A B := fun a c o q _ => a c o q
  have xw : ∀ {A B : Hp} {l : Addr} {o : HO}, ExtN A B → (∀ u, A l = some u → ∃ ps, u = .tbl ps) → ExtN A (upd B l o) := fun {A B l o} a n c u q t => by
    rw [upd_ne fun z => ?_]
    · exact a c u q t
    · obtain ⟨ps, e⟩ := n u (by rw [← z]; exact q)
      exact t ps e
  have xn : ∀ {A B : Hp} {l : Addr}, ExtN A B → B l = none → ∀ u, A l = some u → ∃ ps, u = .tbl ps := fun {A B l} a n u q => by
    refine Classical.byContradiction fun no => ?_
    have := a l u q fun ps e => no ⟨ps, e⟩
    rw [this] at n
    cases n
  have tw : ∀ {B : Hp} {l : Addr} {xs : List V} {o : HO}, Tabs T B → B l = some (.lst xs) → Tabs T (upd B l o) := fun {B l xs o} t e p hp => by
    obtain ⟨ps, h1, h2, h3⟩ := t p hp
    refine ⟨ps, by rw [upd_ne fun z => by rw [z, e] at h1; cases h1]; exact h1, h2, fun pos cv hc => ?_⟩
    obtain ⟨cc, g1, g2⟩ := h3 pos cv hc
    exact ⟨cc, g1, by rw [upd_ne fun z => by rw [z, e] at g2; unfold CodeO at g2; cases g2]; exact g2⟩
  have nt : ∀ {xs : List V} (ps : Array Value), HO.tup xs ≠ .tbl ps := fun ps z => nomatch z
  have nl : ∀ {xs : List V} (ps : Array Value), HO.lst xs ≠ .tbl ps := fun ps z => nomatch z
  have tsm : ∀ {A B : Hp}, Tabs T A → Same A B → Tabs T B := fun a c p hp => (a p hp).ext c
  refine ⟨by show 2 ≤ sizeLine; decide, fun t1 ht1 => ⟨t1, rfl, ⟨_, SqT.of upd_same⟩, ?_⟩⟩
  have x4 : ExtN H3 (upd H3 t1 (.tup [.ref fDg, .ref fLn])) := xs' (Same.new ht1)
  have g4 : upd H3 t1 (.tup [.ref fDg, .ref fLn]) t1 = some (.tup [.ref fDg, .ref fLn]) := upd_same
  have hT4 := tsm hT3 (Same.new (o := .tup [.ref fDg, .ref fLn]) ht1)
  generalize upd H3 t1 (.tup [.ref fDg, .ref fLn]) = H4 at *
  refine for_it (walk_tup (xs := [V.ref fDg, .ref fLn])) (fun i σ H' => (∃ o4 o5, σ = [some (.ref d), some v1, some v2, some (.ref th), o4, o5, none]) ∧ ExtN H4 H' ∧ Tabs T H') ⟨⟨none, none, rfl⟩, fun _ _ q _ => q, hT4⟩ (fun _ _ H' _ q => SqT.of (q.2.1 _ _ g4 nt)) (fun i x σ H9 H' hi q y => ?_) fun σ H5 q => ?_
  · obtain ⟨⟨o4, o5, rfl⟩, e5, t5⟩ := q
    obtain ⟨rfl, hx⟩ := y
    obtain ⟨fc, dc, g, rfl, kc, bc, FB, FR⟩ : ∃ (fc : Addr) (dc : FuncData) (g : List Int → List Int → Int), x = V.ref fc ∧ PySem.W.keepIn K (.ref fc) = true ∧ Binds K dc ["letters", "word"] [] ∧ FnOk P w K mg base (L2.CX P w) 7 fc dc ["letters", "word"] (spBadLW K CL CW) ∧ FnOk P w K mg base CX0 7 fc dc ["letters", "word"] (spWDeg K g) := by
      match i, hi with
      | 0, _ => cases hx; exact ⟨fDg, dDg, _, rfl, kDg, bDg, FDg, FDg2⟩
      | 1, _ => cases hx; exact ⟨fLn, dLn, _, rfl, kLn, bLn, FLn, FLn2⟩
    have FB9 := FB.mono (k := 9) (by decide)
    have FR9 := fn_wide (FR.mono (k := 9) (by decide))
    have x35 := xt x4 e5
    refine ⟨t5, rfl, "letters", fun Ha ea => .letters fun E' Q' hE => ?_, fun H6 p6 e6 t6 hp6 => ⟨by show 1 ≤ sizeLine; decide, fun lt hlt => ?_⟩⟩
    · exact ⟨fc, dc, _, _, rfl, FB9, kc, bc, _, rfl, _, rfl, v1, v2, false, rfl, eL _ (xt x35 ea), fun _ => hE, fun z => nomatch z⟩
    have x6 := xt x35 e6
    have nlt := xn (xt e5 e6) hlt
    have h7 : upd H6 lt (.lst [.ref p6]) lt = some (.lst [.ref p6]) := upd_same
    have d7 : DueL (upd H6 lt (.lst [.ref p6])) [.ref p6] ["letters"] := .cons (Same.new hlt _ _ hp6) .nil
    have e47 : ExtN H4 (upd H6 lt (.lst [.ref p6])) := xt (xt e5 e6) (xs' (Same.new hlt))
    have t7 := tsm t6 (Same.new (o := .lst [.ref p6]) hlt)
    generalize upd H6 lt (.lst [.ref p6]) = H7 at *
    -- the second
    refine ⟨_, rfl, .inl ⟨rfl, _, SqL.of h7⟩, t7, rfl, "word", fun Ha ea => .word fun E' Q' hE => ?_, fun H8 p8 e8 t8 hp8 => ?_⟩
    · have xa := xt x4 (xt e47 ea)
      exact ⟨fc, dc, _, _, rfl, FB9, kc, bc, _, rfl, _, rfl, .ref th, v2, true, rfl, lt3.is (eT _ xa), (fun z => nomatch z), fun _ => ⟨th, [2, 3, 3], dword d2, rfl, eT _ xa, lt3, eW _ xa, o3, hE⟩⟩
    have h8 := e8 _ _ h7 nl
    refine ⟨lt, [.ref p6], .ref p8, rfl, rfl, h8, by show 1 < sizeLine; decide, ?_⟩
    have e48 := xw (o := .lst ([.ref p6] ++ [.ref p8])) (xt e47 e8) nlt
    have t8' := tw (o := .lst ([.ref p6] ++ [.ref p8])) t8 h8
    have h9 : upd H8 lt (.lst ([.ref p6] ++ [.ref p8])) lt = some (.lst [.ref p6, .ref p8]) := upd_same
    have up8 : ∀ b xs, H8 b = some (.tup xs) → upd H8 lt (.lst ([.ref p6] ++ [.ref p8])) b = some (.tup xs) := fun b xs e => by
      rw [upd_ne fun z => by rw [z, h8] at e; cases e]
      exact e
    have d9 : DueL (upd H8 lt (.lst ([.ref p6] ++ [.ref p8]))) [.ref p6, .ref p8] ["letters", "word"] := DueL.snoc (xs := [.ref p6]) (zs := ["letters"]) (up8 _ _ hp8) (DueL.mono (fun b xs e => up8 b xs (e8 _ _ e nt)) d7)
    generalize upd H8 lt (.lst ([.ref p6] ++ [.ref p8])) = H9' at *
    -- the third
    refine ⟨_, rfl, .inl ⟨rfl, _, SqL.of h9⟩, t8', rfl, "", fun Ha ea => .fine fun E' Q' hE => ?_, fun Ha pa ea ta hpa => ?_⟩
    · have xa := xt x4 (xt e48 ea)
      refine ⟨fc, dc, _, _, rfl, FR9, kc, bc, _, rfl, by show 3 ≤ sizeLine; decide, fun tt htt => ⟨th, tt, [2, 3, 3], [200, 0, 0], rfl, tupSame (Same.new htt) (eT _ xa), lt3, SqT.of upd_same, ⟨rfl, by decide +kernel, by decide⟩, fun H' s' => hE _ H' ((Same.new htt).trans s')⟩⟩
    have ha9 := ea _ _ h9 nl
    refine ⟨lt, [.ref p6, .ref p8], .ref pa, rfl, rfl, ha9, by show 2 < sizeLine; decide, ?_⟩
    have e4a := xw (o := .lst ([.ref p6, .ref p8] ++ [.ref pa])) (xt e48 ea) nlt
    have t9 := tw (o := .lst ([.ref p6, .ref p8] ++ [.ref pa])) ta ha9
    have h10 : upd Ha lt (.lst ([.ref p6, .ref p8] ++ [.ref pa])) lt = some (.lst [.ref p6, .ref p8, .ref pa]) := upd_same
    have upa : ∀ b xs, Ha b = some (.tup xs) → upd Ha lt (.lst ([.ref p6, .ref p8] ++ [.ref pa])) b = some (.tup xs) := fun b xs e => by
      rw [upd_ne fun z => by rw [z, ha9] at e; cases e]
      exact e
    have d10 : DueL (upd Ha lt (.lst ([.ref p6, .ref p8] ++ [.ref pa]))) [.ref p6, .ref p8, .ref pa] ["letters", "word", ""] := DueL.snoc (xs := [.ref p6, .ref p8]) (zs := ["letters", "word"]) (upa _ _ hpa) (DueL.mono (fun b xs e => upa b xs (ea _ _ e nt)) d9)
    generalize upd Ha lt (.lst ([.ref p6, .ref p8] ++ [.ref pa])) = Hb at *
    -- as it is due
    refine ⟨_, rfl, by show 2 ≤ sizeLine; decide, fun q1 hq1 => ⟨by show 2 ≤ sizeLine; decide, fun q2 hq2 => ⟨by show 1 ≤ sizeLine; decide, fun q3 hq3 => ⟨by show 3 ≤ sizeLine; decide, fun q4 hq4 => ?_⟩⟩⟩⟩
    have S := (((Same.new (o := .tup [tR, .str "letters"]) hq1).trans (Same.new (o := .tup [tR, .str "word"]) hq2)).trans (Same.new (o := .tup [.str "fine"]) hq3)).trans (Same.new (o := .lst [.ref q1, .ref q2, .ref q3]) hq4)
    have lay : ∀ z ∈ (["letters", "word", ""] : List Str), (PyData.str z).canLay0 = true := by decide +kernel
    have sh := dues_list lay
    have s4 := Same.new (o := .lst [.ref q1, .ref q2, .ref q3]) hq4
    have s34 := (Same.new (o := .tup [.str "fine"]) hq3).trans s4
    have s234 := (Same.new (o := .tup [tR, .str "word"]) hq2).trans s34
    refine ⟨.list ((["letters", "word", ""] : List Str).map dueD), .list ((["letters", "word", ""] : List Str).map dueD), .lst (SqL.of (S _ _ h10)) (DueL.dp (DueL.mono (fun b xs e => S _ _ e) d10)), .lst (SqL.of upd_same) (DueL.dp (.cons (s234 _ _ upd_same) (.cons (s34 _ _ upd_same) (.cons (s4 _ _ upd_same) .nil)))), sh.shaped (by decide), sh.shaped (by decide), _, rfl, ?_⟩
    rw [eqv_self sh (by decide)]
    exact iteF ⟨⟨_, _, rfl⟩, xt e4a (xs' S), tsm t9 S⟩
  obtain ⟨⟨o4, o5, rfl⟩, e5, t5⟩ := q
  refine ⟨by show 3 ≤ sizeLine; decide, fun t2 ht2 => ⟨t2, rfl, ⟨_, SqT.of upd_same⟩, ?_⟩⟩
  have x5 := xt (xt x4 e5) (xs' (Same.new (o := .tup [.ref fEv, .ref fOd, .ref fTo]) ht2))
  have g5 : upd H5 t2 (.tup [.ref fEv, .ref fOd, .ref fTo]) t2 = some (.tup [.ref fEv, .ref fOd, .ref fTo]) := upd_same
  have hT5 := tsm t5 (Same.new (o := .tup [.ref fEv, .ref fOd, .ref fTo]) ht2)
  generalize upd H5 t2 (.tup [.ref fEv, .ref fOd, .ref fTo]) = H6 at *
  refine for_it (walk_tup (xs := [V.ref fEv, .ref fOd, .ref fTo])) (fun i σ H' => (∃ o4 o5, σ = [some (.ref d), some v1, some v2, some (.ref th), o4, o5, none]) ∧ ExtN H6 H' ∧ Tabs T H') ⟨⟨_, _, rfl⟩, fun _ _ q _ => q, hT5⟩ (fun _ _ H' _ q => SqT.of (q.2.1 _ _ g5 nt)) (fun i x σ H9 H' hi q y => ?_) fun σ H7 q => ?_
  · obtain ⟨⟨o4, o5, rfl⟩, e6, t6⟩ := q
    obtain ⟨rfl, hx⟩ := y
    obtain ⟨fc, dc, rfl, kc, bc, FB⟩ : ∃ (fc : Addr) (dc : FuncData), x = V.ref fc ∧ PySem.W.keepIn K (.ref fc) = true ∧ Binds K dc ["letters"] [] ∧ FnOk P w K mg base (L2.CX P w) 6 fc dc ["letters"] (spBadL K CL) := by
      match i, hi with
      | 0, _ => cases hx; exact ⟨fEv, dEv, rfl, kEv, bEv, FEv⟩
      | 1, _ => cases hx; exact ⟨fOd, dOd, rfl, kOd, bOd, FOd⟩
      | 2, _ => cases hx; exact ⟨fTo, dTo, rfl, kTo, bTo, FTo⟩
    refine ⟨t6, rfl, "letters", fun Ha ea => .letters fun E' Q' hE => ?_, fun H8 p8 e8 t8 hp8 => ⟨by show 2 ≤ sizeLine; decide, fun q1 hq1 => ?_⟩⟩
    · exact ⟨fc, dc, _, _, rfl, FB.mono (k := 9) (by decide), kc, bc, _, rfl, v1, rfl, eL _ (xt x5 (xt e6 ea)), hE⟩
    have s1 := Same.new (o := .tup [tR, .str "letters"]) hq1
    have sh := due_shp (z := "letters") (by decide +kernel)
    refine ⟨dueD "letters", dueD "letters", due_dp (s1 _ _ hp8), due_dp upd_same, sh.shaped (by decide), sh.shaped (by decide), _, rfl, ?_⟩
    rw [eqv_self sh (by decide)]
    exact iteF ⟨⟨_, _, rfl⟩, xt (xt e6 e8) (xs' s1), tsm t8 s1⟩
  obtain ⟨⟨o4', o5', rfl⟩, e7, t7⟩ := q
  have x7 := xt x5 e7
  -- the calls that are kept
  refine ⟨t7, fun f1 K1 e1 t1' kept1 => ⟨by show 1 ≤ sizeLine; decide, fun lc hlc => ?_⟩⟩
  have nlc := xn (xt x7 e1) hlc
  have h1 : upd K1 lc (.lst [.ref f1]) lc = some (.lst [.ref f1]) := upd_same
  have s1 := Same.new (o := .lst [.ref f1]) hlc
  have y1 := xt (xt x7 e1) (xs' s1)
  have w1 := tsm t1' s1
  replace kept1 := kept1.ext (xs' s1)
  generalize upd K1 lc (.lst [.ref f1]) = J1 at *
  refine ⟨_, rfl, .inl ⟨rfl, _, SqL.of h1⟩, w1, fun f2 K2 e2 t2' kept2 => ?_⟩
  have g2 := e2 _ _ h1 nl
  refine ⟨lc, [.ref f1], .ref f2, rfl, rfl, g2, by show 1 < sizeLine; decide, ?_⟩
  have h2 : upd K2 lc (.lst ([.ref f1] ++ [.ref f2])) lc = some (.lst [.ref f1, .ref f2]) := upd_same
  have y2 := xw (o := .lst ([.ref f1] ++ [.ref f2])) (xt y1 e2) nlc
  have w2 := tw (o := .lst ([.ref f1] ++ [.ref f2])) t2' g2
  replace kept1 := (kept1.ext e2).write (o := .lst ([.ref f1] ++ [.ref f2])) g2
  replace kept2 := kept2.write (o := .lst ([.ref f1] ++ [.ref f2])) g2
  generalize upd K2 lc (.lst ([.ref f1] ++ [.ref f2])) = J2 at *
  refine ⟨_, rfl, .inl ⟨rfl, _, SqL.of h2⟩, w2, fun f3 K3 e3 t3' kept3 => ?_⟩
  have g3 := e3 _ _ h2 nl
  refine ⟨lc, [.ref f1, .ref f2], .ref f3, rfl, rfl, g3, by show 2 < sizeLine; decide, ?_⟩
  have h3 : upd K3 lc (.lst ([.ref f1, .ref f2] ++ [.ref f3])) lc = some (.lst [.ref f1, .ref f2, .ref f3]) := upd_same
  have y3 := xw (o := .lst ([.ref f1, .ref f2] ++ [.ref f3])) (xt y2 e3) nlc
  have w3 := tw (o := .lst ([.ref f1, .ref f2] ++ [.ref f3])) t3' g3
  replace kept1 := (kept1.ext e3).write (o := .lst ([.ref f1, .ref f2] ++ [.ref f3])) g3
  replace kept2 := (kept2.ext e3).write (o := .lst ([.ref f1, .ref f2] ++ [.ref f3])) g3
  replace kept3 := kept3.write (o := .lst ([.ref f1, .ref f2] ++ [.ref f3])) g3
  generalize upd K3 lc (.lst ([.ref f1, .ref f2] ++ [.ref f3])) = J3 at *
  refine ⟨_, rfl, .inl ⟨rfl, _, SqL.of h3⟩, w3, fun f4 K4 e4 t4' kept4 => ?_⟩
  have g4 := e4 _ _ h3 nl
  refine ⟨lc, [.ref f1, .ref f2, .ref f3], .ref f4, rfl, rfl, g4, by show 3 < sizeLine; decide, ?_⟩
  have h4 : upd K4 lc (.lst ([.ref f1, .ref f2, .ref f3] ++ [.ref f4])) lc = some (.lst [.ref f1, .ref f2, .ref f3, .ref f4]) := upd_same
  have y4 := xw (o := .lst ([.ref f1, .ref f2, .ref f3] ++ [.ref f4])) (xt y3 e4) nlc
  have w4 := tw (o := .lst ([.ref f1, .ref f2, .ref f3] ++ [.ref f4])) t4' g4
  replace kept1 := (kept1.ext e4).write (o := .lst ([.ref f1, .ref f2, .ref f3] ++ [.ref f4])) g4
  replace kept2 := (kept2.ext e4).write (o := .lst ([.ref f1, .ref f2, .ref f3] ++ [.ref f4])) g4
  replace kept3 := (kept3.ext e4).write (o := .lst ([.ref f1, .ref f2, .ref f3] ++ [.ref f4])) g4
  replace kept4 := kept4.write (o := .lst ([.ref f1, .ref f2, .ref f3] ++ [.ref f4])) g4
  generalize upd K4 lc (.lst ([.ref f1, .ref f2, .ref f3] ++ [.ref f4])) = J4 at *
  refine ⟨_, rfl, .inl ⟨rfl, _, SqL.of h4⟩, w4, fun f5 K5 e5 t5' kept5 => ?_⟩
  have g5 := e5 _ _ h4 nl
  refine ⟨lc, [.ref f1, .ref f2, .ref f3, .ref f4], .ref f5, rfl, rfl, g5, by show 4 < sizeLine; decide, ?_⟩
  have h5 : upd K5 lc (.lst ([.ref f1, .ref f2, .ref f3, .ref f4] ++ [.ref f5])) lc = some (.lst [.ref f1, .ref f2, .ref f3, .ref f4, .ref f5]) := upd_same
  have y5 := xw (o := .lst ([.ref f1, .ref f2, .ref f3, .ref f4] ++ [.ref f5])) (xt y4 e5) nlc
  have w5 := tw (o := .lst ([.ref f1, .ref f2, .ref f3, .ref f4] ++ [.ref f5])) t5' g5
  replace kept1 := (kept1.ext e5).write (o := .lst ([.ref f1, .ref f2, .ref f3, .ref f4] ++ [.ref f5])) g5
  replace kept2 := (kept2.ext e5).write (o := .lst ([.ref f1, .ref f2, .ref f3, .ref f4] ++ [.ref f5])) g5
  replace kept3 := (kept3.ext e5).write (o := .lst ([.ref f1, .ref f2, .ref f3, .ref f4] ++ [.ref f5])) g5
  replace kept4 := (kept4.ext e5).write (o := .lst ([.ref f1, .ref f2, .ref f3, .ref f4] ++ [.ref f5])) g5
  replace kept5 := kept5.write (o := .lst ([.ref f1, .ref f2, .ref f3, .ref f4] ++ [.ref f5])) g5
  generalize upd K5 lc (.lst ([.ref f1, .ref f2, .ref f3, .ref f4] ++ [.ref f5])) = J5 at *
  refine ⟨_, rfl, .inl ⟨rfl, _, SqL.of h5⟩, w5, fun f6 K6 e6 t6' kept6 => ?_⟩
  have g6 := e6 _ _ h5 nl
  refine ⟨lc, [.ref f1, .ref f2, .ref f3, .ref f4, .ref f5], .ref f6, rfl, rfl, g6, by show 5 < sizeLine; decide, ?_⟩
  have h6 : upd K6 lc (.lst ([.ref f1, .ref f2, .ref f3, .ref f4, .ref f5] ++ [.ref f6])) lc = some (.lst [.ref f1, .ref f2, .ref f3, .ref f4, .ref f5, .ref f6]) := upd_same
  have y6 := xw (o := .lst ([.ref f1, .ref f2, .ref f3, .ref f4, .ref f5] ++ [.ref f6])) (xt y5 e6) nlc
  have w6 := tw (o := .lst ([.ref f1, .ref f2, .ref f3, .ref f4, .ref f5] ++ [.ref f6])) t6' g6
  replace kept1 := (kept1.ext e6).write (o := .lst ([.ref f1, .ref f2, .ref f3, .ref f4, .ref f5] ++ [.ref f6])) g6
  replace kept2 := (kept2.ext e6).write (o := .lst ([.ref f1, .ref f2, .ref f3, .ref f4, .ref f5] ++ [.ref f6])) g6
  replace kept3 := (kept3.ext e6).write (o := .lst ([.ref f1, .ref f2, .ref f3, .ref f4, .ref f5] ++ [.ref f6])) g6
  replace kept4 := (kept4.ext e6).write (o := .lst ([.ref f1, .ref f2, .ref f3, .ref f4, .ref f5] ++ [.ref f6])) g6
  replace kept5 := (kept5.ext e6).write (o := .lst ([.ref f1, .ref f2, .ref f3, .ref f4, .ref f5] ++ [.ref f6])) g6
  replace kept6 := kept6.write (o := .lst ([.ref f1, .ref f2, .ref f3, .ref f4, .ref f5] ++ [.ref f6])) g6
  generalize upd K6 lc (.lst ([.ref f1, .ref f2, .ref f3, .ref f4, .ref f5] ++ [.ref f6])) = J6 at *
  refine ⟨_, rfl, .inl ⟨rfl, _, SqL.of h6⟩, w6, fun f7 K7 e7 t7' kept7 => ?_⟩
  have g7 := e7 _ _ h6 nl
  refine ⟨lc, [.ref f1, .ref f2, .ref f3, .ref f4, .ref f5, .ref f6], .ref f7, rfl, rfl, g7, by show 6 < sizeLine; decide, ?_⟩
  have h7 : upd K7 lc (.lst ([.ref f1, .ref f2, .ref f3, .ref f4, .ref f5, .ref f6] ++ [.ref f7])) lc = some (.lst [.ref f1, .ref f2, .ref f3, .ref f4, .ref f5, .ref f6, .ref f7]) := upd_same
  have y7 := xw (o := .lst ([.ref f1, .ref f2, .ref f3, .ref f4, .ref f5, .ref f6] ++ [.ref f7])) (xt y6 e7) nlc
  have w7 := tw (o := .lst ([.ref f1, .ref f2, .ref f3, .ref f4, .ref f5, .ref f6] ++ [.ref f7])) t7' g7
  replace kept1 := (kept1.ext e7).write (o := .lst ([.ref f1, .ref f2, .ref f3, .ref f4, .ref f5, .ref f6] ++ [.ref f7])) g7
  replace kept2 := (kept2.ext e7).write (o := .lst ([.ref f1, .ref f2, .ref f3, .ref f4, .ref f5, .ref f6] ++ [.ref f7])) g7
  replace kept3 := (kept3.ext e7).write (o := .lst ([.ref f1, .ref f2, .ref f3, .ref f4, .ref f5, .ref f6] ++ [.ref f7])) g7
  replace kept4 := (kept4.ext e7).write (o := .lst ([.ref f1, .ref f2, .ref f3, .ref f4, .ref f5, .ref f6] ++ [.ref f7])) g7
  replace kept5 := (kept5.ext e7).write (o := .lst ([.ref f1, .ref f2, .ref f3, .ref f4, .ref f5, .ref f6] ++ [.ref f7])) g7
  replace kept6 := (kept6.ext e7).write (o := .lst ([.ref f1, .ref f2, .ref f3, .ref f4, .ref f5, .ref f6] ++ [.ref f7])) g7
  replace kept7 := kept7.write (o := .lst ([.ref f1, .ref f2, .ref f3, .ref f4, .ref f5, .ref f6] ++ [.ref f7])) g7
  generalize upd K7 lc (.lst ([.ref f1, .ref f2, .ref f3, .ref f4, .ref f5, .ref f6] ++ [.ref f7])) = J7 at *
  refine ⟨_, rfl, by show 7 ≤ sizeLine; decide, fun ld hld n Hx out ck cv => ?_⟩
  have sl7 := Same.new (o := .lst ((["letters", "word", "word", "letters", "", "operation", ""] : List Str).map V.str)) hld
  have hc : upd J7 ld (.lst ((["letters", "word", "word", "letters", "", "operation", ""] : List Str).map V.str)) lc = some (.lst ([f1, f2, f3, f4, f5, f6, f7].map V.ref)) := sl7 _ _ h7
  have hld2 : upd J7 ld (.lst ((["letters", "word", "word", "letters", "", "operation", ""] : List Str).map V.str)) ld = some (.lst ((["letters", "word", "word", "letters", "", "operation", ""] : List Str).map V.str)) := upd_same
  have xall := xt y7 (xs' sl7)
  have w8 := tsm w7 sl7
  replace kept1 := kept1.ext (xs' sl7)
  replace kept2 := kept2.ext (xs' sl7)
  replace kept3 := kept3.ext (xs' sl7)
  replace kept4 := kept4.ext (xs' sl7)
  replace kept5 := kept5.ext (xs' sl7)
  replace kept6 := kept6.ext (xs' sl7)
  replace kept7 := kept7.ext (xs' sl7)
  replace n : ∀ b ∈ cellsOf (cxOf CX0 P w K mg base nWR "_law_words_right" (defScope sWordsR) f (.ref c) A outer s H E).nox, upd J7 ld (.lst ((["letters", "word", "word", "letters", "", "operation", ""] : List Str).map V.str)) b = none := n
  replace out : ∀ b, b ∉ cellsOf (cxOf CX0 P w K mg base nWR "_law_words_right" (defScope sWordsR) f (.ref c) A outer s H E).nox → Hx b = upd J7 ld (.lst ((["letters", "word", "word", "letters", "", "operation", ""] : List Str).map V.str)) b := out
  generalize upd J7 ld (.lst ((["letters", "word", "word", "letters", "", "operation", ""] : List Str).map V.str)) = J8 at *
  have nin : ∀ {b : Addr} {o : HO}, J8 b = some o → b ∉ cellsOf (cxOf CX0 P w K mg base nWR "_law_words_right" (defScope sWordsR) f (.ref c) A outer s H E).nox := fun {b o} e z => by
    rw [n b z] at e
    cases e
  have lay : ∀ z ∈ (["letters", "word", "word", "letters", "", "operation", ""] : List Str), (PyData.str z).canLay0 = true := by decide +kernel
  refine ⟨lc, ld, [f1, f2, f3, f4, f5, f6, f7], (["letters", "word", "word", "letters", "", "operation", ""] : List Str), rfl, (out lc (nin hc)).trans hc, (out ld (nin hld2)).trans hld2, rfl, by decide, lay, fun i fi z hf hz => ?_, fun H' s' => ?_⟩
  · have l3 : Lt [3, 3, 39] := ⟨by decide, by decide, by decide⟩
    have wd1 : Wd [2, 3, 3] [1, 1, 1] := ⟨rfl, by decide +kernel, by decide⟩
    match i, hf, hz with
    | 0, hf, hz =>
      cases hf; cases hz
      exact kept_met kept1 hinj rfl n out ck cv fun Ha ea => .letters fun E' Q' hE => ⟨_, rfl, _, rfl, _, rfl, v1, v2, v2, false, rfl, eL _ (xt xall ea), fun _ => hE, fun z => nomatch z⟩
    | 1, hf, hz =>
      cases hf; cases hz
      exact kept_met kept2 hinj rfl n out ck cv fun Ha ea => .word fun E' Q' hE => ⟨_, rfl, _, rfl, .ref th, v2, .non, true, rfl, lt3.is (eT _ (xt xall ea)), (fun z => nomatch z), fun _ => ⟨th, [2, 3, 3], dword d2, none, rfl, eT _ (xt xall ea), lt3, eW _ (xt xall ea), .out .non, by rw [o3]; rfl, hE⟩⟩
    | 2, hf, hz =>
      cases hf; cases hz
      exact kept_met kept3 hinj rfl n out ck cv fun Ha ea => .word fun E' Q' hE => ⟨_, rfl, by show 3 ≤ sizeLine; decide, fun tt htt => ⟨_, rfl, .ref th, .ref tt, v2, true, rfl, lt3.is (tupSame (Same.new htt) (eT _ (xt xall ea))), (fun z => nomatch z), fun _ => ⟨th, [2, 3, 3], some (iV [1, 1, 1]), dword d2, rfl, tupSame (Same.new htt) (eT _ (xt xall ea)), lt3, wd1.is lt3 (SqT.of upd_same), (eW _ (xt xall ea)).mono (Same.new htt), by rw [o3, Bool.and_false], hE.mono (Same.new htt)⟩⟩⟩
    | 3, hf, hz =>
      cases hf; cases hz
      exact kept_met kept4 hinj rfl n out ck cv fun Ha ea => .letters fun E' Q' hE => ⟨_, rfl, _, rfl, v1, v2, rfl, eL _ (xt xall ea), hE⟩
    | 4, hf, hz =>
      cases hf; cases hz
      exact kept_met kept5 hinj rfl n out ck cv fun Ha ea => .fine fun E' Q' hQ => ⟨_, rfl, _, rfl, th, [2, 3, 3], v2, dword d2, rfl, eT _ (xt xall ea), lt3, eW _ (xt xall ea), fun H' s => hQ _ H' s⟩
    | 5, hf, hz =>
      cases hf; cases hz
      exact kept_met kept6 hinj rfl n out ck cv fun Ha ea => .operation fun E' Q' hE => ⟨_, rfl, th, [2, 3, 3], rfl, eT _ (xt xall ea), lt3, by decide, hE⟩
    | 6, hf, hz =>
      cases hf; cases hz
      exact kept_met kept7 hinj rfl n out ck cv fun Ha ea => .fine fun E' Q' hQ => ⟨by show 3 ≤ sizeLine; decide, fun tt htt => ⟨tt, [3, 3, 39], rfl, SqT.of upd_same, l3, by decide, fun H' p s _ => hQ _ H' ((Same.new htt).trans s)⟩⟩
    | i + 7, hf, hz => cases hf
  · have xf : ExtN J8 (minus (cellsOf (cxOf CX0 P w K mg base nWR "_law_words_right" (defScope sWordsR) f (.ref c) A outer s H E).nox) H') := fun b o q _ => (minus_out (nin q)).trans (s' _ _ ((out b (nin q)).trans q))
    have xe := xt xall xf
    exact k _ L2' (fun b o nb e nt' => xe b o (kp3 b o e (.inl fun z => nb (List.mem_singleton.mp z)) nt') nt') (xe _ _ hd3 nl) hL2 (tabs_minus w8 n out s')
end
end K6
namespace K6
open PySem PySem.Spec PyProof.Rows L2 RZ
/-! ### more than 400 words -/
def cf : List Int → Nat → Nat
  | [], d => if d = 0 then 1 else 0
  | h :: L, d => if h.toNat % 2 = 1 then cf L d + (if h.toNat ≤ d then cf L (d - h.toNat) else 0) else ((List.range (d / h.toNat + 1)).map fun e => cf L (d - e * h.toNat)).sum
theorem cf_cnt : ∀ {L : List Int}, Pos1 L → cnt L = cf L
  | [], _ => rfl
  | h :: L, hp => by
    have ih := cf_cnt (L := L) fun y hy => hp y (List.mem_cons_of_mem _ hy)
    have h1 := hp h List.mem_cons_self
    funext d
    rw [cnt_cons, ih]
    unfold op cf
    by_cases c : h.toNat % 2 = 1
    · rw [if_pos c, if_pos c]
      rfl
    · rw [if_neg c, if_neg c]
      exact (sum_even h.toNat (by omega) (cf L) d).symm
theorem big4 : 400 < cnt [2, 2, 2, 2] 80 := by
  rw [cf_cnt (by decide)]
  decide +kernel
theorem cnt_one (L : List Int) (d : Nat) : cnt L d ≤ cnt (1 :: L) d := by
  rw [cnt_cons]
  unfold op
  rw [if_pos (by decide)]
  exact Nat.le_add_right _ _
theorem big1 : 400 < cnt (List.replicate 24 1) 12 := by
  have h : 400 < cnt (List.replicate 15 1) 12 := by
    rw [cf_cnt (by decide)]
    decide +kernel
  exact Nat.lt_of_lt_of_le h (Nat.le_trans (cnt_one _ _) (Nat.le_trans (cnt_one _ _) (Nat.le_trans (cnt_one _ _) (Nat.le_trans (cnt_one _ _) (Nat.le_trans (cnt_one _ _) (Nat.le_trans (cnt_one _ _) (Nat.le_trans (cnt_one _ _) (Nat.le_trans (cnt_one _ _) (cnt_one _ _)))))))))
end K6
namespace K6
open PySem PySem.Spec PyProof.Rows L2 RZ
/-! ### zip over a range that is empty, and a generator that is never begun -/
abbrev rgIter0 : Obj := { cls := .type "range_iterator", data := .fields #[rawInt 0, rawInt 0, rawInt 1] }
set_option maxHeartbeats 4000000 in
theorem meets_zipRG (r g : Addr) (gi : Nat) :
    Meets (Builtin.«zip.__new__» ⟨[.type "zip", .ref r, .ref g], []⟩) (fun _ R s => (∃ t u v, IsRange s.heap r 0 0 1 t u v) ∧ s.heap.IsGen g gi ∧
      (∀ h' tk, IsZip h' (s.heap.objs.size + 3) (s.heap.objs.size + 1) (s.heap.objs.size + 2) .none → IsPair h' (s.heap.objs.size + 1) (.ref s.heap.objs.size) (.ref g) → IsPair h' (s.heap.objs.size + 2) .none .none → IsRangeIter h' s.heap.objs.size 0 0 1 → h'.objs.size = s.heap.objs.size + 4 → (∀ b o, s.heap.get? b = some o → h'.get? b = some o) →
        R (.ok (.ret (.ref (s.heap.objs.size + 3)))) { s with heap := h', toks := tk })) :=
  .of_wp fun prog w A R s h => by
    obtain ⟨hp, gg, d, tk, os⟩ := s
    obtain ⟨⟨t, u, v, hr⟩, hg, h⟩ := h
    have sub := sub_zip
    have it1 : ∀ {A' : Around} {E : Value → Shared → Prop} {Q : Value → Shared → Prop}, Q (.ref hp.objs.size) ⟨hp.push rgIter0, gg, d, tk, os⟩ → wpAny (model prog w) A' (pyIter (.ref r)) Q E ⟨hp, gg, d, tk, os⟩ := fun q => wpAny_pyIter_range (s := ⟨hp, gg, d, tk, os⟩) hr (by decide +kernel) q
    have hg2 : (hp.push rgIter0).IsGen g gi := by
      obtain ⟨o, nm, qn, e1, e2⟩ := hg
      exact ⟨o, nm, qn, Heap.get?_push_of_some _ e1, e2⟩
    have it2 : ∀ {A' : Around} {E : Value → Shared → Prop} {Q : Value → Shared → Prop}, Q (.ref g) ⟨hp.push rgIter0, gg, d, tk, os⟩ → wpAny (model prog w) A' (pyIter (.ref g)) Q E ⟨hp.push rgIter0, gg, d, tk, os⟩ := fun q => wpAny_pyIter_gen (s := ⟨hp.push rgIter0, gg, d, tk, os⟩) hg2 q
    have it : ∀ {A' : Around} {E : Value → Shared → Prop} {Q : Value → Shared → Prop} {x : Addr} {st : Shared}, ((x = r ∧ st = ⟨hp, gg, d, tk, os⟩ ∧ Q (.ref hp.objs.size) ⟨hp.push rgIter0, gg, d, tk, os⟩) ∨ (x = g ∧ st = ⟨hp.push rgIter0, gg, d, tk, os⟩ ∧ Q (.ref g) ⟨hp.push rgIter0, gg, d, tk, os⟩)) → wpAny (model prog w) A' (pyIter (.ref x)) Q E st := fun q => by
      rcases q with ⟨rfl, rfl, q⟩ | ⟨rfl, rfl, q⟩
      · exact it1 q
      · exact it2 q
    wp_walk using it
    refine .inl ⟨rfl, rfl, ?_⟩
    wp_walk using it
    refine .inr ⟨rfl, rfl, ?_⟩
    wp_walk using it
    refine ⟨_, rfl, ?_⟩
    have z1 : (hp.push rgIter0).objs.size = hp.objs.size + 1 := Heap.size_push ..
    have z2 : ((hp.push rgIter0).push { cls := Value.type "tuple", data := Data.seq #[Value.ref hp.objs.size, Value.ref g] }).objs.size = hp.objs.size + 2 := by rw [Heap.size_push, z1]
    have z3 : (((hp.push rgIter0).push { cls := Value.type "tuple", data := Data.seq #[Value.ref hp.objs.size, Value.ref g] }).push { cls := Value.type "tuple", data := Data.seq #[Value.none, Value.none] }).objs.size = hp.objs.size + 3 := by rw [Heap.size_push, z2]
    have g1 : (hp.push rgIter0).get? hp.objs.size = some rgIter0 := Heap.get?_push_size _ rfl
    have g2 := Heap.get?_push_size (hp.push rgIter0) (o := { cls := Value.type "tuple", data := Data.seq #[Value.ref hp.objs.size, Value.ref g] }) rfl
    have g3 := Heap.get?_push_size ((hp.push rgIter0).push { cls := Value.type "tuple", data := Data.seq #[Value.ref hp.objs.size, Value.ref g] }) (o := { cls := Value.type "tuple", data := Data.seq #[Value.none, Value.none] }) rfl
    have g4 := Heap.get?_push_size (((hp.push rgIter0).push { cls := Value.type "tuple", data := Data.seq #[Value.ref hp.objs.size, Value.ref g] }).push { cls := Value.type "tuple", data := Data.seq #[Value.none, Value.none] }) (o := { cls := Value.type "zip", data := Data.fields #[.none, .bool false, .bool false, Value.ref (hp.push rgIter0).objs.size, Value.ref ((hp.push rgIter0).push { cls := Value.type "tuple", data := Data.seq #[Value.ref hp.objs.size, Value.ref g] }).objs.size] }) rfl
    rw [z1] at g2
    rw [z2] at g3
    rw [z3, z1, z2] at g4
    show R (.ok (.ret (.ref (((hp.push rgIter0).push { cls := Value.type "tuple", data := Data.seq #[Value.ref hp.objs.size, Value.ref g] }).push { cls := Value.type "tuple", data := Data.seq #[Value.none, Value.none] }).objs.size)))
      { heap := (((hp.push rgIter0).push { cls := Value.type "tuple", data := Data.seq #[Value.ref hp.objs.size, Value.ref g] }).push { cls := Value.type "tuple", data := Data.seq #[Value.none, Value.none] }).push { cls := Value.type "zip", data := Data.fields #[.none, .bool false, .bool false, Value.ref (hp.push rgIter0).objs.size, Value.ref ((hp.push rgIter0).push { cls := Value.type "tuple", data := Data.seq #[Value.ref hp.objs.size, Value.ref g] }).objs.size] }, gens := gg, drawn := d, toks := tk, os := os }
    rw [z3, z1, z2]
    exact h _ tk g4 (Heap.get?_push_of_some _ (Heap.get?_push_of_some _ g2)) (Heap.get?_push_of_some _ g3) (Heap.get?_push_of_some _ (Heap.get?_push_of_some _ (Heap.get?_push_of_some _ g1))) (by rw [Heap.size_push, z3]) fun b o e => Heap.get?_push_of_some _ (Heap.get?_push_of_some _ (Heap.get?_push_of_some _ (Heap.get?_push_of_some _ e)))
section
variable {prog : Program} {w : World} {A : Around} {E : Value → Shared → Prop} {s : Shared}
theorem call_zipRG {r g : Addr} {gi : Nat} {t u v : Tok} {Q : Value → Shared → Prop} (hr : IsRange s.heap r 0 0 1 t u v) (hg : s.heap.IsGen g gi)
    (h : ∀ h' tk, IsZip h' (s.heap.objs.size + 3) (s.heap.objs.size + 1) (s.heap.objs.size + 2) .none → IsPair h' (s.heap.objs.size + 1) (.ref s.heap.objs.size) (.ref g) → IsPair h' (s.heap.objs.size + 2) .none .none → IsRangeIter h' s.heap.objs.size 0 0 1 → h'.objs.size = s.heap.objs.size + 4 → (∀ b o, s.heap.get? b = some o → h'.get? b = some o) →
      Q (.ref (s.heap.objs.size + 3)) { s with heap := h', toks := tk }) : wpAny (model prog w) A (call (.type "zip") [.ref r, .ref g]) Q E s := by
  refine callType_new F.called_zip (by decide) (F.typeCall_zip_2 _ _) (F.newCall_zip_2 _ _) (fun obj => F.args_object_init_3 obj _ _) F.entry_zip_new (meets_zipRG r g gi) ⟨⟨t, u, v, hr⟩, hg, fun h' tk h1 h2 h3 h4 h5 h6 => ?_⟩
  exact ⟨⟨_, h1, rfl⟩, h h' tk h1 h2 h3 h4 h5 h6⟩
end
end K6
namespace K6
open PySem PySem.Spec PyProof.Rows L2 RZ
section
variable {prog : Program} {w : World} {A : Around} {E : Value → Shared → Prop} {s : Shared}
theorem nextOf_rgEnd {it : Addr} {x left step : Int} {Q : Value → Shared → Prop} (hh : A.handled = none) (hit : IsRangeIter s.heap it x left step) (hleft : left ≤ 0)
    (hE : ∀ h' e, Heap.ExtBut it s.heap h' → (∃ o, h'.get? e = some o ∧ o.cls = .type "StopIteration") → E (.ref e) { s with heap := h' }) : wpAny (model prog w) A (Builtin.SmallTypes.nextOf (.ref it)) Q E s := by
  have hT : s.TypeIs (.ref it) "range_iterator" := ⟨_, hit, rfl⟩
  unfold Builtin.SmallTypes.nextOf
  refine wpAny_bind (wpAny_callSpecial?_slot (name := Str.ofString "__next__") hT F.slot_range_iterator_next
    (wpAny_call_entry F.slot_range_iterator_next hT F.entry_range_iterator_next ?_ (F.args_range_iterator_next_1 _)))
  have hl : (left ≤ 0) = True := eq_true hleft
  wp_walk
  simp only [raiseNew]
  refine wpAny_bind (wpAny_handled ?_)
  first | rw [show A.in1.handled = none from hh] | rw [hh]
  refine wpAny_bind (wpAny_pure (wpAny_throw ?_))
  exact hE _ _ (((Heap.ExtBut.refl it s.heap).push _).push _) ⟨_, Heap.get?_push_size _ rfl, rfl⟩
theorem zip_next_RG {z TI TO it g : Addr} {a1 a2 : Value} {Q : Fin → Shared → Prop} (hh : A.handled = none) (h1 : TI ≠ z) (h2 : TO ≠ z) (h3 : it ≠ z) (h4 : TO ≠ it)
    (hz : IsZip s.heap z TI TO .none) (hTI : IsPair s.heap TI (.ref it) (.ref g)) (hTO : IsPair s.heap TO a1 a2) (hi : IsRangeIter s.heap it 0 0 1)
    (hE : ∀ h' tk e, (∀ c o, c ≠ z → c ≠ it → s.heap.get? c = some o → h'.get? c = some o) → (∃ o, h'.get? e = some o ∧ o.cls = .type "StopIteration") → E (.ref e) { s with heap := h', toks := tk }) :
    wpAny (model prog w) A (Builtin.«zip.__next__» ⟨[.ref z], []⟩) Q E s := by
  obtain ⟨hp, gg, d, tk0, os⟩ := s
  have nx : ∀ {s : Shared} {Q : Value → Shared → Prop} {E : Value → Shared → Prop}, (IsRangeIter s.heap it 0 0 1 ∧ ∀ h' e, Heap.ExtBut it s.heap h' → (∃ o, h'.get? e = some o ∧ o.cls = .type "StopIteration") → E (.ref e) { s with heap := h' }) → wpAny (model prog w) A (Builtin.SmallTypes.nextOf (.ref it)) Q E s := fun h => nextOf_rgEnd hh h.1 (Int.le_refl _) h.2
  wp_walk
  refine wpAny_onRaise (m := Builtin.SmallTypes.nextOf (.ref it) >>= fun v => pure (some v)) (k := fun _ => setField (.ref z) 0 .none) ?_
  have hz0 : IsZip (hp.update z (Obj.mapFields fun x => x.setIfInBounds 0 Value.ellipsis)) z TI TO .ellipsis := by
    rw [IsZip, Heap.get?_update_self _ hz rfl]; rfl
  refine wpAny_bind (nx ⟨?_, fun h' e hb he => ?_⟩)
  · exact (Heap.get?_update_other _ _ (Ne.symm h3)).trans hi
  · obtain ⟨o, ho, hc⟩ := he
    have hzq : IsZip h' z TI TO .ellipsis := hb _ _ (Ne.symm h3) hz0
    have hez : e ≠ z := fun x => by subst x; rw [hzq] at ho; cases ho; simp at hc
    refine wpAny_setField_rec (s := ⟨h', gg, d, tk0, os⟩) hzq (by simp) fun q' _ hq' => ?_
    replace hq' : Heap.SameBut z h' q' := hq'
    exact hE q' tk0 e (fun c o cz c1 x => hq'.extBut _ _ cz (hb _ _ c1 ((Heap.get?_update_other _ _ (Ne.symm cz)).trans x))) ⟨o, hq'.extBut _ _ hez ho, hc⟩
theorem pyNext_zipRG {z TI TO it g : Addr} {a1 a2 : Value} {Q : Option Value → Shared → Prop} (hh : A.handled = none) (h1 : TI ≠ z) (h2 : TO ≠ z) (h3 : it ≠ z) (h4 : TO ≠ it)
    (hz : IsZip s.heap z TI TO .none) (hTI : IsPair s.heap TI (.ref it) (.ref g)) (hTO : IsPair s.heap TO a1 a2) (hi : IsRangeIter s.heap it 0 0 1)
    (hQ : ∀ h' tk, (∀ c o, c ≠ z → c ≠ it → s.heap.get? c = some o → h'.get? c = some o) → Q none { s with heap := h', toks := tk }) : wpAny (model prog w) A (pyNext (.ref z)) Q E s := by
  have hT : s.TypeIs (.ref z) "zip" := ⟨_, hz, rfl⟩
  unfold pyNext
  refine wpAny_bind (wpAny_attempt (wpAny_callSpecial?_slot (name := Str.ofString "__next__") hT F.slot_zip_next
    (wpAny_call_entry F.slot_zip_next hT F.entry_zip_next (zip_next_RG hh h1 h2 h3 h4 hz hTI hTO hi fun h' tk e hk he => ?_) (F.args_zip_next_1 _))))
  obtain ⟨o, ho, hc⟩ := he
  exact wpAny_bind (wpAny_isInstance (T := "StopIteration") (b := true) ⟨o, ho, hc⟩ isSubtype_stop (wpAny_pure (hQ _ _ hk)))
end
end K6
namespace K6
open PySem PySem.Spec PyProof.Rows L2 RZ
theorem zip_no_len : typeLookup (.type "zip") "__len__" = pure none := by rw [typeLookup_type, builtinLookup_eq_fast]; kernel_rfl
theorem zip_no_hint : typeLookup (.type "zip") "__length_hint__" = pure none := by rw [typeLookup_type, builtinLookup_eq_fast]; kernel_rfl
/-- a zip over an empty range and anything -/
structure ZipRG (h : Heap) (z : Addr) (TI TO it : Addr) : Prop where
  n1 : TI ≠ z
  n2 : TO ≠ z
  n3 : it ≠ z
  n4 : TO ≠ it
  z : IsZip h z TI TO .none
  ti : ∃ g, IsPair h TI (.ref it) (.ref g)
  to : ∃ a b, IsPair h TO a b
  it : IsRangeIter h it 0 0 1
theorem ZipRG.walks {prog : Program} {w : World} {A : Around} (hh : A.handled = none) (z TI TO it : Addr) :
    WalksS prog w A z [z, TI, TO, it] [z, it] (fun a b => b = a) 0 (fun _ _ => False) (fun _ s => ZipRG s.heap z TI TO it) where
  sub := fun b hb => by
    have : b = z ∨ b = it := by simpa using hb
    rcases this with rfl | rfl <;> simp
  grefl := fun _ => rfl
  gtrans := fun _ _ _ h1 h2 => h2.trans h1
  frame := fun i s h' _ st _ hk => by
    obtain ⟨g, hg⟩ := st.ti
    obtain ⟨a, b, ho⟩ := st.to
    exact ⟨st.n1, st.n2, st.n3, st.n4, hk _ (by simp) _ st.z, ⟨g, hk _ (by simp) _ hg⟩, ⟨a, b, hk _ (by simp) _ ho⟩, hk _ (by simp) _ st.it⟩
  item := fun i s Q E hi _ _ => absurd hi (Nat.not_lt_zero _)
  done := fun s Q E st hQ => by
    obtain ⟨g, hg⟩ := st.ti
    obtain ⟨a, b, ho⟩ := st.to
    exact wpAny_with_toks (Nat.le_refl s.toks) (pyNext_zipRG hh st.n1 st.n2 st.n3 st.n4 st.z hg ho st.it fun h' tk hk htk => hQ _ ⟨fun b o hb e => hk b o (fun x => hb (by simp [x])) (fun x => hb (by simp [x])) e, rfl, rfl, rfl, htk⟩)
  self := fun i s Q E st hQ => wpAny_pyIter_zip st.z hQ
section
variable {prog : Program} {w : World} {A : Around} {s : Shared} {R : Result → Shared → Prop} {E : Value → Shared → Prop}
variable {I : Addr} {fp wr : List Addr} {G : Array GenState → Array GenState → Prop} {n : Nat} {P : Nat → Value → Prop} {St : Nat → Shared → Prop}
theorem list_init_zip (W : WalksS prog w A.in1 I fp wr G n P St) (hT : ∀ i s, St i s → s.TypeIs (.ref I) "zip") (S : Addr) (hst : St 0 s) (hSf : S ∉ fp) (hI : I ∈ fp)
    (hS : s.heap.get? S = some { cls := .type "list", data := .seq #[] })
    (hR : ∀ s' acc' c', Moved (S :: wr) G s s' → s'.heap.get? S = some { cls := .type "list", dict := none, data := .seq acc' c', slots := #[] } → ItemsOf P acc' n → R (.ok (.ret .none)) s') (hn : n ≤ sizeLine := by size_fits) :
    wpAny (model prog w) A.in1 (Builtin.«list.__init__» ⟨[.ref S, .ref I], []⟩)
      (fun fin s' => match fin with | .done f => R (.ok f) s' | .again c' => c'.quiet = true ∧ codeAny (model prog w) A c' R s') (fun e s' => R (.error e) s') s := by
  have oth : ∀ (f1 f2 f3 : Obj → Obj) b o, b ≠ S → s.heap.get? b = some o → (((s.heap.update S f1).update S f2).update S f3).get? b = some o :=
    fun _ _ _ b o hb e => (Heap.get?_update_other _ _ (Ne.symm hb)).trans ((Heap.get?_update_other _ _ (Ne.symm hb)).trans ((Heap.get?_update_other _ _ (Ne.symm hb)).trans e))
  have hSI : S ≠ I := fun e => hSf (e ▸ hI)
  have e1 : Builtin.List.listSameRef (.ref S) (.ref I) = false := by simp [Builtin.List.listSameRef, hSI]
  show wpAny _ A.in1 (Builtin.List.listItems (.ref S) >>= fun old => Builtin.List.listUpdate (.ref S) (fun _ => #[]) >>= fun _ => letGo old.toList.reverse >>= fun _ => Builtin.List.listExtendWith (.ref S) (.ref I) .none) _ _ s
  refine wpAny_bind ?_
  unfold Builtin.List.listItems
  refine wpAny_bind (wpAny_seqItems hS rfl (wpAny_pure ?_))
  show wpAny _ A.in1 (updateSeq S (fun _ => #[]) >>= fun _ => letGo (#[] : Array Value).toList.reverse >>= fun _ => Builtin.List.listExtendWith (.ref S) (.ref I) .none) _ _ s
  refine wpAny_bind (wpAny_updateSeq hS rfl (wpAny_bind (wpAny_letGo ?_)))
  have k1 := Heap.get?_update_self (Obj.mapSeq (fun _ => (#[] : Array Value))) hS rfl
  have st1 := W.frame 0 s (s.heap.update S (Obj.mapSeq (fun _ => (#[] : Array Value)))) s.toks hst (Nat.le_refl _) fun b hb o e => (Heap.get?_update_other _ _ (fun x : S = b => hSf (x ▸ hb))).trans e
  unfold Builtin.List.listExtendWith
  refine wpAny_bind (wpAny_typeOf (hT 0 _ st1) ?_)
  simp only [e1, show (Value.type "zip" == Value.type "list") = false by decide, show (Value.type "zip" == Value.type "tuple") = false by decide, Bool.or_false, Bool.false_eq_true, if_false]
  refine wpAny_bind (W.self 0 _ _ _ st1 (wpAny_bind (wpAny_holding ?_)))
  unfold Builtin.List.listLengthHint
  refine wpAny_bind (wpAny_specialOf (hT 0 _ st1) zip_no_len ?_)
  show wpAny _ A.in1 (specialOf (Value.ref I) (Str.ofString "__length_hint__") >>= _) _ _ _
  refine wpAny_bind (wpAny_specialOf (hT 0 _ st1) zip_no_hint (wpAny_pure ?_))
  show wpAny _ A.in1 (rule "list.extend.makes-room" >>= fun _ => (updateSeq S (·.push .none) >>= fun _ => updateSeq S (·.pop)) >>= fun _ =>
    again (.builtin "list.extend.loop" ⟨[.ref S, .ref I, .none], []⟩)) _ _ _
  refine wpAny_bind (wpAny_rule (wpAny_bind (wpAny_bind (wpAny_updateSeq k1 rfl ?_))))
  have k2 := Heap.get?_update_self (Obj.mapSeq (·.push Value.none)) k1 rfl
  refine wpAny_updateSeq (hz := by seq_fits) k2 rfl (wpAny_pure ⟨plainId_quiet F.plain_extend_loop _, ?_⟩)
  have k3 := Heap.get?_update_self (Obj.mapSeq (·.pop)) k2 rfl
  refine codeAny_extend_loopS W hn _ hSf _ n 0 _ _ _ rfl (Nat.zero_le _) (W.frame 0 s _ s.toks hst (Nat.le_refl _) fun b hb o e => oth _ _ _ b o (fun h => hSf (h ▸ hb)) e) k3 (ItemsOf.nil P) fun s' acc' c' hm hS' hacc => ?_
  exact hR s' acc' c' (Moved.trans W.gtrans ((Moved.refl W.grefl).then_heap (Nat.le_refl _) fun b o hb e => oth _ _ _ b o (fun h => hb (h ▸ List.mem_cons_self)) e) hm) hS' hacc
theorem call_list_zipRG {z TI TO it : Addr} {Q : Value → Shared → Prop} (hh : A.handled = none) (hz : ZipRG s.heap z TI TO it)
    (hQ : ∀ h' tk c', (∀ b o, b ≠ z → b ≠ it → s.heap.get? b = some o → h'.get? b = some o) → h'.get? s.heap.objs.size = some { cls := .type "list", dict := none, data := .seq #[] c', slots := #[] } → Q (.ref s.heap.objs.size) { s with heap := h', toks := tk }) :
    wpAny (model prog w) A (call (.type "list") [.ref z]) Q E s := by
  have lt : ∀ b ∈ [z, TI, TO, it], b ≠ s.heap.objs.size := fun b hb => by
    have : b = z ∨ b = TI ∨ b = TO ∨ b = it := by simpa using hb
    obtain ⟨g, hg⟩ := hz.ti
    obtain ⟨a, c, ho⟩ := hz.to
    rcases this with rfl | rfl | rfl | rfl
    · exact Nat.ne_of_lt (Heap.lt_size hz.z)
    · exact Nat.ne_of_lt (Heap.lt_size hg)
    · exact Nat.ne_of_lt (Heap.lt_size ho)
    · exact Nat.ne_of_lt (Heap.lt_size hz.it)
  have W := ZipRG.walks (prog := prog) (w := w) (A := A.in1.in1) hh z TI TO it
  refine callType_codes (Q₁ := fun obj s₁ => obj = .ref s.heap.objs.size ∧ s₁ = { s with heap := s.heap.push { cls := .type "list", data := .seq #[] } }) F.called_list (F.typeCall_list_1 _) F.entry_list_init
    (code_list_new _ ⟨rfl, rfl⟩) fun obj s₁ h₁ => ?_
  obtain ⟨rfl, rfl⟩ := h₁
  have hS : (s.heap.push { cls := .type "list", data := .seq #[] }).get? s.heap.objs.size = some { cls := .type "list", data := .seq #[] } := Heap.get?_push_size _ rfl
  refine ⟨⟨_, hS, rfl⟩, F.args_list_init_2 _ _, list_init_zip W (fun _ _ st => ⟨_, st.z, rfl⟩) _ (W.frame 0 s _ s.toks hz (Nat.le_refl _) fun b _ o e => Heap.get?_push_of_some _ e) (fun hm => lt _ hm rfl) (by simp) hS fun s' acc' c' hm hS' hacc => ?_⟩
  refine ⟨rfl, ?_⟩
  obtain ⟨hp, gg, d, tk, os⟩ := s
  obtain ⟨hp', gg', d', tk', os'⟩ := s'
  obtain ⟨m1, m2, m3, m4, m5⟩ := hm
  cases m2; cases m3; cases m4
  have : acc' = #[] := Array.eq_empty_of_size_eq_zero hacc.1
  subst this
  exact hQ hp' tk' c' (fun b o b1 b2 e => m1 b o (fun x => by
    have : b = hp.objs.size ∨ b = z ∨ b = it := by simpa using x
    rcases this with y | y | y
    · exact Nat.ne_of_lt (Heap.lt_size e) y
    · exact b1 y
    · exact b2 y) (Heap.get?_push_of_some _ e)) hS'
end
end K6
namespace K6
open PySem PySem.Spec PyProof.Rows L2 RZ
section
variable {X : Cx} {k : Nat} {f : Addr} {fd : FuncData} {ps : List Str} {sp : SpG} {dvs : List V} {ds : List Value} {x n1 n2 n3 : Str} {p p1 p2 p3 pos pos1 pos2 pos3 cp : Pos} {j : Nat} {e : Expr} {es : List Expr} {t : TA} {E : XK}
def tZipRG (sp : SpG) (dvs : List V) (E : XK) (t : TA) : TE := fun σ H Q => t σ H fun vs H1 => sp (vs ++ dvs) H1 (fun _ _ => True) E ∧ ∀ q, H1 q = none → Q (.ref q) (upd H1 q (.lst []))
theorem pe_zipRG (hc : X.calm = true) (F : GFn X.prog X.w X.K X.mg X.base k f fd ps sp) (hr : Room k X.A) (hg : Gl X x) (hm : X.mg x = some (.ref f)) (hk : PySem.W.keepIn X.K (.ref f) = true) (hb : Binds X.K fd ps ds) (hd : Vals dvs ds) (ha : PA X (e :: es) t)
    (g1 : Gl X n1) (m1 : X.mg n1 = none) (b1 : bootBuiltins n1 = some (.type "list")) (g2 : Gl X n2) (m2 : X.mg n2 = none) (b2 : bootBuiltins n2 = some (.type "zip")) (g3 : Gl X n3) (m3 : X.mg n3 = none) (b3 : bootBuiltins n3 = some (.type "range"))
    (hdb : (x == ("__debug__" : Str)) = false := by decide) (hn1 : n1 ≠ "__name__" := by decide) (hn2 : n2 ≠ "__name__" := by decide) (hn3 : n3 ≠ "__name__" := by decide) (hd1 : (n1 == ("__debug__" : Str)) = false := by decide) (hd2 : (n2 == ("__debug__" : Str)) = false := by decide) (hd3 : (n3 == ("__debug__" : Str)) = false := by decide)
    (he : starEach (e :: es) X.env = (false, eval e X.env) :: starEach es X.env := by rfl) (hpl : ∀ pos, (backTo pos (starEach es X.env)).any (·.1) = false := by intro _; rfl) :
    PE X (.Call (.Name n1 p1) [.Call (.Name n2 p2) [.Call (.Name n3 p3) [.Constant (.int 0) j cp] [] pos3, .Call (.Name x p) (e :: es) [] pos] [] pos2] [] pos1) (tZipRG sp dvs E t) := by
  refine ⟨fun pins s σ H Q I h => ?_⟩
  refine wpAny_Call_Name_kw (ld_blt I g1 m1 b1 ?_ hn1 hd1)
  refine PyProof.Rows.callWith_type1 ?_ rfl rfl
  refine Calls.spliced_cons ?_
  refine wpAny_Call_Name_kw (ld_blt I g2 m2 b2 ?_ hn2 hd2)
  refine PyProof.Rows.callWith_type1 ?_ rfl rfl
  refine Calls.spliced_cons ?_
  refine wpAny_Call_Name_kw (ld_blt I g3 m3 b3 ?_ hn3 hd3)
  refine PyProof.Rows.callWith_type1 (Calls.spliced_cons (wpAny_Constant_int (k := j) (pos := cp) (Calls.spliced_nil (call_range_1 ?_)))) rfl rfl
  have fr0 := I.hok.fresh (Nat.le_refl s.heap.objs.size)
  have I1 : Inv X pins σ H { s with heap := s.heap.push { cls := .type "range", data := .fields #[.int 0 (s.toks + 1), .int 0 s.toks, .int 1 (s.toks + 1 + 1)] }, toks := s.toks + 1 + 1 + 1 } := I.kept fun b u q => Heap.get?_push_of_some _ q
  have e1 := Heap.get?_push_size s.heap (o := { cls := .type "range", data := .fields #[.int 0 (s.toks + 1), .int 0 s.toks, .int 1 (s.toks + 1 + 1)] }) rfl
  have I1p := I1.pinned (fp := [s.heap.objs.size]) (fun b hb => by rw [List.mem_singleton.mp hb]; exact I.fpOk (Nat.le_refl _) fr0) (fun b hb => by rw [List.mem_singleton.mp hb]; exact ⟨_, e1, fun v z => nomatch z⟩)
  refine Calls.spliced_cons ?_
  refine wpAny_Call_Name_kw (ld_glob I1p hg hm ?_ hdb)
  refine PySem.W.callWith_K (h₀ := X.base) I.ok.mod.kin hk (thn (ha.run pos _ _ σ H _ I1p h) fun us s2 ⟨vs, H2, I2, r2, q, q2⟩ => ⟨I2.kIn, ?_⟩) he (hpl _)
  have r3 : Vals (vs ++ dvs) (us ++ ds) := r2.append hd
  have hl2 : (us ++ ds).length = ps.length := by rw [← r3.length]; exact F.len _ _ _ _ q
  refine wpAny_call (codeAny_mono (F.run X.A X.stack s2 H2 ⟨us, []⟩ (us ++ ds) (vs ++ dvs) _ E hr I2.env0 (hb s2 us I2.kIn hl2) r3 q) fun rr s3 hq => ?_)
  cases rr with
  | error e => exact False.elim hq
  | ok fl =>
    cases fl with
    | next => exact False.elim hq
    | brk => exact False.elim hq
    | cont => exact False.elim hq
    | ret u =>
      obtain ⟨a, g, c, rfl, l1, l2, hG, _, ho, hba, _, hke, _⟩ := hq
      have I3 := I2.call' (s' := s3) (H' := H2) (ch := []) ho (Un.kept hke) (I2.hok.kept hke) hba (fun b z => nomatch z)
      have e3 : s3.heap.get? s.heap.objs.size = some { cls := .type "range", data := .fields #[.int 0 (s.toks + 1), .int 0 s.toks, .int 1 (s.toks + 1 + 1)] } := (I3.pin (s.heap.objs.size, _) (List.mem_append_right _ (List.mem_append_right _ (by simp [pinsAt, e1])))).1
      refine Calls.spliced_nil (call_zipRG (s := s3) e3 hG fun h' tk z1 z2 z3 z4 sz ke => Calls.spliced_nil ?_)
      refine call_list_zipRG (s := { s3 with heap := h', toks := tk }) (TI := s3.heap.objs.size + 1) (TO := s3.heap.objs.size + 2) (it := s3.heap.objs.size) (I.ok.hd hc) ⟨by simp, by simp, by simp, by simp, z1, ⟨_, z2⟩, ⟨_, _, z3⟩, z4⟩ fun h2 tk2 c2 ke2 hL => ?_
      have kk : ∀ b o, s3.heap.get? b = some o → h2.get? b = some o := fun b o q => ke2 b o (Nat.ne_of_lt (Nat.lt_of_lt_of_le (Heap.lt_size q) (Nat.le_add_right _ 3))) (Nat.ne_of_lt (Heap.lt_size q)) (ke b o q)
      have sz2 : s3.heap.objs.size ≤ h'.objs.size := by rw [sz]; exact Nat.le_add_right _ _
      refine ⟨.ref h'.objs.size, upd H2 h'.objs.size (.lst []), ?_, rfl, q2 _ (I3.hok.fresh sz2)⟩
      exact (I3.unpinned).laid kk sz2 (show ObjOk X.prog X.w _ _ _ (.lst []) from ⟨Nat.zero_le _, [], c2, .nil, by rw [hL]⟩)
theorem zr_end {K : PySem.W.Frag} {σ : L2.St} {H1 : Hp} {Q : VK} (h : ∀ H', Same H1 H' → Q (.bl true) H') : ∀ q, H1 q = none → tLst tNil σ (upd H1 q (.lst [])) fun y H2 => rEqD K (.ref q) y H2 Q := fun q hq => by
  have sh : Shp 1 (.list (([] : List Int).map PyData.int)) := .lst .int _
  refine ⟨Nat.zero_le _, fun p hp => ⟨.list (([] : List Int).map PyData.int), .list (([] : List Int).map PyData.int), .lst (SqL.of (Same.new hp _ _ upd_same)) (dp_ints []), .lst (SqL.of upd_same) (dp_ints []), sh.shaped (by decide), sh.shaped (by decide), ?_⟩⟩
  rw [eqv_self sh (by decide)]
  exact h _ ((Same.new hq).trans (Same.new hp))
theorem bootZip : bootBuiltins "zip" = some (.type "zip") := by decide +kernel
theorem bootRng : bootBuiltins "range" = some (.type "range") := by decide +kernel
end
end K6
namespace K6
open PySem PySem.Spec PyProof.Rows L2 LamX LamY
theorem pw10 {k : Int} (h1 : 0 ≤ k) (h2 : k ≤ 1000000) : CPow 10 k := ⟨h1, h2, by decide⟩
abbrev nOR : List Str := ["dice", "none", "degree", "some", "three", "calls", "number", "due"]
theorem scOR : FnScope nOR ["dice"] (defScope sOthersR) := ⟨rfl, rfl, rfl, by decide +kernel, rfl, by decide +kernel, by decide +kernel⟩
def qOR : Str := (envOfC "_law_others_right" (defScope sOthersR) 0 0 .none).qual ++ ("<lambda>" : Str)
def noneO : List PyData := [.none, .int 2, .list [.int 2, .int 3], .tuple [.int 0], .tuple [.int 41], .tuple [.int 2, .bool true], .tuple [.str "2"], .tuple (List.replicate (25 : Int).toNat [.int 2]).flatten, .dict []]
def degO : List PyData := [.none, .int (-1), .int 81, .bool true, .str "3", .tuple [.int 3], .int (10 ^ (60 : Int).toNat)]
def someO : List PyData := [.none, .int 0, .list [.int 0], .tuple [.int 3], .tuple [.int (-1)], .tuple [.bool true], .tuple [.str "0"], .tuple (List.replicate (41 : Int).toNat [.int 0]).flatten, .dict [], .tuple [.tuple [.int 0]], .tuple [.int (10 ^ (60 : Int).toNat)]]
/-- no integer above sixty digits is shown; the text is short -/
def showOk (d : PyData) : Bool := d.showable && !d.hasDict && decide (d.depth ≤ 60) && decide (d.shown.length ≤ 900)
theorem Da.shown {K : PySem.W.Frag} {N : Addr → Prop} {H : Hp} {x : V} {d : PyData} (h : Da N H x d) (o : showOk d = true) : Shown K H x d.shown ∧ d.shown.length ≤ 900 := by
  unfold showOk at o
  simp only [Bool.and_eq_true, Bool.not_eq_true', decide_eq_true_eq] at o
  exact ⟨⟨d, Da.dp d x o.1.1.2 h, o.1.1.1, o.1.1.2, o.1.2, sl (by omega), rfl⟩, o.2⟩
abbrev NoL : Addr → Prop := fun _ => False
def fineO (d : PyData) : Bool := showOk d && (PyData.str ("number " ++ d.shown)).canLay0
theorem fineO_show {d : PyData} (h : fineO d = true) : showOk d = true := (Bool.and_eq_true_iff.mp h).1
theorem fineO_lay {d : PyData} (h : fineO d = true) : (PyData.str ("number " ++ d.shown)).canLay0 = true := (Bool.and_eq_true_iff.mp h).2
theorem noneO_ok : noneO.all (fun d => !dtup 24 1 40 d) = true := by decide +kernel
theorem degO_ok : degO.all (fun d => !dbet 0 80 d && fineO d) = true := by decide +kernel
theorem someO_ok : someO.all (fun d => !dtup 40 0 2 d) = true := by decide +kernel
/-- errors of one of two classes -/
def EsOf (C N : Addr) (E : XK) : XK := fun cls d H => (cls = .ref C ∨ cls = .ref N) ∧ E cls d H
theorem passes_imp {X : Cx} {E E' : XK} (h : Passes (L2.CX X.prog X.w) X E) (i : ∀ cls d H, E' cls d H → E cls d H) : Passes (L2.CX X.prog X.w) X E' := fun pins σ H s e s' I q => h pins σ H s e s' I (by
  obtain ⟨a, B, H', cls, d, e1, e2, e3, e4, e5, e6, e7, e8⟩ := q
  exact ⟨a, B, H', cls, d, e1, e2, e3, e4, e5, e6, e7, i _ _ _ e8⟩)
theorem nostop {K : PySem.W.Frag} {C N : Addr} {E : XK} (hC : PySem.W.subIn K (.ref C) (.type "StopIteration") = some false) (hN : PySem.W.subIn K (.ref N) (.type "StopIteration") = some false) : NoStop K (EsOf C N E) := fun cls d H h => by
  rcases h.1 with e | e <;> rw [e] <;> assumption
section
variable {P : Program} {w : World} {K : PySem.W.Frag} {mg : Str → Option Value} {base : Heap} {CL CW CO CN CM fPi fAr fWo fWc fSL fEw : Addr} {dPi dAr dWo dWc dSL dEw : FuncData}
theorem ok_or {f c P1 : Addr} {T' : List (Addr × Str)} {kV doc pm ct oc : Value} {an od : Option Addr} {osl : Array (Option Value)} (mT : (P1, qOR) ∈ T') (uT : ∀ p ∈ T', p.1 = P1 → p.2 = qOR)
    (lk : K.lookup f = some ⟨oc, od, .func (PySem.W.fnOf "_law_others_right" "_law_others_right" (defArgs sOthersR) (defBody sOthersR) (defScope sOthersR) .none kV doc pm an (.ref c) ct), osl⟩)
    (hcd : PySem.W.codeIn K (.ref c) "_law_others_right" = true) (TB : TabB base mg c P1) (T : Txt K mg) (nsL : PySem.W.subIn K (.ref CL) (.type "StopIteration") = some false) (nsN : PySem.W.subIn K (.ref CN) (.type "StopIteration") = some false)
    (gPi : mg "_law_pick" = some (.ref fPi)) (kPi : PySem.W.keepIn K (.ref fPi) = true) (bPi : Binds K dPi ["dice", "items"] []) (FPi : FnOk P w K mg base CX0 2 fPi dPi ["dice", "items"] spPick)
    (gAr : mg "_law_are_met" = some (.ref fAr)) (kAr : PySem.W.keepIn K (.ref fAr) = true) (bAr : Binds K dAr ["calls", "due"] []) (FAr : LamY.FnG P w K mg base CX0 12 fAr dAr ["calls", "due"] (spAre P w K mg base 9 CL CW CO CN CM))
    (gWo : mg "words_of" = some (.ref fWo)) (kWo : PySem.W.keepIn K (.ref fWo) = true) (bWo : Binds K dWo ["letters", "degree"] []) (FWo : FnOk P w K mg base (L2.CX P w) 6 fWo dWo ["letters", "degree"] (spBadLD K CL CN)) (FWM : FnOk P w K mg base (L2.CX P w) 6 fWo dWo ["letters", "degree"] (spMany K CM))
    (gWc : mg "word_count" = some (.ref fWc)) (kWc : PySem.W.keepIn K (.ref fWc) = true) (bWc : Binds K dWc ["letters", "degree"] []) (FWc : FnOk P w K mg base (L2.CX P w) 6 fWc dWc ["letters", "degree"] (spBadLD K CL CN)) (FWC : FnOk P w K mg base CX0 6 fWc dWc ["letters", "degree"] (spCount K))
    (gSL : mg "sorted_word" = some (.ref fSL)) (kSL : PySem.W.keepIn K (.ref fSL) = true) (bSL : Binds K dSL ["letters", "indices"] []) (FSL : FnOk P w K mg base (L2.CX P w) 6 fSL dSL ["letters", "indices"] (spBadLV K CL)) (FSO : FnOk P w K mg base (L2.CX P w) 6 fSL dSL ["letters", "indices"] (spSortOp K CO)) (FSR : FnOk P w K mg base CX0 6 fSL dSL ["letters", "indices"] (spSort K))
    (gEw : mg "each_word" = some (.ref fEw)) (kEw : PySem.W.keepIn K (.ref fEw) = true) (bEw : Binds K dEw ["letters", "most"] []) (FEw : GFn P w K mg base 6 fEw dEw ["letters", "most"] (spEachBad K CL CN)) :
    LamY.FnG P w K mg base CX0 13 f (PySem.W.fnOf "_law_others_right" "_law_others_right" (defArgs sOthersR) (defBody sOthersR) (defScope sOthersR) .none kV doc pm an (.ref c) ct) ["dice"] (spWR T') := by
  refine ⟨fun vs H Q E h => ?_, fun A outer s H args us vs Q E hgd hr e0 hb r h => ?_⟩
  · obtain ⟨d, L, rfl, _⟩ := h; rfl
  have hlen : vs.length = (["dice"] : List Str).length := by obtain ⟨d, L, rfl, _⟩ := h; rfl
  refine run_ofS (N := nOR) (k := 12) lk hcd scOR hr e0 hb r hlen fun hr => ?_
  obtain ⟨d, L, rfl, hd, hL, hT, k⟩ := h
  have hr2 : Room 2 _ := hr.mono (by decide)
  have FSR := fn_wide FSR
  have FWC := fn_wide FWC
  have gWM := gWo
  have kWM := kWo
  have bWM := bWo
  have gWC := gWc
  have kWC := kWc
  have bWC := bWc
  have gSO := gSL
  have kSO := kSL
  have bSO := bSL
  have gSR := gSL
  have kSR := kSL
  have bSR := bSL
  have ec : (cxOf CX0 P w K mg base nOR "_law_others_right" (defScope sOthersR) f (.ref c) A outer s H E).nox.env.cells = [(("three" : Str), s.heap.objs.size + 1 + 1 + 1 + 1), ("some", s.heap.objs.size + 1 + 1 + 1), ("none", s.heap.objs.size + 1 + 1), ("degree", s.heap.objs.size + 1)] := rfl
  have mem4 : ∀ {p q1 q2 q3 q4 : Str × Addr}, p ∈ [q1, q2, q3, q4] → p = q1 ∨ p = q2 ∨ p = q3 ∨ p = q4 := fun {p q1 q2 q3 q4} h => by simpa using h
  have hcl : Cells (cxOf CX0 P w K mg base nOR "_law_others_right" (defScope sOthersR) f (.ref c) A outer s H E).nox := fun p hp => by
    rw [ec] at hp ⊢
    rcases mem4 hp with e | e | e | e <;> subst e <;> rfl
  have hfn : ∀ y, (cxOf CX0 P w K mg base nOR "_law_others_right" (defScope sOthersR) f (.ref c) A outer s H E).nox.fn y = true := fun _ => rfl
  have hvis : ∀ y c', (cxOf CX0 P w K mg base nOR "_law_others_right" (defScope sOthersR) f (.ref c) A outer s H E).nox.env.cells.lookup y = some c' → (cxOf CX0 P w K mg base nOR "_law_others_right" (defScope sOthersR) f (.ref c) A outer s H E).nox.env.scope.names.lookup y = some NameKind.cell := fun y c' e => by
    rw [ec] at e
    rcases mem4 (PySem.mem_of_lookup e) with e | e | e | e <;> cases e <;> rfl
  have hinj : Inj (cxOf CX0 P w K mg base nOR "_law_others_right" (defScope sOthersR) f (.ref c) A outer s H E).nox := fun x y c' e1 e2 => by
    rw [ec] at e1 e2
    rcases mem4 (PySem.mem_of_lookup e1) with h | h | h | h <;> rcases mem4 (PySem.mem_of_lookup e2) with g | g | g | g <;> first
      | exact (congrArg Prod.fst h).trans (congrArg Prod.fst g).symm
      | (have a1 : c' = _ := congrArg Prod.snd h; have a2 : c' = _ := congrArg Prod.snd g; exact absurd (a1.symm.trans a2) (by generalize s.heap.objs.size = n; show ¬ (_ : Nat) = _; omega))
  have hcell : ∀ y : Str, (defScope sOthersR).names.lookup y = some .cell → ∃ c, (cxOf CX0 P w K mg base nOR "_law_others_right" (defScope sOthersR) f (.ref c) A outer s H E).nox.env.cells.lookup y = some c := fun y e => by
    have h : ((defScope sOthersR).names.all fun y => !decide (y.2 = .cell) || ((cxOf CX0 P w K mg base nOR "_law_others_right" (defScope sOthersR) f (.ref c) A outer s H E).nox.env.cells.lookup y.1).isSome) = true := rfl
    have h1 := List.all_eq_true.mp h _ (PySem.mem_of_lookup e)
    exact Option.isSome_iff_exists.mp h1
  have fr : ∀ {scope : Scope}, ((scope.names.all fun y => !decide (y.2 = NameKind.free) || decide ((defScope sOthersR).names.lookup y.1 = some .cell)) = true) → ∀ y ∈ scope.names, y.2 = NameKind.free → ∃ c, (cxOf CX0 P w K mg base nOR "_law_others_right" (defScope sOthersR) f (.ref c) A outer s H E).nox.env.cells.lookup y.1 = some c := fun {scope} h y hy e => by
    have h1 := List.all_eq_true.mp h y hy
    rw [e] at h1
    exact hcell _ (of_decide_eq_true h1)
  have bld : ∀ {params : Arguments} {body : Expr} {scope : Scope} {t : XK → TE}, lamSB (defScope sOthersR) scope = true → ((scope.names.all fun y => !decide (y.2 = NameKind.free) || decide ((defScope sOthersR).names.lookup y.1 = some .cell)) = true) →
      (∀ (q : Str) (cl : List (Str × Addr)) (pm cv ctv : Value), bindArgs (PySem.W.kla_fn "<lambda>" q params body scope cl pm cv ctv) {} = pure []) →
      (∀ (A' : Around) (outer' : List Env) (s' : Shared) (H' : Hp) (E' : XK) (f' c' : Addr), Room 9 (A'.deeper (lamEnv (cxOf CX0 P w K mg base nOR "_law_others_right" (defScope sOthersR) f (.ref c) A outer s H E).nox scope s'.heap.objs.size f' c')) → PE (lamCx (cxOf CX0 P w K mg base nOR "_law_others_right" (defScope sOthersR) f (.ref c) A outer s H E).nox A' outer' s' H' E' scope f' c') body (t E')) →
      LamB (cxOf CX0 P w K mg base nOR "_law_others_right" (defScope sOthersR) f (.ref c) A outer s H E).nox 9 params body scope t := fun h1 h2 h3 h4 => ⟨lamS_by h1, fr h2, h3, h4⟩
  have lv : ∀ {params : Arguments} {body : Expr} {scope : Scope} {t : XK → TE} {lpos : Pos}, lamSB (defScope sOthersR) scope = true → ((scope.names.all fun y => !decide (y.2 = NameKind.free) || decide ((defScope sOthersR).names.lookup y.1 = some .cell)) = true) → defaultsOf params (cxOf CX0 P w K mg base nOR "_law_others_right" (defScope sOthersR) f (.ref c) A outer s H E).nox.env = ([], []) →
      (∀ (q : Str) (cl : List (Str × Addr)) (pm cv ctv : Value), bindArgs (PySem.W.kla_fn "<lambda>" q params body scope cl pm cv ctv) {} = pure []) →
      (∀ (A' : Around) (outer' : List Env) (s' : Shared) (H' : Hp) (E' : XK) (f' c' : Addr), Room 9 (A'.deeper (lamEnv (cxOf CX0 P w K mg base nOR "_law_others_right" (defScope sOthersR) f (.ref c) A outer s H E).nox scope s'.heap.objs.size f' c')) → PE (lamCx (cxOf CX0 P w K mg base nOR "_law_others_right" (defScope sOthersR) f (.ref c) A outer s H E).nox A' outer' s' H' E' scope f' c') body (t E')) →
      PE (cxOf CX0 P w K mg base nOR "_law_others_right" (defScope sOthersR) f (.ref c) A outer s H E).nox (.Lambda params body scope lpos) (tKeep (cxOf CX0 P w K mg base nOR "_law_others_right" (defScope sOthersR) f (.ref c) A outer s H E).nox T' 9 t) := fun h1 h2 h0 h3 h4 => pe_keep (bld h1 h2 h3 h4) TB rfl mT uT h0

  suffices hx : ∃ t, PSs (cxOf CX0 P w K mg base nOR "_law_others_right" (defScope sOthersR) f (.ref c) A outer s H E).nox (defBody sOthersR) t ∧ t { nx := fun _ H' => Q .non H', rt := Q } (L2.start nOR [.ref d]) H by
    obtain ⟨t, ht, hq⟩ := hx
    exact ⟨t, ht.nox, hq⟩
  refine ⟨_, (pss_cons (ps_set (i := 1) scOR.nd rfl (.inr rfl) (pe_call FPi hr2 (by rfl) gPi kPi bPi .nil pass0 (pa_cons (pv 0) (pa_cons (pd_lst (pds_cons pd_non (pds_cons pd_int (pds_cons (pd_lst (pds_cons pd_int (pds_cons pd_int pds_nil))) (pds_cons (pd_tup (pds_cons pd_int pds_nil)) (pds_cons (pd_tup (pds_cons pd_int pds_nil)) (pds_cons (pd_tup (pds_cons pd_int (pds_cons pd_bl pds_nil))) (pds_cons (pd_tup (pds_cons pd_str pds_nil)) (pds_cons (pd_rep (pd_tup (pds_cons pd_int pds_nil))) (pds_cons pd_dic pds_nil)))))))))) pa_nil))))
    (pss_cons (ps_set (i := 2) scOR.nd rfl (.inr rfl) (pe_call FPi hr2 (by rfl) gPi kPi bPi .nil pass0 (pa_cons (pv 0) (pa_cons (pd_lst (pds_cons pd_non (pds_cons pd_neg (pds_cons pd_int (pds_cons pd_bl (pds_cons pd_str (pds_cons (pd_tup (pds_cons pd_int pds_nil)) (pds_cons (pd_pow (pw10 (by decide) (by decide))) pds_nil)))))))) pa_nil))))
    (pss_cons (ps_set (i := 3) scOR.nd rfl (.inr rfl) (pe_call FPi hr2 (by rfl) gPi kPi bPi .nil pass0 (pa_cons (pv 0) (pa_cons (pd_lst (pds_cons pd_non (pds_cons pd_int (pds_cons (pd_lst (pds_cons pd_int pds_nil)) (pds_cons (pd_tup (pds_cons pd_int pds_nil)) (pds_cons (pd_tup (pds_cons pd_neg pds_nil)) (pds_cons (pd_tup (pds_cons pd_bl pds_nil)) (pds_cons (pd_tup (pds_cons pd_str pds_nil)) (pds_cons (pd_rep (pd_tup (pds_cons pd_int pds_nil))) (pds_cons pd_dic (pds_cons (pd_tup (pds_cons (pd_tup (pds_cons pd_int pds_nil)) pds_nil)) (pds_cons (pd_tup (pds_cons (pd_pow (pw10 (by decide) (by decide))) pds_nil)) pds_nil)))))))))))) pa_nil))))
    (pss_cons (ps_set (i := 4) scOR.nd rfl (.inr rfl) (pe_tup (pa_cons pe_int (pa_cons pe_int (pa_cons pe_int pa_nil)))))
    (pss_cons (ps_set (i := 5) scOR.nd rfl (.inl rfl) (pe_lst (pa_cons (lv (t := (fun E' => tCall (spBadLD K CL CN) [] E' (tCons (tVar 1) (tCons (tVar 2) tNil)))) (by decide +kernel) (by decide +kernel) (by rfl) (fun _ _ _ _ _ => rfl) (fun A' o' s' H' E' f' c' rm => pe_call FWo (rm.mono (by decide)) (by rfl) gWo kWo bWo .nil (passes_call (E := E') (takes_of rfl rfl rfl rfl) (fun _ _ _ _ h => h)) (by exact (pa_cons (pv 1) (pa_cons (pv 2) pa_nil))))) pa_nil)))
    (pss_cons (ps_expr (pe_bm PySem.F.plainAttrs_list PySem.F.slot_list_append PySem.F.type_list_append mt_append (pv 5) (pa_cons (lv (t := (fun E' => tCall (spBadLD K CL CN) [] E' (tCons (tVar 4) (tCons (tVar 2) tNil)))) (by decide +kernel) (by decide +kernel) (by rfl) (fun _ _ _ _ _ => rfl) (fun A' o' s' H' E' f' c' rm => pe_call FWo (rm.mono (by decide)) (by rfl) gWo kWo bWo .nil (passes_call (E := E') (takes_of rfl rfl rfl rfl) (fun _ _ _ _ h => h)) (by exact (pa_cons (pv 4) (pa_cons (pv 2) pa_nil))))) pa_nil)))
    (pss_cons (ps_expr (pe_bm PySem.F.plainAttrs_list PySem.F.slot_list_append PySem.F.type_list_append mt_append (pv 5) (pa_cons (lv (t := (fun E' => tCall (spBadLD K CL CN) [] E' (tCons (tVar 1) (tCons (tVar 2) tNil)))) (by decide +kernel) (by decide +kernel) (by rfl) (fun _ _ _ _ _ => rfl) (fun A' o' s' H' E' f' c' rm => pe_call FWc (rm.mono (by decide)) (by rfl) gWc kWc bWc .nil (passes_call (E := E') (takes_of rfl rfl rfl rfl) (fun _ _ _ _ h => h)) (by exact (pa_cons (pv 1) (pa_cons (pv 2) pa_nil))))) pa_nil)))
    (pss_cons (ps_expr (pe_bm PySem.F.plainAttrs_list PySem.F.slot_list_append PySem.F.type_list_append mt_append (pv 5) (pa_cons (lv (t := (fun E' => tCall (spBadLD K CL CN) [] E' (tCons (tVar 4) (tCons (tVar 2) tNil)))) (by decide +kernel) (by decide +kernel) (by rfl) (fun _ _ _ _ _ => rfl) (fun A' o' s' H' E' f' c' rm => pe_call FWc (rm.mono (by decide)) (by rfl) gWc kWc bWc .nil (passes_call (E := E') (takes_of rfl rfl rfl rfl) (fun _ _ _ _ h => h)) (by exact (pa_cons (pv 4) (pa_cons (pv 2) pa_nil))))) pa_nil)))
    (pss_cons (ps_expr (pe_bm PySem.F.plainAttrs_list PySem.F.slot_list_append PySem.F.type_list_append mt_append (pv 5) (pa_cons (lv (t := (fun E' => tListG (tCallG (spEachBad K CL CN) [] (EsOf CL CN E') (tCons (tVar 1) (tCons (tVar 2) tNil))))) (by decide +kernel) (by decide +kernel) (by rfl) (fun _ _ _ _ _ => rfl) (fun A' o' s' H' E' f' c' rm => pe_listG (k := 6) (E := EsOf CL CN E') (pgen_call FEw (rm.mono (by decide)) (by rfl) gEw kEw bEw .nil (by exact (pa_cons (pv 1) (pa_cons (pv 2) pa_nil)))) (passes_imp (passes_call (E := E') (takes_of rfl rfl rfl rfl) (fun _ _ _ _ h => h)) (fun _ _ _ h => h.2)) (nostop nsL nsN) rm (by rfl) T.list bootList)) pa_nil)))
    (pss_cons (ps_expr (pe_bm PySem.F.plainAttrs_list PySem.F.slot_list_append PySem.F.type_list_append mt_append (pv 5) (pa_cons (lv (t := (fun E' => tListG (tCallG (spEachBad K CL CN) [] (EsOf CL CN E') (tCons (tVar 4) (tCons (tVar 2) tNil))))) (by decide +kernel) (by decide +kernel) (by rfl) (fun _ _ _ _ _ => rfl) (fun A' o' s' H' E' f' c' rm => pe_listG (k := 6) (E := EsOf CL CN E') (pgen_call FEw (rm.mono (by decide)) (by rfl) gEw kEw bEw .nil (by exact (pa_cons (pv 4) (pa_cons (pv 2) pa_nil)))) (passes_imp (passes_call (E := E') (takes_of rfl rfl rfl rfl) (fun _ _ _ _ h => h)) (fun _ _ _ h => h.2)) (nostop nsL nsN) rm (by rfl) T.list bootList)) pa_nil)))
    (pss_cons (ps_expr (pe_bm PySem.F.plainAttrs_list PySem.F.slot_list_append PySem.F.type_list_append mt_append (pv 5) (pa_cons (lv (t := (fun E' => tCall (spBadLV K CL) [] E' (tCons (tVar 1) (tCons (tVar 3) tNil)))) (by decide +kernel) (by decide +kernel) (by rfl) (fun _ _ _ _ _ => rfl) (fun A' o' s' H' E' f' c' rm => pe_call FSL (rm.mono (by decide)) (by rfl) gSL kSL bSL .nil (passes_call (E := E') (takes_of rfl rfl rfl rfl) (fun _ _ _ _ h => h)) (by exact (pa_cons (pv 1) (pa_cons (pv 3) pa_nil))))) pa_nil)))
    (pss_cons (ps_expr (pe_bm PySem.F.plainAttrs_list PySem.F.slot_list_append PySem.F.type_list_append mt_append (pv 5) (pa_cons (lv (t := (fun E' => tCall (spSortOp K CO) [] E' (tCons (tVar 4) (tCons (tVar 3) tNil)))) (by decide +kernel) (by decide +kernel) (by rfl) (fun _ _ _ _ _ => rfl) (fun A' o' s' H' E' f' c' rm => pe_call FSO (rm.mono (by decide)) (by rfl) gSO kSO bSO .nil (passes_call (E := E') (takes_of rfl rfl rfl rfl) (fun _ _ _ _ h => h)) (by exact (pa_cons (pv 4) (pa_cons (pv 3) pa_nil))))) pa_nil)))
    (pss_cons (ps_expr (pe_bm PySem.F.plainAttrs_list PySem.F.slot_list_append PySem.F.type_list_append mt_append (pv 5) (pa_cons (lv (t := (fun E' => tCall (spSort K) [] E' (tCons (tVar 4) (tCons (tOp (rMulT K) (tTup (tCons (tC (.int 0)) tNil)) (tC (.int 40))) tNil)))) (by decide +kernel) (by decide +kernel) (by rfl) (fun _ _ _ _ _ => rfl) (fun A' o' s' H' E' f' c' rm => pe_call FSR (rm.mono (by decide)) (by rfl) gSR kSR bSR .nil (passes_call (E := E') (takes_of rfl rfl rfl rfl) (fun _ _ _ _ h => h)) (by exact (pa_cons (pv 4) (pa_cons (pe_op op_mulT (pe_tup (pa_cons pe_int pa_nil)) pe_int) pa_nil))))) pa_nil)))
    (pss_cons (ps_expr (pe_bm PySem.F.plainAttrs_list PySem.F.slot_list_append PySem.F.type_list_append mt_append (pv 5) (pa_cons (lv (t := (fun E' => tCall (spMany K CM) [] E' (tCons (tTup (tCons (tC (.int 2)) (tCons (tC (.int 2)) (tCons (tC (.int 2)) (tCons (tC (.int 2)) tNil))))) (tCons (tC (.int 80)) tNil)))) (by decide +kernel) (by decide +kernel) (by rfl) (fun _ _ _ _ _ => rfl) (fun A' o' s' H' E' f' c' rm => pe_call FWM (rm.mono (by decide)) (by rfl) gWM kWM bWM .nil (passes_call (E := E') (takes_of rfl rfl rfl rfl) (fun _ _ _ _ h => h)) (by exact (pa_cons (pe_tup (pa_cons pe_int (pa_cons pe_int (pa_cons pe_int (pa_cons pe_int pa_nil))))) (pa_cons pe_int pa_nil))))) pa_nil)))
    (pss_cons (ps_expr (pe_bm PySem.F.plainAttrs_list PySem.F.slot_list_append PySem.F.type_list_append mt_append (pv 5) (pa_cons (lv (t := (fun E' => tCall (spMany K CM) [] E' (tCons (tOp (rMulT K) (tTup (tCons (tC (.int 1)) tNil)) (tC (.int 24))) (tCons (tC (.int 12)) tNil)))) (by decide +kernel) (by decide +kernel) (by rfl) (fun _ _ _ _ _ => rfl) (fun A' o' s' H' E' f' c' rm => pe_call FWM (rm.mono (by decide)) (by rfl) gWM kWM bWM .nil (passes_call (E := E') (takes_of rfl rfl rfl rfl) (fun _ _ _ _ h => h)) (by exact (pa_cons (pe_op op_mulT (pe_tup (pa_cons pe_int pa_nil)) pe_int) (pa_cons pe_int pa_nil))))) pa_nil)))
    (pss_cons (ps_expr (pe_bm PySem.F.plainAttrs_list PySem.F.slot_list_append PySem.F.type_list_append mt_append (pv 5) (pa_cons (lv (t := (fun E' => tCall (spCount K) [] E' (tCons (tOp (rMulT K) (tTup (tCons (tC (.int 2)) tNil)) (tC (.int 24))) (tCons (tC (.int 80)) tNil)))) (by decide +kernel) (by decide +kernel) (by rfl) (fun _ _ _ _ _ => rfl) (fun A' o' s' H' E' f' c' rm => pe_call FWC (rm.mono (by decide)) (by rfl) gWC kWC bWC .nil (passes_call (E := E') (takes_of rfl rfl rfl rfl) (fun _ _ _ _ h => h)) (by exact (pa_cons (pe_op op_mulT (pe_tup (pa_cons pe_int pa_nil)) pe_int) (pa_cons pe_int pa_nil))))) pa_nil)))
    (pss_cons (ps_set (i := 6) scOR.nd rfl (.inl rfl) (pe_op op_add_str pe_str (pe_callB (call_reprS (by exact hgd) (by exact hr.units)) (by rfl) T.repr bootRepr (pa_cons (pv 2) pa_nil))))
    (pss_cons (ps_set (i := 7) scOR.nd rfl (.inl rfl) (pe_lst (pa_cons pe_str (pa_cons (pv 6) (pa_cons pe_str (pa_cons (pv 6) (pa_cons pe_str (pa_cons (pv 6) (pa_cons pe_str (pa_cons pe_str (pa_cons pe_str (pa_cons pe_str (pa_cons pe_str (pa_cons pe_str pa_nil))))))))))))))
    (pss_one (ps_ret (pe_and (pe_callC FAr hgd hr (by rfl) gAr kAr bAr hcl hfn hvis (pa_cons (pv 5) (pa_cons (pv 7) pa_nil))) (pe_one (pe_cmpR (op_eqD hr.units) (pe_zipRG (E := fun _ _ _ => True) rfl FEw (hr.mono (by decide)) (by rfl) gEw kEw bEw .nil (pa_cons (pv 1) (pa_cons (pv 2) pa_nil)) (by rfl) T.list bootList (by rfl) T.zip bootZip (by rfl) T.range bootRng) (pe_lst pa_nil) (by rfl)))))))))))))))))))))))), ?_⟩
  have dS : d ∈ [d] := List.mem_cons_self
  have dN : ∀ {H' : Hp} {L' : List V}, H' d = some (.lst L') → ∀ s' ∈ [d], H' s' ≠ none := fun e s' hs => by
    rw [List.mem_singleton.mp hs, e]
    exact (fun z => nomatch z)
  refine pick_dat (ds := noneO) rfl hd hL dS (dN hd) (by simp [noneO]) (by decide) (fun v1 d1 L1 H1 m1 a1 kq1 hd1 hL1 => ?_)
  refine pick_dat (ds := degO) rfl hd1 hL1 dS (dN hd1) (by simp [degO]) (by decide) (fun v2 d2 L2' H2 m2 a2 kq2 hd2 hL2 => ?_)
  replace a1 := a1.mono kq2.kp
  refine pick_dat (ds := someO) rfl hd2 hL2 dS (dN hd2) (by simp [someO]) (by decide) (fun v3 d3 L3' H2b m3 a3 kq2b hd2b hL2b => ?_)
  replace a1 := a1.mono kq2b.kp
  replace a2 := a2.mono kq2b.kp
  have o1 : dtup 24 1 40 d1 = false := of_not (List.all_eq_true.mp noneO_ok d1 m1)
  have o2 := List.all_eq_true.mp degO_ok d2 m2
  rw [Bool.and_eq_true] at o2
  have o2b : dbet 0 80 d2 = false := of_not o2.1
  have o3 : dtup 40 0 2 d3 = false := of_not (List.all_eq_true.mp someO_ok d3 m3)
  refine ⟨by show 3 ≤ sizeLine; decide, fun th hth => ?_⟩
  have kq3 : Kq [d] H2b (upd H2b th (.tup [.int 2, .int 3, .int 3])) := .new hth
  have hd3 : upd H2b th (.tup [.int 2, .int 3, .int 3]) d = some (.lst L3') := by rw [upd_ne (ne_of_none hd2b hth)]; exact hd2b
  have gth : upd H2b th (.tup [.int 2, .int 3, .int 3]) th = some (.tup (iV [2, 3, 3])) := upd_same
  have kqa := ((kq1.trans kq2).trans kq2b).trans kq3
  have hT3 : Tabs T' (upd H2b th (.tup [.int 2, .int 3, .int 3])) := tabs_kq hT kqa
  have kp3 := kqa.kp
  replace a1 := a1.mono kq3.kp
  replace a2 := a2.mono kq3.kp
  replace a3 := a3.mono kq3.kp
  generalize upd H2b th (.tup [.int 2, .int 3, .int 3]) = H3 at *
  have lt3 : Lt [2, 3, 3] := ⟨by decide, by decide, by decide⟩
  -- what stays true
  have eL : ∀ Ha, ExtN H3 Ha → LetIs K Ha v1 false := fun Ha e => by
    have q := (a1.mono (Kp.of e)).letIs (K := K)
    rw [o1] at q
    exact q
  have eV : ∀ Ha, ExtN H3 Ha → Vk K Ha v2 := fun Ha e => (a2.mono (Kp.of e)).vk
  have eB : betw v2 0 80 = false := by rw [a2.betw 0 80]; exact o2b
  have eS : ∀ Ha, ExtN H3 Ha → TupIs K Ha 40 0 2 v3 false := fun Ha e => by
    have q := (a3.mono (Kp.of e)).tupIs (K := K) 40 0 2
    rw [o3] at q
    exact q
  have eT : ∀ Ha, ExtN H3 Ha → SqT K Ha th (iV [2, 3, 3]) := fun Ha e => SqT.of (e _ _ gth fun _ z => nomatch z)
  have eX : ∀ Ha, ExtN H3 Ha → ∀ H', Same Ha H' → Shown K H' v2 d2.shown := fun Ha e H' s' => (((a2.mono (Kp.of e)).mono (Kq.same s').kp).shown (K := K) (fineO_show o2.2)).1
  have lX : d2.shown.length ≤ 900 := (a2.shown (K := K) (fineO_show o2.2)).2
  have xt : ∀ {A B C : Hp}, ExtN A B → ExtN B C → ExtN A C := fun a b c o q n => b c o (a c o q n) n
  have xs' : ∀ {A B : Hp}, Same A B → ExtN A B := fun a c o q _ => a c o q
  have xw : ∀ {A B : Hp} {l : Addr} {o : HO}, ExtN A B → (∀ u, A l = some u → ∃ ps, u = .tbl ps) → ExtN A (upd B l o) := fun {A B l o} a n c u q t => by
    rw [upd_ne fun z => ?_]
    · exact a c u q t
    · obtain ⟨ps, e⟩ := n u (by rw [← z]; exact q)
      exact t ps e
  have xn : ∀ {A B : Hp} {l : Addr}, ExtN A B → B l = none → ∀ u, A l = some u → ∃ ps, u = .tbl ps := fun {A B l} a n u q => by
    refine Classical.byContradiction fun no => ?_
    have := a l u q fun ps e => no ⟨ps, e⟩
    rw [this] at n
    cases n
  have tw : ∀ {B : Hp} {l : Addr} {xs : List V} {o : HO}, Tabs T' B → B l = some (.lst xs) → Tabs T' (upd B l o) := fun {B l xs o} t e p hp => by
    obtain ⟨ps, h1, h2, h3⟩ := t p hp
    refine ⟨ps, by rw [upd_ne fun z => by rw [z, e] at h1; cases h1]; exact h1, h2, fun pos cv hc => ?_⟩
    obtain ⟨cc, g1, g2⟩ := h3 pos cv hc
    exact ⟨cc, g1, by rw [upd_ne fun z => by rw [z, e] at g2; unfold CodeO at g2; cases g2]; exact g2⟩
  have nt : ∀ {xs : List V} (ps : Array Value), HO.tup xs ≠ .tbl ps := fun ps z => nomatch z
  have nl : ∀ {xs : List V} (ps : Array Value), HO.lst xs ≠ .tbl ps := fun ps z => nomatch z
  have tsm : ∀ {A B : Hp}, Tabs T' A → Same A B → Tabs T' B := fun a c p hp => (a p hp).ext c
  refine ⟨hT3, fun f1 K1 e1 t1' kept1 => ⟨by show 1 ≤ sizeLine; decide, fun lc hlc => ?_⟩⟩
  have nlc := xn e1 hlc
  have h1 : upd K1 lc (.lst [.ref f1]) lc = some (.lst [.ref f1]) := upd_same
  have s1 := Same.new (o := .lst [.ref f1]) hlc
  have y1 := xt e1 (xs' s1)
  have w1 := tsm t1' s1
  replace kept1 := kept1.ext (xs' s1)
  generalize upd K1 lc (.lst [.ref f1]) = J1 at *
  refine ⟨_, rfl, .inl ⟨rfl, _, SqL.of h1⟩, w1, fun f2 K2 e2 t2' kept2 => ?_⟩
  have g2 := e2 _ _ h1 nl
  refine ⟨lc, [.ref f1], .ref f2, rfl, rfl, g2, by show 1 < sizeLine; decide, ?_⟩
  have h2 : upd K2 lc (.lst ([.ref f1] ++ [.ref f2])) lc = some (.lst [.ref f1, .ref f2]) := upd_same
  have y2 := xw (o := .lst ([.ref f1] ++ [.ref f2])) (xt y1 e2) nlc
  have w2 := tw (o := .lst ([.ref f1] ++ [.ref f2])) t2' g2
  replace kept1 := (kept1.ext e2).write (o := .lst ([.ref f1] ++ [.ref f2])) g2
  replace kept2 := kept2.write (o := .lst ([.ref f1] ++ [.ref f2])) g2
  generalize upd K2 lc (.lst ([.ref f1] ++ [.ref f2])) = J2 at *
  refine ⟨_, rfl, .inl ⟨rfl, _, SqL.of h2⟩, w2, fun f3 K3 e3 t3' kept3 => ?_⟩
  have g3 := e3 _ _ h2 nl
  refine ⟨lc, [.ref f1, .ref f2], .ref f3, rfl, rfl, g3, by show 2 < sizeLine; decide, ?_⟩
  have h3 : upd K3 lc (.lst ([.ref f1, .ref f2] ++ [.ref f3])) lc = some (.lst [.ref f1, .ref f2, .ref f3]) := upd_same
  have y3 := xw (o := .lst ([.ref f1, .ref f2] ++ [.ref f3])) (xt y2 e3) nlc
  have w3 := tw (o := .lst ([.ref f1, .ref f2] ++ [.ref f3])) t3' g3
  replace kept1 := (kept1.ext e3).write (o := .lst ([.ref f1, .ref f2] ++ [.ref f3])) g3
  replace kept2 := (kept2.ext e3).write (o := .lst ([.ref f1, .ref f2] ++ [.ref f3])) g3
  replace kept3 := kept3.write (o := .lst ([.ref f1, .ref f2] ++ [.ref f3])) g3
  generalize upd K3 lc (.lst ([.ref f1, .ref f2] ++ [.ref f3])) = J3 at *
  refine ⟨_, rfl, .inl ⟨rfl, _, SqL.of h3⟩, w3, fun f4 K4 e4 t4' kept4 => ?_⟩
  have g4 := e4 _ _ h3 nl
  refine ⟨lc, [.ref f1, .ref f2, .ref f3], .ref f4, rfl, rfl, g4, by show 3 < sizeLine; decide, ?_⟩
  have h4 : upd K4 lc (.lst ([.ref f1, .ref f2, .ref f3] ++ [.ref f4])) lc = some (.lst [.ref f1, .ref f2, .ref f3, .ref f4]) := upd_same
  have y4 := xw (o := .lst ([.ref f1, .ref f2, .ref f3] ++ [.ref f4])) (xt y3 e4) nlc
  have w4 := tw (o := .lst ([.ref f1, .ref f2, .ref f3] ++ [.ref f4])) t4' g4
  replace kept1 := (kept1.ext e4).write (o := .lst ([.ref f1, .ref f2, .ref f3] ++ [.ref f4])) g4
  replace kept2 := (kept2.ext e4).write (o := .lst ([.ref f1, .ref f2, .ref f3] ++ [.ref f4])) g4
  replace kept3 := (kept3.ext e4).write (o := .lst ([.ref f1, .ref f2, .ref f3] ++ [.ref f4])) g4
  replace kept4 := kept4.write (o := .lst ([.ref f1, .ref f2, .ref f3] ++ [.ref f4])) g4
  generalize upd K4 lc (.lst ([.ref f1, .ref f2, .ref f3] ++ [.ref f4])) = J4 at *
  refine ⟨_, rfl, .inl ⟨rfl, _, SqL.of h4⟩, w4, fun f5 K5 e5 t5' kept5 => ?_⟩
  have g5 := e5 _ _ h4 nl
  refine ⟨lc, [.ref f1, .ref f2, .ref f3, .ref f4], .ref f5, rfl, rfl, g5, by show 4 < sizeLine; decide, ?_⟩
  have h5 : upd K5 lc (.lst ([.ref f1, .ref f2, .ref f3, .ref f4] ++ [.ref f5])) lc = some (.lst [.ref f1, .ref f2, .ref f3, .ref f4, .ref f5]) := upd_same
  have y5 := xw (o := .lst ([.ref f1, .ref f2, .ref f3, .ref f4] ++ [.ref f5])) (xt y4 e5) nlc
  have w5 := tw (o := .lst ([.ref f1, .ref f2, .ref f3, .ref f4] ++ [.ref f5])) t5' g5
  replace kept1 := (kept1.ext e5).write (o := .lst ([.ref f1, .ref f2, .ref f3, .ref f4] ++ [.ref f5])) g5
  replace kept2 := (kept2.ext e5).write (o := .lst ([.ref f1, .ref f2, .ref f3, .ref f4] ++ [.ref f5])) g5
  replace kept3 := (kept3.ext e5).write (o := .lst ([.ref f1, .ref f2, .ref f3, .ref f4] ++ [.ref f5])) g5
  replace kept4 := (kept4.ext e5).write (o := .lst ([.ref f1, .ref f2, .ref f3, .ref f4] ++ [.ref f5])) g5
  replace kept5 := kept5.write (o := .lst ([.ref f1, .ref f2, .ref f3, .ref f4] ++ [.ref f5])) g5
  generalize upd K5 lc (.lst ([.ref f1, .ref f2, .ref f3, .ref f4] ++ [.ref f5])) = J5 at *
  refine ⟨_, rfl, .inl ⟨rfl, _, SqL.of h5⟩, w5, fun f6 K6 e6 t6' kept6 => ?_⟩
  have g6 := e6 _ _ h5 nl
  refine ⟨lc, [.ref f1, .ref f2, .ref f3, .ref f4, .ref f5], .ref f6, rfl, rfl, g6, by show 5 < sizeLine; decide, ?_⟩
  have h6 : upd K6 lc (.lst ([.ref f1, .ref f2, .ref f3, .ref f4, .ref f5] ++ [.ref f6])) lc = some (.lst [.ref f1, .ref f2, .ref f3, .ref f4, .ref f5, .ref f6]) := upd_same
  have y6 := xw (o := .lst ([.ref f1, .ref f2, .ref f3, .ref f4, .ref f5] ++ [.ref f6])) (xt y5 e6) nlc
  have w6 := tw (o := .lst ([.ref f1, .ref f2, .ref f3, .ref f4, .ref f5] ++ [.ref f6])) t6' g6
  replace kept1 := (kept1.ext e6).write (o := .lst ([.ref f1, .ref f2, .ref f3, .ref f4, .ref f5] ++ [.ref f6])) g6
  replace kept2 := (kept2.ext e6).write (o := .lst ([.ref f1, .ref f2, .ref f3, .ref f4, .ref f5] ++ [.ref f6])) g6
  replace kept3 := (kept3.ext e6).write (o := .lst ([.ref f1, .ref f2, .ref f3, .ref f4, .ref f5] ++ [.ref f6])) g6
  replace kept4 := (kept4.ext e6).write (o := .lst ([.ref f1, .ref f2, .ref f3, .ref f4, .ref f5] ++ [.ref f6])) g6
  replace kept5 := (kept5.ext e6).write (o := .lst ([.ref f1, .ref f2, .ref f3, .ref f4, .ref f5] ++ [.ref f6])) g6
  replace kept6 := kept6.write (o := .lst ([.ref f1, .ref f2, .ref f3, .ref f4, .ref f5] ++ [.ref f6])) g6
  generalize upd K6 lc (.lst ([.ref f1, .ref f2, .ref f3, .ref f4, .ref f5] ++ [.ref f6])) = J6 at *
  refine ⟨_, rfl, .inl ⟨rfl, _, SqL.of h6⟩, w6, fun f7 K7 e7 t7' kept7 => ?_⟩
  have g7 := e7 _ _ h6 nl
  refine ⟨lc, [.ref f1, .ref f2, .ref f3, .ref f4, .ref f5, .ref f6], .ref f7, rfl, rfl, g7, by show 6 < sizeLine; decide, ?_⟩
  have h7 : upd K7 lc (.lst ([.ref f1, .ref f2, .ref f3, .ref f4, .ref f5, .ref f6] ++ [.ref f7])) lc = some (.lst [.ref f1, .ref f2, .ref f3, .ref f4, .ref f5, .ref f6, .ref f7]) := upd_same
  have y7 := xw (o := .lst ([.ref f1, .ref f2, .ref f3, .ref f4, .ref f5, .ref f6] ++ [.ref f7])) (xt y6 e7) nlc
  have w7 := tw (o := .lst ([.ref f1, .ref f2, .ref f3, .ref f4, .ref f5, .ref f6] ++ [.ref f7])) t7' g7
  replace kept1 := (kept1.ext e7).write (o := .lst ([.ref f1, .ref f2, .ref f3, .ref f4, .ref f5, .ref f6] ++ [.ref f7])) g7
  replace kept2 := (kept2.ext e7).write (o := .lst ([.ref f1, .ref f2, .ref f3, .ref f4, .ref f5, .ref f6] ++ [.ref f7])) g7
  replace kept3 := (kept3.ext e7).write (o := .lst ([.ref f1, .ref f2, .ref f3, .ref f4, .ref f5, .ref f6] ++ [.ref f7])) g7
  replace kept4 := (kept4.ext e7).write (o := .lst ([.ref f1, .ref f2, .ref f3, .ref f4, .ref f5, .ref f6] ++ [.ref f7])) g7
  replace kept5 := (kept5.ext e7).write (o := .lst ([.ref f1, .ref f2, .ref f3, .ref f4, .ref f5, .ref f6] ++ [.ref f7])) g7
  replace kept6 := (kept6.ext e7).write (o := .lst ([.ref f1, .ref f2, .ref f3, .ref f4, .ref f5, .ref f6] ++ [.ref f7])) g7
  replace kept7 := kept7.write (o := .lst ([.ref f1, .ref f2, .ref f3, .ref f4, .ref f5, .ref f6] ++ [.ref f7])) g7
  generalize upd K7 lc (.lst ([.ref f1, .ref f2, .ref f3, .ref f4, .ref f5, .ref f6] ++ [.ref f7])) = J7 at *
  refine ⟨_, rfl, .inl ⟨rfl, _, SqL.of h7⟩, w7, fun f8 K8 e8 t8' kept8 => ?_⟩
  have g8 := e8 _ _ h7 nl
  refine ⟨lc, [.ref f1, .ref f2, .ref f3, .ref f4, .ref f5, .ref f6, .ref f7], .ref f8, rfl, rfl, g8, by show 7 < sizeLine; decide, ?_⟩
  have h8 : upd K8 lc (.lst ([.ref f1, .ref f2, .ref f3, .ref f4, .ref f5, .ref f6, .ref f7] ++ [.ref f8])) lc = some (.lst [.ref f1, .ref f2, .ref f3, .ref f4, .ref f5, .ref f6, .ref f7, .ref f8]) := upd_same
  have y8 := xw (o := .lst ([.ref f1, .ref f2, .ref f3, .ref f4, .ref f5, .ref f6, .ref f7] ++ [.ref f8])) (xt y7 e8) nlc
  have w8 := tw (o := .lst ([.ref f1, .ref f2, .ref f3, .ref f4, .ref f5, .ref f6, .ref f7] ++ [.ref f8])) t8' g8
  replace kept1 := (kept1.ext e8).write (o := .lst ([.ref f1, .ref f2, .ref f3, .ref f4, .ref f5, .ref f6, .ref f7] ++ [.ref f8])) g8
  replace kept2 := (kept2.ext e8).write (o := .lst ([.ref f1, .ref f2, .ref f3, .ref f4, .ref f5, .ref f6, .ref f7] ++ [.ref f8])) g8
  replace kept3 := (kept3.ext e8).write (o := .lst ([.ref f1, .ref f2, .ref f3, .ref f4, .ref f5, .ref f6, .ref f7] ++ [.ref f8])) g8
  replace kept4 := (kept4.ext e8).write (o := .lst ([.ref f1, .ref f2, .ref f3, .ref f4, .ref f5, .ref f6, .ref f7] ++ [.ref f8])) g8
  replace kept5 := (kept5.ext e8).write (o := .lst ([.ref f1, .ref f2, .ref f3, .ref f4, .ref f5, .ref f6, .ref f7] ++ [.ref f8])) g8
  replace kept6 := (kept6.ext e8).write (o := .lst ([.ref f1, .ref f2, .ref f3, .ref f4, .ref f5, .ref f6, .ref f7] ++ [.ref f8])) g8
  replace kept7 := (kept7.ext e8).write (o := .lst ([.ref f1, .ref f2, .ref f3, .ref f4, .ref f5, .ref f6, .ref f7] ++ [.ref f8])) g8
  replace kept8 := kept8.write (o := .lst ([.ref f1, .ref f2, .ref f3, .ref f4, .ref f5, .ref f6, .ref f7] ++ [.ref f8])) g8
  generalize upd K8 lc (.lst ([.ref f1, .ref f2, .ref f3, .ref f4, .ref f5, .ref f6, .ref f7] ++ [.ref f8])) = J8 at *
  refine ⟨_, rfl, .inl ⟨rfl, _, SqL.of h8⟩, w8, fun f9 K9 e9 t9' kept9 => ?_⟩
  have g9 := e9 _ _ h8 nl
  refine ⟨lc, [.ref f1, .ref f2, .ref f3, .ref f4, .ref f5, .ref f6, .ref f7, .ref f8], .ref f9, rfl, rfl, g9, by show 8 < sizeLine; decide, ?_⟩
  have h9 : upd K9 lc (.lst ([.ref f1, .ref f2, .ref f3, .ref f4, .ref f5, .ref f6, .ref f7, .ref f8] ++ [.ref f9])) lc = some (.lst [.ref f1, .ref f2, .ref f3, .ref f4, .ref f5, .ref f6, .ref f7, .ref f8, .ref f9]) := upd_same
  have y9 := xw (o := .lst ([.ref f1, .ref f2, .ref f3, .ref f4, .ref f5, .ref f6, .ref f7, .ref f8] ++ [.ref f9])) (xt y8 e9) nlc
  have w9 := tw (o := .lst ([.ref f1, .ref f2, .ref f3, .ref f4, .ref f5, .ref f6, .ref f7, .ref f8] ++ [.ref f9])) t9' g9
  replace kept1 := (kept1.ext e9).write (o := .lst ([.ref f1, .ref f2, .ref f3, .ref f4, .ref f5, .ref f6, .ref f7, .ref f8] ++ [.ref f9])) g9
  replace kept2 := (kept2.ext e9).write (o := .lst ([.ref f1, .ref f2, .ref f3, .ref f4, .ref f5, .ref f6, .ref f7, .ref f8] ++ [.ref f9])) g9
  replace kept3 := (kept3.ext e9).write (o := .lst ([.ref f1, .ref f2, .ref f3, .ref f4, .ref f5, .ref f6, .ref f7, .ref f8] ++ [.ref f9])) g9
  replace kept4 := (kept4.ext e9).write (o := .lst ([.ref f1, .ref f2, .ref f3, .ref f4, .ref f5, .ref f6, .ref f7, .ref f8] ++ [.ref f9])) g9
  replace kept5 := (kept5.ext e9).write (o := .lst ([.ref f1, .ref f2, .ref f3, .ref f4, .ref f5, .ref f6, .ref f7, .ref f8] ++ [.ref f9])) g9
  replace kept6 := (kept6.ext e9).write (o := .lst ([.ref f1, .ref f2, .ref f3, .ref f4, .ref f5, .ref f6, .ref f7, .ref f8] ++ [.ref f9])) g9
  replace kept7 := (kept7.ext e9).write (o := .lst ([.ref f1, .ref f2, .ref f3, .ref f4, .ref f5, .ref f6, .ref f7, .ref f8] ++ [.ref f9])) g9
  replace kept8 := (kept8.ext e9).write (o := .lst ([.ref f1, .ref f2, .ref f3, .ref f4, .ref f5, .ref f6, .ref f7, .ref f8] ++ [.ref f9])) g9
  replace kept9 := kept9.write (o := .lst ([.ref f1, .ref f2, .ref f3, .ref f4, .ref f5, .ref f6, .ref f7, .ref f8] ++ [.ref f9])) g9
  generalize upd K9 lc (.lst ([.ref f1, .ref f2, .ref f3, .ref f4, .ref f5, .ref f6, .ref f7, .ref f8] ++ [.ref f9])) = J9 at *
  refine ⟨_, rfl, .inl ⟨rfl, _, SqL.of h9⟩, w9, fun f10 K10 e10 t10' kept10 => ?_⟩
  have g10 := e10 _ _ h9 nl
  refine ⟨lc, [.ref f1, .ref f2, .ref f3, .ref f4, .ref f5, .ref f6, .ref f7, .ref f8, .ref f9], .ref f10, rfl, rfl, g10, by show 9 < sizeLine; decide, ?_⟩
  have h10 : upd K10 lc (.lst ([.ref f1, .ref f2, .ref f3, .ref f4, .ref f5, .ref f6, .ref f7, .ref f8, .ref f9] ++ [.ref f10])) lc = some (.lst [.ref f1, .ref f2, .ref f3, .ref f4, .ref f5, .ref f6, .ref f7, .ref f8, .ref f9, .ref f10]) := upd_same
  have y10 := xw (o := .lst ([.ref f1, .ref f2, .ref f3, .ref f4, .ref f5, .ref f6, .ref f7, .ref f8, .ref f9] ++ [.ref f10])) (xt y9 e10) nlc
  have w10 := tw (o := .lst ([.ref f1, .ref f2, .ref f3, .ref f4, .ref f5, .ref f6, .ref f7, .ref f8, .ref f9] ++ [.ref f10])) t10' g10
  replace kept1 := (kept1.ext e10).write (o := .lst ([.ref f1, .ref f2, .ref f3, .ref f4, .ref f5, .ref f6, .ref f7, .ref f8, .ref f9] ++ [.ref f10])) g10
  replace kept2 := (kept2.ext e10).write (o := .lst ([.ref f1, .ref f2, .ref f3, .ref f4, .ref f5, .ref f6, .ref f7, .ref f8, .ref f9] ++ [.ref f10])) g10
  replace kept3 := (kept3.ext e10).write (o := .lst ([.ref f1, .ref f2, .ref f3, .ref f4, .ref f5, .ref f6, .ref f7, .ref f8, .ref f9] ++ [.ref f10])) g10
  replace kept4 := (kept4.ext e10).write (o := .lst ([.ref f1, .ref f2, .ref f3, .ref f4, .ref f5, .ref f6, .ref f7, .ref f8, .ref f9] ++ [.ref f10])) g10
  replace kept5 := (kept5.ext e10).write (o := .lst ([.ref f1, .ref f2, .ref f3, .ref f4, .ref f5, .ref f6, .ref f7, .ref f8, .ref f9] ++ [.ref f10])) g10
  replace kept6 := (kept6.ext e10).write (o := .lst ([.ref f1, .ref f2, .ref f3, .ref f4, .ref f5, .ref f6, .ref f7, .ref f8, .ref f9] ++ [.ref f10])) g10
  replace kept7 := (kept7.ext e10).write (o := .lst ([.ref f1, .ref f2, .ref f3, .ref f4, .ref f5, .ref f6, .ref f7, .ref f8, .ref f9] ++ [.ref f10])) g10
  replace kept8 := (kept8.ext e10).write (o := .lst ([.ref f1, .ref f2, .ref f3, .ref f4, .ref f5, .ref f6, .ref f7, .ref f8, .ref f9] ++ [.ref f10])) g10
  replace kept9 := (kept9.ext e10).write (o := .lst ([.ref f1, .ref f2, .ref f3, .ref f4, .ref f5, .ref f6, .ref f7, .ref f8, .ref f9] ++ [.ref f10])) g10
  replace kept10 := kept10.write (o := .lst ([.ref f1, .ref f2, .ref f3, .ref f4, .ref f5, .ref f6, .ref f7, .ref f8, .ref f9] ++ [.ref f10])) g10
  generalize upd K10 lc (.lst ([.ref f1, .ref f2, .ref f3, .ref f4, .ref f5, .ref f6, .ref f7, .ref f8, .ref f9] ++ [.ref f10])) = J10 at *
  refine ⟨_, rfl, .inl ⟨rfl, _, SqL.of h10⟩, w10, fun f11 K11 e11 t11' kept11 => ?_⟩
  have g11 := e11 _ _ h10 nl
  refine ⟨lc, [.ref f1, .ref f2, .ref f3, .ref f4, .ref f5, .ref f6, .ref f7, .ref f8, .ref f9, .ref f10], .ref f11, rfl, rfl, g11, by show 10 < sizeLine; decide, ?_⟩
  have h11 : upd K11 lc (.lst ([.ref f1, .ref f2, .ref f3, .ref f4, .ref f5, .ref f6, .ref f7, .ref f8, .ref f9, .ref f10] ++ [.ref f11])) lc = some (.lst [.ref f1, .ref f2, .ref f3, .ref f4, .ref f5, .ref f6, .ref f7, .ref f8, .ref f9, .ref f10, .ref f11]) := upd_same
  have y11 := xw (o := .lst ([.ref f1, .ref f2, .ref f3, .ref f4, .ref f5, .ref f6, .ref f7, .ref f8, .ref f9, .ref f10] ++ [.ref f11])) (xt y10 e11) nlc
  have w11 := tw (o := .lst ([.ref f1, .ref f2, .ref f3, .ref f4, .ref f5, .ref f6, .ref f7, .ref f8, .ref f9, .ref f10] ++ [.ref f11])) t11' g11
  replace kept1 := (kept1.ext e11).write (o := .lst ([.ref f1, .ref f2, .ref f3, .ref f4, .ref f5, .ref f6, .ref f7, .ref f8, .ref f9, .ref f10] ++ [.ref f11])) g11
  replace kept2 := (kept2.ext e11).write (o := .lst ([.ref f1, .ref f2, .ref f3, .ref f4, .ref f5, .ref f6, .ref f7, .ref f8, .ref f9, .ref f10] ++ [.ref f11])) g11
  replace kept3 := (kept3.ext e11).write (o := .lst ([.ref f1, .ref f2, .ref f3, .ref f4, .ref f5, .ref f6, .ref f7, .ref f8, .ref f9, .ref f10] ++ [.ref f11])) g11
  replace kept4 := (kept4.ext e11).write (o := .lst ([.ref f1, .ref f2, .ref f3, .ref f4, .ref f5, .ref f6, .ref f7, .ref f8, .ref f9, .ref f10] ++ [.ref f11])) g11
  replace kept5 := (kept5.ext e11).write (o := .lst ([.ref f1, .ref f2, .ref f3, .ref f4, .ref f5, .ref f6, .ref f7, .ref f8, .ref f9, .ref f10] ++ [.ref f11])) g11
  replace kept6 := (kept6.ext e11).write (o := .lst ([.ref f1, .ref f2, .ref f3, .ref f4, .ref f5, .ref f6, .ref f7, .ref f8, .ref f9, .ref f10] ++ [.ref f11])) g11
  replace kept7 := (kept7.ext e11).write (o := .lst ([.ref f1, .ref f2, .ref f3, .ref f4, .ref f5, .ref f6, .ref f7, .ref f8, .ref f9, .ref f10] ++ [.ref f11])) g11
  replace kept8 := (kept8.ext e11).write (o := .lst ([.ref f1, .ref f2, .ref f3, .ref f4, .ref f5, .ref f6, .ref f7, .ref f8, .ref f9, .ref f10] ++ [.ref f11])) g11
  replace kept9 := (kept9.ext e11).write (o := .lst ([.ref f1, .ref f2, .ref f3, .ref f4, .ref f5, .ref f6, .ref f7, .ref f8, .ref f9, .ref f10] ++ [.ref f11])) g11
  replace kept10 := (kept10.ext e11).write (o := .lst ([.ref f1, .ref f2, .ref f3, .ref f4, .ref f5, .ref f6, .ref f7, .ref f8, .ref f9, .ref f10] ++ [.ref f11])) g11
  replace kept11 := kept11.write (o := .lst ([.ref f1, .ref f2, .ref f3, .ref f4, .ref f5, .ref f6, .ref f7, .ref f8, .ref f9, .ref f10] ++ [.ref f11])) g11
  generalize upd K11 lc (.lst ([.ref f1, .ref f2, .ref f3, .ref f4, .ref f5, .ref f6, .ref f7, .ref f8, .ref f9, .ref f10] ++ [.ref f11])) = J11 at *
  refine ⟨_, rfl, .inl ⟨rfl, _, SqL.of h11⟩, w11, fun f12 K12 e12 t12' kept12 => ?_⟩
  have g12 := e12 _ _ h11 nl
  refine ⟨lc, [.ref f1, .ref f2, .ref f3, .ref f4, .ref f5, .ref f6, .ref f7, .ref f8, .ref f9, .ref f10, .ref f11], .ref f12, rfl, rfl, g12, by show 11 < sizeLine; decide, ?_⟩
  have h12 : upd K12 lc (.lst ([.ref f1, .ref f2, .ref f3, .ref f4, .ref f5, .ref f6, .ref f7, .ref f8, .ref f9, .ref f10, .ref f11] ++ [.ref f12])) lc = some (.lst [.ref f1, .ref f2, .ref f3, .ref f4, .ref f5, .ref f6, .ref f7, .ref f8, .ref f9, .ref f10, .ref f11, .ref f12]) := upd_same
  have y12 := xw (o := .lst ([.ref f1, .ref f2, .ref f3, .ref f4, .ref f5, .ref f6, .ref f7, .ref f8, .ref f9, .ref f10, .ref f11] ++ [.ref f12])) (xt y11 e12) nlc
  have w12 := tw (o := .lst ([.ref f1, .ref f2, .ref f3, .ref f4, .ref f5, .ref f6, .ref f7, .ref f8, .ref f9, .ref f10, .ref f11] ++ [.ref f12])) t12' g12
  replace kept1 := (kept1.ext e12).write (o := .lst ([.ref f1, .ref f2, .ref f3, .ref f4, .ref f5, .ref f6, .ref f7, .ref f8, .ref f9, .ref f10, .ref f11] ++ [.ref f12])) g12
  replace kept2 := (kept2.ext e12).write (o := .lst ([.ref f1, .ref f2, .ref f3, .ref f4, .ref f5, .ref f6, .ref f7, .ref f8, .ref f9, .ref f10, .ref f11] ++ [.ref f12])) g12
  replace kept3 := (kept3.ext e12).write (o := .lst ([.ref f1, .ref f2, .ref f3, .ref f4, .ref f5, .ref f6, .ref f7, .ref f8, .ref f9, .ref f10, .ref f11] ++ [.ref f12])) g12
  replace kept4 := (kept4.ext e12).write (o := .lst ([.ref f1, .ref f2, .ref f3, .ref f4, .ref f5, .ref f6, .ref f7, .ref f8, .ref f9, .ref f10, .ref f11] ++ [.ref f12])) g12
  replace kept5 := (kept5.ext e12).write (o := .lst ([.ref f1, .ref f2, .ref f3, .ref f4, .ref f5, .ref f6, .ref f7, .ref f8, .ref f9, .ref f10, .ref f11] ++ [.ref f12])) g12
  replace kept6 := (kept6.ext e12).write (o := .lst ([.ref f1, .ref f2, .ref f3, .ref f4, .ref f5, .ref f6, .ref f7, .ref f8, .ref f9, .ref f10, .ref f11] ++ [.ref f12])) g12
  replace kept7 := (kept7.ext e12).write (o := .lst ([.ref f1, .ref f2, .ref f3, .ref f4, .ref f5, .ref f6, .ref f7, .ref f8, .ref f9, .ref f10, .ref f11] ++ [.ref f12])) g12
  replace kept8 := (kept8.ext e12).write (o := .lst ([.ref f1, .ref f2, .ref f3, .ref f4, .ref f5, .ref f6, .ref f7, .ref f8, .ref f9, .ref f10, .ref f11] ++ [.ref f12])) g12
  replace kept9 := (kept9.ext e12).write (o := .lst ([.ref f1, .ref f2, .ref f3, .ref f4, .ref f5, .ref f6, .ref f7, .ref f8, .ref f9, .ref f10, .ref f11] ++ [.ref f12])) g12
  replace kept10 := (kept10.ext e12).write (o := .lst ([.ref f1, .ref f2, .ref f3, .ref f4, .ref f5, .ref f6, .ref f7, .ref f8, .ref f9, .ref f10, .ref f11] ++ [.ref f12])) g12
  replace kept11 := (kept11.ext e12).write (o := .lst ([.ref f1, .ref f2, .ref f3, .ref f4, .ref f5, .ref f6, .ref f7, .ref f8, .ref f9, .ref f10, .ref f11] ++ [.ref f12])) g12
  replace kept12 := kept12.write (o := .lst ([.ref f1, .ref f2, .ref f3, .ref f4, .ref f5, .ref f6, .ref f7, .ref f8, .ref f9, .ref f10, .ref f11] ++ [.ref f12])) g12
  generalize upd K12 lc (.lst ([.ref f1, .ref f2, .ref f3, .ref f4, .ref f5, .ref f6, .ref f7, .ref f8, .ref f9, .ref f10, .ref f11] ++ [.ref f12])) = J12 at *
  have e7 : ("number " : Str).length = 7 := by decide +kernel
  refine ⟨_, rfl, v2, _, rfl, eX _ y12 _ (Same.refl _), _, _, rfl, rfl, sl (by rw [e7]; omega), _, rfl, _, rfl, _, rfl, by show 12 ≤ sizeLine; decide, fun ld hld => ?_⟩
  refine ⟨_, rfl, _, rfl, fun n Hx out ck cv => ?_⟩
  have sl7 := Same.new (o := .lst ((["letters", "number " ++ d2.shown, "letters", "number " ++ d2.shown, "letters", "number " ++ d2.shown, "letters", "operation", "", "many 400", "many 400", ""] : List Str).map V.str)) hld
  have hc : upd J12 ld (.lst ((["letters", "number " ++ d2.shown, "letters", "number " ++ d2.shown, "letters", "number " ++ d2.shown, "letters", "operation", "", "many 400", "many 400", ""] : List Str).map V.str)) lc = some (.lst ([f1, f2, f3, f4, f5, f6, f7, f8, f9, f10, f11, f12].map V.ref)) := sl7 _ _ h12
  have hld2 : upd J12 ld (.lst ((["letters", "number " ++ d2.shown, "letters", "number " ++ d2.shown, "letters", "number " ++ d2.shown, "letters", "operation", "", "many 400", "many 400", ""] : List Str).map V.str)) ld = some (.lst ((["letters", "number " ++ d2.shown, "letters", "number " ++ d2.shown, "letters", "number " ++ d2.shown, "letters", "operation", "", "many 400", "many 400", ""] : List Str).map V.str)) := upd_same
  have xall := xt y12 (xs' sl7)
  have w13 := tsm w12 sl7
  replace kept1 := kept1.ext (xs' sl7)
  replace kept2 := kept2.ext (xs' sl7)
  replace kept3 := kept3.ext (xs' sl7)
  replace kept4 := kept4.ext (xs' sl7)
  replace kept5 := kept5.ext (xs' sl7)
  replace kept6 := kept6.ext (xs' sl7)
  replace kept7 := kept7.ext (xs' sl7)
  replace kept8 := kept8.ext (xs' sl7)
  replace kept9 := kept9.ext (xs' sl7)
  replace kept10 := kept10.ext (xs' sl7)
  replace kept11 := kept11.ext (xs' sl7)
  replace kept12 := kept12.ext (xs' sl7)
  replace n : ∀ b ∈ cellsOf (cxOf CX0 P w K mg base nOR "_law_others_right" (defScope sOthersR) f (.ref c) A outer s H E).nox, upd J12 ld (.lst ((["letters", "number " ++ d2.shown, "letters", "number " ++ d2.shown, "letters", "number " ++ d2.shown, "letters", "operation", "", "many 400", "many 400", ""] : List Str).map V.str)) b = none := n
  replace out : ∀ b, b ∉ cellsOf (cxOf CX0 P w K mg base nOR "_law_others_right" (defScope sOthersR) f (.ref c) A outer s H E).nox → Hx b = upd J12 ld (.lst ((["letters", "number " ++ d2.shown, "letters", "number " ++ d2.shown, "letters", "number " ++ d2.shown, "letters", "operation", "", "many 400", "many 400", ""] : List Str).map V.str)) b := out
  generalize upd J12 ld (.lst ((["letters", "number " ++ d2.shown, "letters", "number " ++ d2.shown, "letters", "number " ++ d2.shown, "letters", "operation", "", "many 400", "many 400", ""] : List Str).map V.str)) = J13 at *
  have nin : ∀ {b : Addr} {o : HO}, J13 b = some o → b ∉ cellsOf (cxOf CX0 P w K mg base nOR "_law_others_right" (defScope sOthersR) f (.ref c) A outer s H E).nox := fun {b o} e z => by
    rw [n b z] at e
    cases e
  have lay : ∀ z ∈ (["letters", "number " ++ d2.shown, "letters", "number " ++ d2.shown, "letters", "number " ++ d2.shown, "letters", "operation", "", "many 400", "many 400", ""] : List Str), (PyData.str z).canLay0 = true := fun z hz => by
    have p1 : (PyData.str "letters").canLay0 = true := by decide +kernel
    have p2 : (PyData.str "operation").canLay0 = true := by decide +kernel
    have p3 : (PyData.str "").canLay0 = true := by decide +kernel
    have p4 : (PyData.str "many 400").canLay0 = true := by decide +kernel
    simp only [List.mem_cons, List.not_mem_nil, or_false] at hz
    rcases hz with e | e | e | e | e | e | e | e | e | e | e | e <;> subst e <;> first | assumption | exact fineO_lay o2.2
  have hm : ("many 400" : Str) = "many " ++ (PyData.int 400).shown := by decide +kernel
  have s400 : showOk (.int 400) = true := by decide +kernel
  have sh400 : ∀ H', Shown K H' (.int 400) (PyData.int 400).shown := fun H' => ((Da.int (N := NoL) (H := H') 400).shown (K := K) s400).1
  have l400 : (PyData.int 400).shown.length ≤ 900 := ((Da.int (N := NoL) (H := J13) 400).shown (K := K) s400).2
  refine ⟨lc, ld, [f1, f2, f3, f4, f5, f6, f7, f8, f9, f10, f11, f12], (["letters", "number " ++ d2.shown, "letters", "number " ++ d2.shown, "letters", "number " ++ d2.shown, "letters", "operation", "", "many 400", "many 400", ""] : List Str), rfl, (out lc (nin hc)).trans hc, (out ld (nin hld2)).trans hld2, rfl, by show 12 ≤ 900; decide, lay, fun i fi z hf hz => ?_, fun H' s' => ?_⟩
  · match i, hf, hz with
    | 0, hf, hz =>
      cases hf; cases hz
      exact kept_met kept1 hinj rfl n out ck cv (fun Ha ea => .letters fun E' Q' hE => ⟨_, rfl, _, rfl, v1, v2, false, rfl, eL _ (xt xall ea), eV _ (xt xall ea), fun _ => hE, fun z => nomatch z⟩)
    | 1, hf, hz =>
      cases hf; cases hz
      exact kept_met kept2 hinj rfl n out ck cv (fun Ha ea => .number (x := v2) (eX _ (xt xall ea)) lX fun E' Q' hE => ⟨_, rfl, _, rfl, .ref th, v2, true, rfl, lt3.is (eT _ (xt xall ea)), eV _ (xt xall ea), (fun z => nomatch z), fun _ => ⟨eB, hE⟩⟩)
    | 2, hf, hz =>
      cases hf; cases hz
      exact kept_met kept3 hinj rfl n out ck cv (fun Ha ea => .letters fun E' Q' hE => ⟨_, rfl, _, rfl, v1, v2, false, rfl, eL _ (xt xall ea), eV _ (xt xall ea), fun _ => hE, fun z => nomatch z⟩)
    | 3, hf, hz =>
      cases hf; cases hz
      exact kept_met kept4 hinj rfl n out ck cv (fun Ha ea => .number (x := v2) (eX _ (xt xall ea)) lX fun E' Q' hE => ⟨_, rfl, _, rfl, .ref th, v2, true, rfl, lt3.is (eT _ (xt xall ea)), eV _ (xt xall ea), (fun z => nomatch z), fun _ => ⟨eB, hE⟩⟩)
    | 4, hf, hz =>
      cases hf; cases hz
      exact kept_met kept5 hinj rfl n out ck cv (fun Ha ea => .letters fun E' Q' hE => ⟨_, rfl, _, rfl, v1, v2, false, rfl, eL _ (xt xall ea), eV _ (xt xall ea), fun _ => fun H' s' => ⟨.inl rfl, hE H' s'⟩, fun z => nomatch z⟩)
    | 5, hf, hz =>
      cases hf; cases hz
      exact kept_met kept6 hinj rfl n out ck cv (fun Ha ea => .number (x := v2) (eX _ (xt xall ea)) lX fun E' Q' hE => ⟨_, rfl, _, rfl, .ref th, v2, true, rfl, lt3.is (eT _ (xt xall ea)), eV _ (xt xall ea), (fun z => nomatch z), fun _ => ⟨eB, fun H' d s' hd => ⟨.inr rfl, hE H' d s' hd⟩⟩⟩)
    | 6, hf, hz =>
      cases hf; cases hz
      exact kept_met kept7 hinj rfl n out ck cv (fun Ha ea => .letters fun E' Q' hE => ⟨_, rfl, _, rfl, v1, v3, rfl, eL _ (xt xall ea), hE⟩)
    | 7, hf, hz =>
      cases hf; cases hz
      exact kept_met kept8 hinj rfl n out ck cv (fun Ha ea => .operation fun E' Q' hE => ⟨_, rfl, _, rfl, th, [2, 3, 3], v3, rfl, eT _ (xt xall ea), lt3, eS _ (xt xall ea), hE⟩)
    | 8, hf, hz =>
      cases hf; cases hz
      exact kept_met kept9 hinj rfl n out ck cv (fun Ha ea => .fine fun E' Q' hQ => ⟨_, rfl, by show 1 ≤ sizeLine; decide, fun u hu => ⟨u, 40, [.int 0], rfl, rfl, SqT.of upd_same, (fun z => nomatch z), by decide, by decide, by decide, fun e => absurd e (by decide), fun _ m hm' => ⟨th, m, [2, 3, 3], List.replicate 40 0, rfl, tupSame ((Same.new hu).trans (Same.new hm')) (eT _ (xt xall ea)), lt3, SqT.of upd_same, by decide, by decide, fun _ H' s => hQ _ H' (((Same.new hu).trans (Same.new hm')).trans s), fun _ _ _ H' _ _ s _ _ => hQ _ H' (((Same.new hu).trans (Same.new hm')).trans s)⟩⟩⟩)
    | 9, hf, hz =>
      cases hf; cases hz
      exact kept_met kept10 hinj rfl n out ck cv (fun Ha ea => by rw [hm]; exact .many sh400 l400 fun E' Q' hE => ⟨by show 4 ≤ sizeLine; decide, fun u hu => ⟨u, [2, 2, 2, 2], 80, rfl, SqT.of upd_same, ⟨by decide, by decide, by decide⟩, by decide, big4, fun H' d' s hd' => hE H' d' ((Same.new hu).trans s) hd'⟩⟩)
    | 10, hf, hz =>
      cases hf; cases hz
      exact kept_met kept11 hinj rfl n out ck cv (fun Ha ea => by rw [hm]; exact .many sh400 l400 fun E' Q' hE => ⟨by show 1 ≤ sizeLine; decide, fun u hu => ⟨u, 24, [.int 1], rfl, rfl, SqT.of upd_same, (fun z => nomatch z), by decide, by decide, by decide, fun e => absurd e (by decide), fun _ m hm' => ⟨m, List.replicate 24 1, 12, rfl, SqT.of upd_same, ⟨by decide, by decide, by decide⟩, by decide, big1, fun H' d' s hd' => hE H' d' (((Same.new hu).trans (Same.new hm')).trans s) hd'⟩⟩⟩)
    | 11, hf, hz =>
      cases hf; cases hz
      exact kept_met kept12 hinj rfl n out ck cv (fun Ha ea => .fine fun E' Q' hQ => ⟨by show 1 ≤ sizeLine; decide, fun u hu => ⟨u, 24, [.int 2], rfl, rfl, SqT.of upd_same, (fun z => nomatch z), by decide, by decide, by decide, fun e => absurd e (by decide), fun _ m hm' => ⟨m, List.replicate 24 2, 80, rfl, SqT.of upd_same, ⟨by decide, by decide, by decide⟩, by decide, fun H' s => hQ _ H' (((Same.new hu).trans (Same.new hm')).trans s)⟩⟩⟩)
    | i + 12, hf, hz => cases hf
  · have xf : ExtN J13 (minus (cellsOf (cxOf CX0 P w K mg base nOR "_law_others_right" (defScope sOthersR) f (.ref c) A outer s H E).nox) H') := fun b o q _ => (minus_out (nin q)).trans (s' _ _ ((out b (nin q)).trans q))
    refine ⟨_, rfl, iteT ⟨_, rfl, _, rfl, ⟨v1, v2, false, rfl, eL _ (xt xall xf), eV _ (xt xall xf), fun _ _ _ => trivial, fun z => nomatch z⟩, zr_end fun H5 s5 => ?_⟩⟩
    have xe := xt (xt xall xf) (xs' s5)
    exact k _ L3' (fun b o nb e nt' => xe b o (kp3 b o e (.inl fun z => nb (List.mem_singleton.mp z)) nt') nt') (xe _ _ hd3 nl) hL2b (tsm (tabs_minus w13 n out s') s5)

end
end K6
namespace K6
open PySem PySem.Spec PyProof.Rows L2 LamX LamY
theorem scLaw : FnScope ["script", "spot", "dice"] ["script"] (defScope sLaw) := ⟨rfl, rfl, rfl, by decide +kernel, rfl, by decide +kernel, by decide +kernel⟩
def spLaw (K : PySem.W.Frag) (T : List (Addr × Str)) : Sp := fun vs H Q _ => ∃ (a : Addr) (ns : List Int), vs = [.ref a] ∧ SqL K H a (ns.map V.int) ∧ Tabs T H ∧ ∀ H', Q (.bl true) H'
theorem n52 : cnt [2, 2, 2] 52 = 378 := by
  rw [cf_cnt (by decide)]
  decide +kernel
theorem seq_but {K : PySem.W.Frag} {H H' : Hp} {a p : Addr} {xs : List V} {o : HO} (h : SqL K H a xs) (hp : H p = none) (k : ∀ b u, b ≠ p → upd H p o b = some u → NoTbl u → H' b = some u) : SqL K H' a xs := by
  rcases h with (h | ⟨ob, h⟩) | h
  · have ne := ne_of_none h hp
    exact .inl (.inl (k _ _ ne (by rw [upd_ne ne]; exact h) (lst_nt _)))
  · have ne := ne_of_none h hp
    exact .inl (.inr ⟨ob, k _ _ ne (by rw [upd_ne ne]; exact h) fun _ z => nomatch z⟩)
  · exact .inr h
section
variable {P : Program} {w : World} {K : PySem.W.Frag} {mg : Str → Option Value} {base : Heap} {fD fW fO fV : Addr} {dD dW dO dV : FuncData} {T0 : List (Addr × Str)}
theorem ok_law {f : Addr} {fd : FuncData} (F : Fun K "law" "law" sLaw f fd) (T : Txt K mg)
    (gD : mg "_law_dice" = some (.ref fD)) (kD : PySem.W.keepIn K (.ref fD) = true) (bD : Binds K dD ["script", "spot"] []) (FD : FnOk P w K mg base CX0 1 fD dD ["script", "spot"] (spDice K))
    (gW : mg "_law_words_right" = some (.ref fW)) (kW : PySem.W.keepIn K (.ref fW) = true) (bW : Binds K dW ["dice"] []) (FW : LamY.FnG P w K mg base CX0 13 fW dW ["dice"] (spWR T0))
    (gO : mg "_law_others_right" = some (.ref fO)) (kO : PySem.W.keepIn K (.ref fO) = true) (bO : Binds K dO ["dice"] []) (FO : LamY.FnG P w K mg base CX0 13 fO dO ["dice"] (spWR T0))
    (gV : mg "words_of" = some (.ref fV)) (kV : PySem.W.keepIn K (.ref fV) = true) (bV : Binds K dV ["letters", "degree"] []) (FV : FnOk P w K mg base CX0 6 fV dV ["letters", "degree"] (spWords K)) :
    LamY.FnG P w K mg base CX0 14 f fd ["script"] (spLaw K T0) := by
  refine okG F scLaw (fun vs H Q E h => ?_) (fun cdv A outer s H vs Q E hgd hr h => ?_)
  · obtain ⟨a, ns, rfl, _⟩ := h; rfl
  obtain ⟨a, ns, rfl, hS, hT, k⟩ := h
  have hr1 : Room 1 _ := hr.mono (by decide)
  have hr6 : Room 6 _ := hr.mono (by decide)
  obtain ⟨t1, m1⟩ := T.cMAXLETTERS
  obtain ⟨t2, m2⟩ := T.cMAXLETTER
  obtain ⟨t3, m3⟩ := T.cMAXDEGREE
  obtain ⟨t4, m4⟩ := T.cMAXWORDS
  refine ⟨_, pss_cons (ps_for PassesOwn.never rfl (pi_range1 rfl T.range (pa_cons (pe_callB (call_max2 rfl) (by rfl) T.max bootMax (pa_cons pe_int (pa_cons (pe_callB (call_min2 rfl) (by rfl) T.min bootMin (pa_cons pe_int (pa_cons (pe_callB call_len_seq (by rfl) T.len PySem.boot_len (pa_cons (pv 0) pa_nil)) pa_nil))) pa_nil))) pa_nil))
      (pg_name (i := 1) scLaw.nd rfl (.inl rfl))
      (pss_cons (ps_set (i := 2) scLaw.nd rfl (.inl rfl) (pe_call FD hr1 (by rfl) gD kD bD .nil pass0 (pa_cons (pv 0) (pa_cons (pv 1) pa_nil))))
      (pss_one (ps_if (PW.pt (pw_or (pt_not (pt_val (LamY.pe_callG FW hgd hr (by rfl) gW kW bW (pa_cons (pv 2) pa_nil)))) (pw_or1 (pt_not (pt_val (LamY.pe_callG FO hgd hr (by rfl) gO kO bO (pa_cons (pv 2) pa_nil))))))) (pss_one (ps_ret pe_bl)) pss_nil))))
    (pss_one (ps_ret (pe_and (pe_cmpR (op_eqD hr.units) (pe_lst (pa_cons (pe_glob (v := .int 24) (by rfl) m1 ⟨_, rfl⟩) (pa_cons (pe_glob (v := .int 40) (by rfl) m2 ⟨_, rfl⟩) (pa_cons (pe_glob (v := .int 80) (by rfl) m3 ⟨_, rfl⟩) (pa_cons (pe_glob (v := .int 400) (by rfl) m4 ⟨_, rfl⟩) pa_nil))))) (pe_lst (pa_cons pe_int (pa_cons pe_int (pa_cons pe_int (pa_cons pe_int pa_nil))))) (nomark _))
      (pe_one (pe_cmpR op_eq (pe_callB call_len_seq (by rfl) T.len PySem.boot_len (pa_cons (pe_call FV hr6 (by rfl) gV kV bV .nil pass0 (pa_cons (pe_tup (pa_cons pe_int (pa_cons pe_int (pa_cons pe_int pa_nil)))) (pa_cons pe_int pa_nil))) pa_nil)) pe_int (nomark _)))))), ?_⟩
  refine ⟨_, rfl, a, _, rfl, .inl hS, _, _, rfl, _, _, rfl, _, rfl, ?_, ?_, ?_⟩
  · split <;> split <;> omega
  · split <;> split <;> omega
  refine for_range (lo := 0) (fun _ σ' H' => (∃ o1 o2 : Option V, σ' = [some (.ref a), o1, o2]) ∧ SqL K H' a (ns.map V.int) ∧ Tabs T0 H') ⟨⟨none, none, rfl⟩, hS, hT⟩ ?_ ?_
  · rintro i σ' H' _ ⟨⟨o1, o2, rfl⟩, hs, ht⟩
    refine ⟨_, rfl, _, rfl, a, _, ns, rfl, hs, by omega, fun L p hL hp => ?_⟩
    have t1 : Tabs T0 (upd H' p (.lst L)) := fun q hq => (ht q hq).ext (Same.new hp)
    exact ⟨_, rfl, p, L, rfl, upd_same, hL, t1, fun H3 L3 B3 h3 hL3 t3 => ⟨_, rfl, iteF ⟨_, rfl, p, L3, rfl, h3, hL3, t3, fun H4 L4 B4 h4 hL4 t4 => ⟨_, rfl, iteF ⟨⟨_, _, rfl⟩, seq_but hs hp fun b u nb e nt => B4 b u nb (B3 b u nb e nt) nt, t4⟩⟩⟩⟩⟩
  rintro σ' H0 ⟨⟨o1, o2, rfl⟩, hs, ht⟩
  refine ⟨by show 4 ≤ sizeLine; decide, fun q1 hq1 => ⟨by show 4 ≤ sizeLine; decide, fun q2 hq2 => ?_⟩⟩
  have sh : Shp 1 (.list ([24, 40, 80, 400].map PyData.int)) := .lst .int _
  refine ⟨.list ([24, 40, 80, 400].map PyData.int), .list ([24, 40, 80, 400].map PyData.int), .lst (SqL.of (Same.new hq2 _ _ upd_same)) (dp_ints [24, 40, 80, 400]), .lst (SqL.of upd_same) (dp_ints [24, 40, 80, 400]), sh.shaped (by decide), sh.shaped (by decide), ?_⟩
  rw [eqv_self sh (by decide)]
  refine ⟨_, rfl, iteT ⟨by show 3 ≤ sizeLine; decide, fun u hu => ⟨u, [2, 2, 2], 52, rfl, SqT.of upd_same, ⟨by decide, by decide, by decide⟩, by decide, by rw [n52]; decide, fun H' p xs s' hp hv => ?_⟩⟩⟩
  have lx : xs.length = 378 := by rw [tv_len hv, wds_len _ _ (by decide), n52]
  refine ⟨p, xs, rfl, .inr hp, rfl, ?_⟩
  rw [lx]
  exact k H'
end
end K6
namespace K6
open PySem PySem.Spec PyProof.Rows L2 LamX LamY
/-! ### the end: the law called from outside, no repr under way, tables of code objects -/
/-- what is tracked at first: the tables, and the script where nothing else tells of it -/
def hp0 (cs : List (Addr × Addr)) (a : Addr) (B : Option HO) : Hp := fun b => if b ∈ cs.map (·.2) then some (.tbl #[]) else if b = a then B else none
theorem hp0_tab {cs : List (Addr × Addr)} {a b : Addr} {B : Option HO} (h : b ∈ cs.map (·.2)) : hp0 cs a B b = some (.tbl #[]) := if_pos h
theorem hp0_arg {cs : List (Addr × Addr)} {a : Addr} {B : Option HO} (n : a ∉ cs.map (·.2)) : hp0 cs a B a = B := (if_neg n).trans (if_pos rfl)
theorem hp0_else {cs : List (Addr × Addr)} {a b : Addr} {B : Option HO} (n : b ∉ cs.map (·.2)) (m : b ≠ a) : hp0 cs a B b = none := (if_neg n).trans (if_neg m)
theorem hp0_some {cs : List (Addr × Addr)} {a b : Addr} {B : Option HO} {o : HO} (h : hp0 cs a B b = some o) : (b ∈ cs.map (·.2) ∧ o = .tbl #[]) ∨ (b ∉ cs.map (·.2) ∧ b = a ∧ B = some o) := by
  by_cases e : b ∈ cs.map (·.2)
  · rw [hp0_tab e] at h
    exact .inl ⟨e, (Option.some.inj h).symm⟩
  · by_cases f : b = a
    · subst f
      rw [hp0_arg e] at h
      exact .inr ⟨e, rfl, h⟩
    · rw [hp0_else e f] at h
      cases h
theorem in_tabs {cs : List (Addr × Addr)} {b : Addr} (h : b ∈ cs.map (·.2)) : ∃ p ∈ cs, p.2 = b := by
  obtain ⟨p, hp, e⟩ := List.mem_map.mp h
  exact ⟨p, hp, e⟩
/-- an object that is no sequence and no empty record stays where it is -/
theorem hp0_free {h : Heap} {cs : List (Addr × Addr)} {a b : Addr} {B : Option HO} {o oa : Obj} (tP : ∀ p ∈ cs, h.get? p.2 = some { cls := .none, data := .fields #[] }) (ga : h.get? a = some oa) (e : h.get? b = some o) (n1 : o.data ≠ .fields #[]) (n2 : o ≠ oa) : hp0 cs a B b = none := by
  refine hp0_else (fun q => ?_) (fun q => ?_)
  · obtain ⟨p, hp, z⟩ := in_tabs q
    have y := tP p hp
    rw [z, e] at y
    exact n1 (by rw [Option.some.inj y])
  · subst q
    rw [ga] at e
    exact n2 (Option.some.inj e).symm
theorem law_runs {P : Program} {w : World} {K : PySem.W.Frag} {mg mb : Str → Option Value} {k : Nat} {fa a : Addr} {cs : List (Addr × Addr)} {fd : FuncData} {x : Str} {sp : Sp} {s : Shared} {vs : List Value} {ns : List Int}
    (KX : K.In s.heap) (gM : s.heap.Ns mainGlobals mg) (gB : s.heap.Ns builtinsNs mb) (gBB : ∀ y : Str, y ≠ "__name__" → mb y = bootBuiltins y) (gL : s.heap.NoLimit) (gG : s.gens = #[])
    (tP : ∀ p ∈ cs, s.heap.get? p.2 = some { cls := .none, data := .fields #[] }) (nP : ∀ p ∈ cs, K.lookup p.2 = none) (cP : ∀ p ∈ cs, PySem.W.CodeHd s.heap p.1 p.2)
    (bM : ∃ (bm : Addr) (ob : Obj), mg "__builtins__" = some (.ref bm) ∧ bm ≠ builtinsNs ∧ s.heap.get? bm = some ob ∧ ob.cls = .type "module" ∧ ob.dict = some builtinsNs ∧ ob.data = .plain)
    (ga : s.heap.get? a = some { cls := .type "list", data := .seq vs.toArray }) (hi : IntsAre vs ns) (hl : ns.length ≤ sizeLine) (hr : Room k callerA)
    (F : ∀ base : Heap, K.In base → base.Ns mainGlobals mg → (∀ p ∈ cs, TabB base mg p.1 p.2) → FnG P w K mg base CX0 k fa fd [x] sp) (bF : ∀ (s : Shared) (u : Value), BindsTo s fd ⟨[u], []⟩ [(x, u)])
    (hS : ∀ H : Hp, (∀ p ∈ cs, H p.2 = some (.tbl #[])) → SqL K H a (ns.map V.int) → sp [.ref a] H (fun v _ => v = .bl true) fun _ _ _ => False) :
    codeAny (model P w) callerA (.call (.ref fa) ⟨[.ref a], []⟩) (fun r t => r = .ok (.ret (.bool true)) ∧ OldK s.heap t.heap ∧ t.os = s.os ∧ AllBare t.gens) s := by
  have isT : ∀ {b : Addr} {o : Obj}, b ∈ cs.map (·.2) → s.heap.get? b = some o → o = { cls := .none, data := .fields #[] } := fun {b o} h e => by
    obtain ⟨p, hp, z⟩ := in_tabs h
    have y := tP p hp
    rw [z, e] at y
    exact Option.some.inj y
  have aP : a ∉ cs.map (·.2) := fun q => by
    have y := isT q ga
    cases y
  obtain ⟨B, hB, hA⟩ : ∃ B : Option HO, (B = none ∨ (K.lookup a = none ∧ B = some (.frz { cls := .type "list", data := .seq vs.toArray } (.lst (ns.map V.int))))) ∧ SqL K (hp0 cs a B) a (ns.map V.int) := by
    cases hk : K.lookup a with
    | some o =>
      have e := KX a o hk
      rw [ga] at e
      cases e
      exact ⟨none, .inl rfl, .inr ⟨_, vs.toArray, _, hk, rfl, rfl, rfl, by rw [List.size_toArray, hi.length]; exact hl, by simpa using vals_ints hi⟩⟩
    | none => exact ⟨_, .inr ⟨rfl, rfl⟩, .inl (.inr ⟨{ cls := .type "list", data := .seq vs.toArray }, hp0_arg aP⟩)⟩
  let H : Hp := hp0 cs a B
  have hH : ∀ p ∈ cs, H p.2 = some (.tbl #[]) := fun p hp => hp0_tab (List.mem_map.mpr ⟨p, hp, rfl⟩)
  have ok0 : HOk P w H s.heap := fun b u z => by
    rcases hp0_some z with ⟨hb, rfl⟩ | ⟨n, rfl, e⟩
    · obtain ⟨p, hp, rfl⟩ := in_tabs hb
      exact tP p hp
    · rcases hB with q | ⟨_, q⟩
      · rw [q] at e
        cases e
      · rw [q] at e
        cases e
        exact ⟨ga, by rw [List.length_map]; exact hl, vs, _, vals_ints hi, ga⟩
  have stay : ∀ {b : Addr} {o : Obj}, s.heap.get? b = some o → H b = none → (hidT s.heap H).get? b = some o := fun e n => hidT_get e n
  have stayD : ∀ {b : Addr} {m : Str → Option Value}, s.heap.Ns b m → (hidT s.heap H).Ns b m := fun {b m} ⟨o, es, ep, e, d, r⟩ =>
    ⟨o, es, ep, stay e (hp0_free tP ga e (fun z => by rw [d] at z; cases z) (fun z => by rw [z] at d; cases d)), d, r⟩
  have KB : K.In (hidT s.heap H) := fun b o e => stay (KX b o e) (by
    cases q : H b with
    | none => rfl
    | some u =>
      rcases hp0_some q with ⟨hb, _⟩ | ⟨_, rfl, e2⟩
      · obtain ⟨p, hp, rfl⟩ := in_tabs hb
        rw [nP p hp] at e
        cases e
      · rcases hB with z | ⟨z, _⟩
        · rw [z] at e2
          cases e2
        · rw [z] at e
          cases e)
  have MB : L2.Mod K mg (hidT s.heap H) := ⟨KB, stayD gM, ⟨mb, stayD gB, gBB⟩, let ⟨mc, h1, h2⟩ := gL; ⟨mc, stayD h1, h2⟩⟩
  have TB : ∀ p ∈ cs, TabB (hidT s.heap H) mg p.1 p.2 := fun p hp => by
    refine ⟨?_, ?_, fun z => ?_⟩
    · obtain ⟨o, us, file, tf, flags, tg, inF, text, tt, e1, r1, r2, rest⟩ := cP p hp
      refine ⟨o, us, file, tf, flags, tg, inF, text, tt, stay e1 (hp0_free tP ga e1 (fun z => ?_) (fun z => ?_)), r1, r2, rest⟩
      · rw [r2] at z
        cases z
        simp at rest
      · rw [z] at r2
        cases r2
    · obtain ⟨bm, ob, b1, b2, b3, b4, b5, b6⟩ := bM
      refine ⟨bm, ob, b1, b2, fun q => ?_, fun q => ?_, stay b3 (hp0_free tP ga b3 (fun z => ?_) (fun z => ?_)), b4, b5, b6⟩
      · obtain ⟨o, es, ep, e, hd, _⟩ := gM
        rw [q, e] at b3
        cases b3
        rw [hd] at b6
        cases b6
      · rw [q, tP p hp] at b3
        cases b3
        cases b6
      · rw [b6] at z
        cases z
      · rw [z] at b6
        cases b6
    · obtain ⟨o, es, ep, e, hd, _⟩ := gM
      rw [z, tP p hp] at e
      cases e
      cases hd
  have E0 : Env0 P w K mg (hidT s.heap H) callerA [] s H := ⟨rfl, MB, fun b o e => of_hidT e, Nat.le_of_eq (hidT_size _ _), trivial, fun b hb => absurd (show b ∈ ([] : List Addr) from hb) (by simp), ok0, .of_eq gG⟩
  refine codeAny_mono ((F _ KB (stayD gM) TB).run callerA [] s H ⟨[.ref a], []⟩ [.ref a] [.ref a] _ _ rfl hr E0 (bF s (.ref a)) (.cons rfl .nil) (hS H hH hA)) fun r t h => ?_
  cases r with
  | error e => exact (show False from h).elim
  | ok fl =>
    cases fl with
    | next => exact (show False from h).elim
    | brk => exact (show False from h).elim
    | cont => exact (show False from h).elim
    | ret u =>
      obtain ⟨v, H', os, bare, un, ok1, rv, q⟩ := h
      obtain rfl : v = .bl true := q
      obtain rfl : u = Value.bool true := rv
      have grown : ∀ p ∈ cs, ∃ more : Array Value, t.heap.get? p.2 = some { cls := .none, data := .fields more } := fun p hp => by
        obtain ⟨more, z⟩ := un.tbls p.2 #[] (hH p hp)
        exact ⟨_, ok1 p.2 _ z⟩
      have same : ∀ b o, b ∉ cs.map (·.2) → s.heap.get? b = some o → t.heap.get? b = some o := fun b o nb e => by
        cases z : H b with
        | none => exact un.keep b o e z (fun y => absurd (show b ∈ ([] : List Addr) from y) (by simp)) (by simp)
        | some y =>
          rcases hp0_some z with ⟨e2, _⟩ | ⟨_, rfl, e2⟩
          · exact absurd e2 nb
          · rcases hB with e3 | ⟨_, e3⟩
            · rw [e3] at e2
              cases e2
            · rw [e3] at e2
              cases e2
              obtain ⟨g1, _⟩ := ok1 b _ (un.frzs b _ _ z)
              rw [ga] at e
              cases e
              exact g1
      refine ⟨rfl, ⟨fun b o e => ?_, fun b o e => ?_⟩, os, bare⟩
      · by_cases nb : b ∈ cs.map (·.2)
        · obtain rfl := isT nb e
          obtain ⟨p, hp, rfl⟩ := in_tabs nb
          obtain ⟨more, gT⟩ := grown p hp
          exact .inr (.inl ⟨((cP p hp).tab (tP p hp)).isCodeTable, rfl, #[], more, rfl, by rw [Array.empty_append]; exact gT⟩)
        · exact .inl (same b o nb e)
      · by_cases nb : b ∈ cs.map (·.2)
        · obtain ⟨p, hp, rfl⟩ := in_tabs nb
          obtain ⟨more, gT⟩ := grown p hp
          exact ⟨_, gT⟩
        · exact ⟨o, same b o nb e⟩
/-- what is asked of the law at the head's heap -/
def LawIs (l : PySem.W.OpenLaw) (w : World) (K : PySem.W.Frag) (k n : Nat) (x : Str) (mg : Str → Option Value) (fa : Addr) (cs : List (Addr × Addr)) : Prop :=
  ∃ (fd : FuncData) (sp : Sp), (∀ p ∈ cs, K.lookup p.2 = none) ∧ (∀ (s : Shared) (u : Value), BindsTo s fd ⟨[u], []⟩ [(x, u)]) ∧
    (∀ (H : Hp) (a : Addr) (ns : List Int), (∀ p ∈ cs, H p.2 = some (.tbl #[])) → SqL K H a (ns.map V.int) → sp [.ref a] H (fun v _ => v = .bl true) fun _ _ _ => False) ∧
    ∀ base : Heap, K.In base → base.Ns mainGlobals mg → (∀ p ∈ cs, TabB base mg p.1 p.2) → FnG l.prog w K mg base CX0 k fa fd [x] sp
theorem walk_tabs {l : PySem.W.OpenLaw} {n k : Nat} {q : Program} {loose : List Str} {XP : (Str → Option Value) → Heap → Prop} {YP : World → Heap → Prop} {d : DefRec} {K : Params → PySem.W.Frag} {x : Str} {xs : List Str}
    (hn : l.most = some n) (hn2 : n ≤ sizeLine) (hdf : d.params.defaults = []) (hr : Room k callerA) (hY : ∀ (w : World) (h : Heap), YP w h → (K w.params).In h) (hrec : (xs.all fun y => ((recsOf q).find? fun e => e.name == y).isSome) = true)
    (F : ∀ (w : World) (mg : Str → Option Value) (fa : Addr) (h : Heap), (K w.params).In h → h.Ns mainGlobals mg → mg d.name = some (.ref fa) → ∃ cs : List (Addr × Addr), (∀ p ∈ cs, ∃ y ∈ xs, PySem.W.tabIn (K w.params) y = some p) ∧ LawIs l w (K w.params) k n x mg fa cs) :
    PySem.W.WalkO q loose XP YP l.row.toRowW d [] (fun f vs => PySem.call f vs) := by
  refine Att.attach_callB hn hdf fun w s₀ s₁ mg mb fa o pm cd doc a vs ns G Y ho hd hcd hmg hobj hints hlen hbits hg => ?_
  have KX := hY w _ Y
  obtain ⟨cs, ht, fd, sp, nP, bF, hS, hF⟩ := F w mg fa _ KX G.T.g hmg
  have both : ∀ p ∈ cs, PySem.W.CodeHd s₁.heap p.1 p.2 ∧ s₁.heap.get? p.2 = some { cls := .none, data := .fields #[] } := fun p hp => by
    obtain ⟨y, hy, e⟩ := ht p hp
    obtain ⟨dt, hdt⟩ := Option.isSome_iff_exists.mp (List.all_eq_true.mp hrec y hy)
    exact PySem.W.tab_of G.T KX hdt e
  exact law_runs KX G.T.g G.T.b G.T.builtins G.T.nolimit hg (fun p hp => (both p hp).2) nP (fun p hp => (both p hp).1) G.T.bmain hobj hints (Nat.le_trans hlen hn2) hr hF bF (fun H hH h => hS H a ns hH h)
end K6
namespace K6
open PySem PySem.Spec PyProof.Rows L2 LamX LamY
/-! ### the facts of the written part -/
structure Has (K : PySem.W.Frag) (x : Str) (st : Stmt) (f : Addr) : Prop where
  at' : PySem.W.nsIn K mainGlobals x = some (some (.ref f))
  kp : PySem.W.keepIn K (.ref f) = true
  look : ∃ (oc : Value) (od : Option Addr) (kV doc pm : Value) (an : Option Addr) (cdv ct : Value) (osl : Array (Option Value)),
    K.lookup f = some ⟨oc, od, .func (PySem.W.fnOf x x (defArgs st) (defBody st) (defScope st) .none kV doc pm an cdv ct), osl⟩ ∧ PySem.W.codeIn K cdv x = true
theorem has_of {K : PySem.W.Frag} {x : Str} {st : Stmt} {f : Addr} {oc kV doc pm cdv ct : Value} {od an : Option Addr} {osl : Array (Option Value)} (a : PySem.W.nsIn K mainGlobals x = some (some (.ref f)))
    (l : K.lookup f = some ⟨oc, od, .func (PySem.W.fnOf x x (defArgs st) (defBody st) (defScope st) .none kV doc pm an cdv ct), osl⟩) (c : PySem.W.codeIn K cdv x = true) (k : PySem.W.keepIn K (.ref f) = true) : Has K x st f :=
  ⟨a, k, oc, od, kV, doc, pm, an, cdv, ct, osl, l, c⟩
theorem Has.fn {K : PySem.W.Frag} {x : Str} {st : Stmt} {f : Addr} (F : Has K x st f) : ∃ fd, Fun K x x st f fd := by
  obtain ⟨oc, od, kV, doc, pm, an, cdv, ct, osl, l, c⟩ := F.look
  exact ⟨_, fun_mk (st := st) l c F.kp⟩
/-- the same of a def with one default, which is None -/
structure HasD (K : PySem.W.Frag) (x : Str) (st : Stmt) (f : Addr) : Prop where
  at' : PySem.W.nsIn K mainGlobals x = some (some (.ref f))
  kp : PySem.W.keepIn K (.ref f) = true
  look : ∃ (oc : Value) (od : Option Addr) (dT : Addr) (kV doc pm : Value) (an : Option Addr) (cdv ct : Value) (osl : Array (Option Value)),
    K.lookup f = some ⟨oc, od, .func (PySem.W.fnOf x x (defArgs st) (defBody st) (defScope st) (.ref dT) kV doc pm an cdv ct), osl⟩ ∧ PySem.W.codeIn K cdv x = true ∧ ∃ (oT : Obj) (m : Nat), K.lookup dT = some oT ∧ oT.data = .seq #[Value.none] m
theorem hasd_of {K : PySem.W.Frag} {x : Str} {st : Stmt} {f dT : Addr} {oc kV doc pm cdv ct : Value} {od an : Option Addr} {osl : Array (Option Value)} {oT : Obj} {m : Nat} (a : PySem.W.nsIn K mainGlobals x = some (some (.ref f)))
    (l : K.lookup f = some ⟨oc, od, .func (PySem.W.fnOf x x (defArgs st) (defBody st) (defScope st) (.ref dT) kV doc pm an cdv ct), osl⟩) (c : PySem.W.codeIn K cdv x = true) (k : PySem.W.keepIn K (.ref f) = true) (t : K.lookup dT = some oT) (d : oT.data = .seq #[Value.none] m) : HasD K x st f :=
  ⟨a, k, oc, od, dT, kV, doc, pm, an, cdv, ct, osl, l, c, oT, m, t, d⟩
/-- what an except clause over the class at S says of the class at C -/
theorem exm_by {K : PySem.W.Frag} {C S : Addr} {b : Bool} (h1 : PySem.W.subIn K (.ref S) (.type "BaseException") = some true) (h2 : PySem.W.isClsIn K S = true) (h3 : PySem.W.typeIn K (.ref S) = some (.type "type")) (h4 : PySem.W.subIn K (.ref C) (.ref S) = some b) :
    PySem.W.exmOne K (.ref C) (.ref S) = some b := by
  have e1 : (PySem.W.subIn K (.ref S) (.type "BaseException") == some true) = true := by rw [h1] <;> rfl
  have e2 : ((PySem.W.clsIn K S).isSome && PySem.W.typeIn K (.ref S) == some (.type "type")) = true := by
    have h5 : (PySem.W.clsIn K S).isSome = true := h2
    rw [h5, h3] <;> rfl
  unfold PySem.W.exmOne
  rw [if_pos e1]
  exact (if_pos e2).trans h4
/-- a class of errors: of its own, over BaseException -/
structure Cl (K : PySem.W.Frag) (x : Str) (C : Addr) : Prop where
  at' : PySem.W.nsIn K mainGlobals x = some (some (.ref C))
  kp : PySem.W.keepIn K (.ref C) = true
  ex : PySem.W.subIn K (.ref C) (.type "BaseException") = some true
  ty : PySem.W.typeIn K (.ref C) = some (.type "type")
  is : PySem.W.isClsIn K C = true
theorem cl_of {K : PySem.W.Frag} {x : Str} {C : Addr} (a : PySem.W.nsIn K mainGlobals x = some (some (.ref C))) (k : PySem.W.keepIn K (.ref C) = true) (e : PySem.W.subIn K (.ref C) (.type "BaseException") = some true)
    (t : PySem.W.typeIn K (.ref C) = some (.type "type")) (i : PySem.W.isClsIn K C = true) : Cl K x C := ⟨a, k, e, t, i⟩
structure FactsInvalidNumber (K : PySem.W.Frag) (C i0 : Addr) : Prop where
  made : PySem.W.excInitIn K C K6X.ieB "IndexError.__new__" = true
  over : PySem.W.excOver K C K6X.ieB = true
  dict : PySem.W.hasDictIn K C = true
  stores : PySem.W.findIn K (.ref C) "__setattr__" = some (some (.builtin "object.__setattr__"))
  reads : PySem.W.findIn K (.ref C) "__getattribute__" = some (some (.builtin "BaseException.__getattribute__"))
  reads2 : PySem.W.findIn K (.ref C) "__getattr__" = some none
  noGiven : PySem.W.findIn K (.ref C) "given" = some none
  inits : PySem.W.findIn K (.ref C) "__init__" = some (some (.ref i0))
  isdef : PySem.W.typeIn K (.ref i0) = some (.type "function")
  text : ∃ (oc : Value) (od : Option Addr) (doc pm : Value) (an : Option Addr) (cdv ct : Value) (osl : Array (Option Value)) (r1 r2 r3 r4 r5 r6 : Pos),
    K.lookup i0 = some ⟨oc, od, .func (PySem.W.fnOf "__init__" "InvalidNumber.__init__" (K6X.nuA r1 r2) (K6X.nuB r3 r4 r5 r6) K6X.nuS .none .none doc pm an cdv ct), osl⟩ ∧ PySem.W.codeIn K cdv "InvalidNumber.__init__" = true
theorem ofInvalidNumber {K : PySem.W.Frag} {C i0 : Addr} {oc doc pm cdv ct : Value} {od an : Option Addr} {osl : Array (Option Value)} (j : PySem.W.findIn K (.ref C) "__init__" = some (some (.ref i0)))
    (l : K.lookup i0 = some ⟨oc, od, .func (PySem.W.fnOf "__init__" "InvalidNumber.__init__" (K6X.nuA ⟨15, 17, 15, 21⟩ ⟨15, 23, 15, 28⟩) (K6X.nuB ⟨16, 8, 16, 12⟩ ⟨16, 8, 16, 18⟩ ⟨16, 21, 16, 26⟩ ⟨16, 8, 16, 26⟩) K6X.nuS .none .none doc pm an cdv ct), osl⟩)
    (u : PySem.W.codeIn K cdv "InvalidNumber.__init__" = true) (m : PySem.W.excInitIn K C K6X.ieB "IndexError.__new__" = true) (v : PySem.W.excOver K C K6X.ieB = true) (d : PySem.W.hasDictIn K C = true)
    (s : PySem.W.findIn K (.ref C) "__setattr__" = some (some (.builtin "object.__setattr__"))) (g : PySem.W.findIn K (.ref C) "__getattribute__" = some (some (.builtin "BaseException.__getattribute__")))
    (n : PySem.W.findIn K (.ref C) "__getattr__" = some none) (e : PySem.W.findIn K (.ref C) "given" = some none) (t : PySem.W.typeIn K (.ref i0) = some (.type "function")) : FactsInvalidNumber K C i0 :=
  ⟨m, v, d, s, g, n, e, j, t, oc, od, doc, pm, an, cdv, ct, osl, _, _, _, _, _, _, l, u⟩
structure FactsTooMany (K : PySem.W.Frag) (C i0 : Addr) : Prop where
  made : PySem.W.excInitIn K C K6M.ieB "OverflowError.__new__" = true
  over : PySem.W.excOver K C K6M.ieB = true
  dict : PySem.W.hasDictIn K C = true
  stores : PySem.W.findIn K (.ref C) "__setattr__" = some (some (.builtin "object.__setattr__"))
  reads : PySem.W.findIn K (.ref C) "__getattribute__" = some (some (.builtin "BaseException.__getattribute__"))
  reads2 : PySem.W.findIn K (.ref C) "__getattr__" = some none
  noGiven : PySem.W.findIn K (.ref C) "limit" = some none
  inits : PySem.W.findIn K (.ref C) "__init__" = some (some (.ref i0))
  isdef : PySem.W.typeIn K (.ref i0) = some (.type "function")
  text : ∃ (oc : Value) (od : Option Addr) (doc pm : Value) (an : Option Addr) (cdv ct : Value) (osl : Array (Option Value)) (r1 r2 r3 r4 r5 r6 : Pos),
    K.lookup i0 = some ⟨oc, od, .func (PySem.W.fnOf "__init__" "TooMany.__init__" (K6M.nuA r1 r2) (K6M.nuB r3 r4 r5 r6) K6M.nuS .none .none doc pm an cdv ct), osl⟩ ∧ PySem.W.codeIn K cdv "TooMany.__init__" = true
theorem ofTooMany {K : PySem.W.Frag} {C i0 : Addr} {oc doc pm cdv ct : Value} {od an : Option Addr} {osl : Array (Option Value)} (j : PySem.W.findIn K (.ref C) "__init__" = some (some (.ref i0)))
    (l : K.lookup i0 = some ⟨oc, od, .func (PySem.W.fnOf "__init__" "TooMany.__init__" (K6M.nuA ⟨19, 17, 19, 21⟩ ⟨19, 23, 19, 28⟩) (K6M.nuB ⟨20, 8, 20, 12⟩ ⟨20, 8, 20, 18⟩ ⟨20, 21, 20, 26⟩ ⟨20, 8, 20, 26⟩) K6M.nuS .none .none doc pm an cdv ct), osl⟩)
    (u : PySem.W.codeIn K cdv "TooMany.__init__" = true) (m : PySem.W.excInitIn K C K6M.ieB "OverflowError.__new__" = true) (v : PySem.W.excOver K C K6M.ieB = true) (d : PySem.W.hasDictIn K C = true)
    (s : PySem.W.findIn K (.ref C) "__setattr__" = some (some (.builtin "object.__setattr__"))) (g : PySem.W.findIn K (.ref C) "__getattribute__" = some (some (.builtin "BaseException.__getattribute__")))
    (n : PySem.W.findIn K (.ref C) "__getattr__" = some none) (e : PySem.W.findIn K (.ref C) "limit" = some none) (t : PySem.W.typeIn K (.ref i0) = some (.type "function")) : FactsTooMany K C i0 :=
  ⟨m, v, d, s, g, n, e, j, t, oc, od, doc, pm, an, cdv, ct, osl, _, _, _, _, _, _, l, u⟩
theorem all_mk {l : PySem.W.OpenLaw} {w : World} {K : PySem.W.Frag} {h : Heap} {mg : Str → Option Value} {fa CL CW CO CN CM iCN iCM : Addr} (X : K.In h) (G : h.Ns mainGlobals mg) (hfa : mg "law" = some (.ref fa))
    {flawroll flawdice flawpick fiswhole fisinteger fisbetween fisletters fcountswith fsuffixcounts fleastexponents ffirstword fleastrise fnextword fcheckletters fcheckbetween foddindices fevenletters foddletters ftopword fcountwords flistedwords fwordcount fwordsof feachword fdegreeof flengthof fisexponents fispassedword fjoinedwords fcheckword fisword fworddegree fwordlength fwordproduct fisindex fisindices fsortedword flawmet flawaremet funitword : Addr} {flawwordsright clawwordsright Plawwordsright : Addr} {oclawwordsright kVlawwordsright doclawwordsright pmlawwordsright ctlawwordsright : Value} {anlawwordsright odlawwordsright : Option Addr} {sllawwordsright : Array (Option Value)} {flawothersright clawothersright Plawothersright : Addr} {oclawothersright kVlawothersright doclawothersright pmlawothersright ctlawothersright : Value} {anlawothersright odlawothersright : Option Addr} {sllawothersright : Array (Option Value)} {fLw : Addr} {ocL kVL docL pmL cdL ctL : Value} {anL odL : Option Addr} {slL : Array (Option Value)}
    (aCL : Cl K "InvalidLetters" CL)
    (mCL : PySem.W.excIn K CL PySem.HandSPX.veTail "ValueError.__new__" = true)
    (aCW : Cl K "InvalidWord" CW)
    (mCW : PySem.W.excIn K CW PySem.HandSPX.veTail "ValueError.__new__" = true)
    (aCO : Cl K "InvalidOperation" CO)
    (mCO : PySem.W.excIn K CO PySem.HandSPX.veTail "ValueError.__new__" = true)
    (aCN : Cl K "InvalidNumber" CN)
    (nCN : FactsInvalidNumber K CN iCN)
    (aCM : Cl K "TooMany" CM)
    (nCM : FactsTooMany K CM iCM)
    (s_CL_CL : PySem.W.subIn K (.ref CL) (.ref CL) = some true)
    (s_CW_CL : PySem.W.subIn K (.ref CW) (.ref CL) = some false)
    (s_CW_CW : PySem.W.subIn K (.ref CW) (.ref CW) = some true)
    (s_CO_CL : PySem.W.subIn K (.ref CO) (.ref CL) = some false)
    (s_CO_CW : PySem.W.subIn K (.ref CO) (.ref CW) = some false)
    (s_CO_CO : PySem.W.subIn K (.ref CO) (.ref CO) = some true)
    (s_CN_CL : PySem.W.subIn K (.ref CN) (.ref CL) = some false)
    (s_CN_CW : PySem.W.subIn K (.ref CN) (.ref CW) = some false)
    (s_CN_CO : PySem.W.subIn K (.ref CN) (.ref CO) = some false)
    (s_CN_CN : PySem.W.subIn K (.ref CN) (.ref CN) = some true)
    (s_CM_CL : PySem.W.subIn K (.ref CM) (.ref CL) = some false)
    (s_CM_CW : PySem.W.subIn K (.ref CM) (.ref CW) = some false)
    (s_CM_CO : PySem.W.subIn K (.ref CM) (.ref CO) = some false)
    (s_CM_CN : PySem.W.subIn K (.ref CM) (.ref CN) = some false)
    (s_CM_CM : PySem.W.subIn K (.ref CM) (.ref CM) = some true)
    (u_CL_StopIteration : PySem.W.subIn K (.ref CL) (.type "StopIteration") = some false)
    (u_CN_StopIteration : PySem.W.subIn K (.ref CN) (.type "StopIteration") = some false)
    (z_int : PySem.W.nsIn K mainGlobals "int" = some none)
    (z_bool : PySem.W.nsIn K mainGlobals "bool" = some none)
    (z_tuple : PySem.W.nsIn K mainGlobals "tuple" = some none)
    (z_list : PySem.W.nsIn K mainGlobals "list" = some none)
    (z_isinstance : PySem.W.nsIn K mainGlobals "isinstance" = some none)
    (z_len : PySem.W.nsIn K mainGlobals "len" = some none)
    (z_abs : PySem.W.nsIn K mainGlobals "abs" = some none)
    (z_max : PySem.W.nsIn K mainGlobals "max" = some none)
    (z_min : PySem.W.nsIn K mainGlobals "min" = some none)
    (z_range : PySem.W.nsIn K mainGlobals "range" = some none)
    (z_sum : PySem.W.nsIn K mainGlobals "sum" = some none)
    (z_all : PySem.W.nsIn K mainGlobals "all" = some none)
    (z_enumerate : PySem.W.nsIn K mainGlobals "enumerate" = some none)
    (z_reversed : PySem.W.nsIn K mainGlobals "reversed" = some none)
    (z_zip : PySem.W.nsIn K mainGlobals "zip" = some none)
    (z_repr : PySem.W.nsIn K mainGlobals "repr" = some none)
    (y__LIMIT : ∃ t, mg "_LIMIT" = some (.int (10 ^ 60) t))
    (y_MAX_LETTERS : ∃ t, mg "MAX_LETTERS" = some (.int (24) t))
    (y_MAX_LETTER : ∃ t, mg "MAX_LETTER" = some (.int (40) t))
    (y_MAX_DEGREE : ∃ t, mg "MAX_DEGREE" = some (.int (80) t))
    (y_MAX_WORDS : ∃ t, mg "MAX_WORDS" = some (.int (400) t))
    (y__MAX_PASSED : ∃ t, mg "_MAX_PASSED" = some (.int (400) t))
    (y__MAX_INDICES : ∃ t, mg "_MAX_INDICES" = some (.int (40) t))
    (hlawroll : Has K "_law_roll" sRoll flawroll)
    (hlawdice : Has K "_law_dice" sDice flawdice)
    (hlawpick : Has K "_law_pick" sPick flawpick)
    (hiswhole : Has K "is_whole" sIsWhole fiswhole)
    (hisinteger : Has K "is_integer" sIsInt fisinteger)
    (hisbetween : Has K "is_between" sBetween fisbetween)
    (hisletters : Has K "is_letters" sIsLetters fisletters)
    (hcountswith : Has K "_counts_with" sCntW fcountswith)
    (hsuffixcounts : Has K "suffix_counts" sSuffix fsuffixcounts)
    (hleastexponents : Has K "_least_exponents" sLeast fleastexponents)
    (hfirstword : Has K "first_word" sFirst ffirstword)
    (hleastrise : Has K "_least_rise" sRise fleastrise)
    (hnextword : Has K "next_word" sNext fnextword)
    (hcheckletters : Has K "check_letters" sChkL fcheckletters)
    (hcheckbetween : Has K "check_between" sChkB fcheckbetween)
    (hoddindices : Has K "odd_indices" sOdds foddindices)
    (hevenletters : Has K "even_letters" sEvenL fevenletters)
    (hoddletters : Has K "odd_letters" sOddL foddletters)
    (htopword : Has K "top_word" sTopW ftopword)
    (hcountwords : Has K "count_words" sCount fcountwords)
    (hlistedwords : Has K "listed_words" sListed flistedwords)
    (hwordcount : Has K "word_count" sWordCount fwordcount)
    (hwordsof : Has K "words_of" sWordsOf fwordsof)
    (heachword : Has K "each_word" sEach feachword)
    (hdegreeof : Has K "degree_of" sDegOf fdegreeof)
    (hlengthof : Has K "length_of" sLenOf flengthof)
    (hisexponents : Has K "is_exponents" sIsExp fisexponents)
    (hispassedword : Has K "is_passed_word" sIsPass fispassedword)
    (hjoinedwords : Has K "joined_words" sJoined fjoinedwords)
    (hcheckword : Has K "check_word" sChkW fcheckword)
    (hisword : Has K "is_word" sIsWord fisword)
    (hworddegree : Has K "word_degree" sWDeg fworddegree)
    (hwordlength : Has K "word_length" sWLen fwordlength)
    (hwordproduct : Has K "word_product" sWProd fwordproduct)
    (hisindex : Has K "is_index" sIsIndex fisindex)
    (hisindices : Has K "_is_indices" sIsInds fisindices)
    (hsortedword : Has K "sorted_word" sSorted fsortedword)
    (hlawmet : Has K "_law_met" sMet flawmet)
    (hlawaremet : Has K "_law_are_met" sAreMet flawaremet)
    (hunitword : HasD K "unit_word" sUnit funitword)
    (alawwordsright : PySem.W.nsIn K mainGlobals "_law_words_right" = some (some (.ref flawwordsright)))
    (llawwordsright : K.lookup flawwordsright = some ⟨oclawwordsright, odlawwordsright, .func (PySem.W.fnOf "_law_words_right" "_law_words_right" (defArgs sWordsR) (defBody sWordsR) (defScope sWordsR) .none kVlawwordsright doclawwordsright pmlawwordsright anlawwordsright (.ref clawwordsright) ctlawwordsright), sllawwordsright⟩)
    (clawwordsright_ : PySem.W.codeIn K (.ref clawwordsright) "_law_words_right" = true)
    (klawwordsright : PySem.W.keepIn K (.ref flawwordsright) = true)
    (tlawwordsright : PySem.W.tabIn K "_law_words_right" = some (clawwordsright, Plawwordsright))
    (olawwordsright : K.lookup Plawwordsright = none)
    (alawothersright : PySem.W.nsIn K mainGlobals "_law_others_right" = some (some (.ref flawothersright)))
    (llawothersright : K.lookup flawothersright = some ⟨oclawothersright, odlawothersright, .func (PySem.W.fnOf "_law_others_right" "_law_others_right" (defArgs sOthersR) (defBody sOthersR) (defScope sOthersR) .none kVlawothersright doclawothersright pmlawothersright anlawothersright (.ref clawothersright) ctlawothersright), sllawothersright⟩)
    (clawothersright_ : PySem.W.codeIn K (.ref clawothersright) "_law_others_right" = true)
    (klawothersright : PySem.W.keepIn K (.ref flawothersright) = true)
    (tlawothersright : PySem.W.tabIn K "_law_others_right" = some (clawothersright, Plawothersright))
    (olawothersright : K.lookup Plawothersright = none)
    (n0_1 : Plawwordsright ≠ Plawothersright)
    (aL : PySem.W.nsIn K mainGlobals "law" = some (some (.ref fLw)))
    (lL : K.lookup fLw = some ⟨ocL, odL, .func (PySem.W.fnOf "law" "law" (defArgs sLaw) (defBody sLaw) (defScope sLaw) .none kVL docL pmL anL cdL ctL), slL⟩)
    (cL : PySem.W.codeIn K cdL "law" = true)
    (kL : PySem.W.keepIn K (.ref fLw) = true)
    : ∃ cs : List (Addr × Addr), (∀ p ∈ cs, ∃ y ∈ (["_law_words_right", "_law_others_right"] : List Str), PySem.W.tabIn K y = some p) ∧ LawIs l w K 14 63 "script" mg fa cs := by
  have e := hfa.symm.trans (PySem.W.mg_of X G aL)
  cases e
  have ER_InvalidLetters : ErrTxt K mg "InvalidLetters" CL := ⟨PySem.W.mg_of X G aCL.at', mCL, aCL.kp, aCL.ex, aCL.ty⟩
  have ER_InvalidWord : ErrTxt K mg "InvalidWord" CW := ⟨PySem.W.mg_of X G aCW.at', mCW, aCW.kp, aCW.ex, aCW.ty⟩
  have ER_InvalidOperation : ErrTxt K mg "InvalidOperation" CO := ⟨PySem.W.mg_of X G aCO.at', mCO, aCO.kp, aCO.ex, aCO.ty⟩
  have NT_CN : K6X.NumTxt K mg CN iCN := ⟨PySem.W.mg_of X G aCN.at', nCN.made, nCN.over, nCN.dict, nCN.stores, nCN.reads, nCN.reads2, nCN.noGiven, nCN.inits, nCN.isdef, aCN.kp, aCN.ex, aCN.ty, exm_by aCN.ex aCN.is aCN.ty s_CN_CN, nCN.text⟩
  have NT_CM : K6M.NumTxt K mg CM iCM := ⟨PySem.W.mg_of X G aCM.at', nCM.made, nCM.over, nCM.dict, nCM.stores, nCM.reads, nCM.reads2, nCM.noGiven, nCM.inits, nCM.isdef, aCM.kp, aCM.ex, aCM.ty, exm_by aCM.ex aCM.is aCM.ty s_CM_CM, nCM.text⟩
  have CS : Clss K mg CL CW CO CN CM := ⟨PySem.W.mg_of X G aCL.at', PySem.W.mg_of X G aCW.at', PySem.W.mg_of X G aCO.at', PySem.W.mg_of X G aCN.at', PySem.W.mg_of X G aCM.at', exm_by aCL.ex aCL.is aCL.ty s_CL_CL, exm_by aCL.ex aCL.is aCL.ty s_CW_CL, exm_by aCW.ex aCW.is aCW.ty s_CW_CW, exm_by aCL.ex aCL.is aCL.ty s_CO_CL, exm_by aCW.ex aCW.is aCW.ty s_CO_CW, exm_by aCO.ex aCO.is aCO.ty s_CO_CO, exm_by aCL.ex aCL.is aCL.ty s_CN_CL, exm_by aCW.ex aCW.is aCW.ty s_CN_CW, exm_by aCO.ex aCO.is aCO.ty s_CN_CO, exm_by aCN.ex aCN.is aCN.ty s_CN_CN, exm_by aCL.ex aCL.is aCL.ty s_CM_CL, exm_by aCW.ex aCW.is aCW.ty s_CM_CW, exm_by aCO.ex aCO.is aCO.ty s_CM_CO, exm_by aCN.ex aCN.is aCN.ty s_CM_CN, exm_by aCM.ex aCM.is aCM.ty s_CM_CM⟩
  have T : Txt K mg := ⟨PySem.W.mg_none_of X G z_int, PySem.W.mg_none_of X G z_bool, PySem.W.mg_none_of X G z_tuple, PySem.W.mg_none_of X G z_list, PySem.W.mg_none_of X G z_isinstance, PySem.W.mg_none_of X G z_len, PySem.W.mg_none_of X G z_abs, PySem.W.mg_none_of X G z_max, PySem.W.mg_none_of X G z_min, PySem.W.mg_none_of X G z_range, PySem.W.mg_none_of X G z_sum, PySem.W.mg_none_of X G z_all, PySem.W.mg_none_of X G z_enumerate, PySem.W.mg_none_of X G z_reversed, PySem.W.mg_none_of X G z_zip, PySem.W.mg_none_of X G z_repr, y__LIMIT, y_MAX_LETTERS, y_MAX_LETTER, y_MAX_DEGREE, y_MAX_WORDS, y__MAX_PASSED, y__MAX_INDICES⟩
  obtain ⟨dlawroll, Flawroll⟩ := hlawroll.fn
  have glawroll := PySem.W.mg_of X G hlawroll.at'
  have klawroll := hlawroll.kp
  have blawroll := Flawroll.binds (ps := ["dice", "total"]) fun _ _ _ _ _ _ us hl => match us, hl with | [_, _], _ => rfl
  obtain ⟨dlawdice, Flawdice⟩ := hlawdice.fn
  have glawdice := PySem.W.mg_of X G hlawdice.at'
  have klawdice := hlawdice.kp
  have blawdice := Flawdice.binds (ps := ["script", "spot"]) fun _ _ _ _ _ _ us hl => match us, hl with | [_, _], _ => rfl
  obtain ⟨dlawpick, Flawpick⟩ := hlawpick.fn
  have glawpick := PySem.W.mg_of X G hlawpick.at'
  have klawpick := hlawpick.kp
  have blawpick := Flawpick.binds (ps := ["dice", "items"]) fun _ _ _ _ _ _ us hl => match us, hl with | [_, _], _ => rfl
  obtain ⟨diswhole, Fiswhole⟩ := hiswhole.fn
  have giswhole := PySem.W.mg_of X G hiswhole.at'
  have kiswhole := hiswhole.kp
  have biswhole := Fiswhole.binds (ps := ["value"]) fun _ _ _ _ _ _ us hl => match us, hl with | [_], _ => rfl
  obtain ⟨disinteger, Fisinteger⟩ := hisinteger.fn
  have gisinteger := PySem.W.mg_of X G hisinteger.at'
  have kisinteger := hisinteger.kp
  have bisinteger := Fisinteger.binds (ps := ["value"]) fun _ _ _ _ _ _ us hl => match us, hl with | [_], _ => rfl
  obtain ⟨disbetween, Fisbetween⟩ := hisbetween.fn
  have gisbetween := PySem.W.mg_of X G hisbetween.at'
  have kisbetween := hisbetween.kp
  have bisbetween := Fisbetween.binds (ps := ["value", "least", "most"]) fun _ _ _ _ _ _ us hl => match us, hl with | [_, _, _], _ => rfl
  obtain ⟨disletters, Fisletters⟩ := hisletters.fn
  have gisletters := PySem.W.mg_of X G hisletters.at'
  have kisletters := hisletters.kp
  have bisletters := Fisletters.binds (ps := ["value"]) fun _ _ _ _ _ _ us hl => match us, hl with | [_], _ => rfl
  obtain ⟨dcountswith, Fcountswith⟩ := hcountswith.fn
  have gcountswith := PySem.W.mg_of X G hcountswith.at'
  have kcountswith := hcountswith.kp
  have bcountswith := Fcountswith.binds (ps := ["row", "letter"]) fun _ _ _ _ _ _ us hl => match us, hl with | [_, _], _ => rfl
  obtain ⟨dsuffixcounts, Fsuffixcounts⟩ := hsuffixcounts.fn
  have gsuffixcounts := PySem.W.mg_of X G hsuffixcounts.at'
  have ksuffixcounts := hsuffixcounts.kp
  have bsuffixcounts := Fsuffixcounts.binds (ps := ["letters", "most"]) fun _ _ _ _ _ _ us hl => match us, hl with | [_, _], _ => rfl
  obtain ⟨dleastexponents, Fleastexponents⟩ := hleastexponents.fn
  have gleastexponents := PySem.W.mg_of X G hleastexponents.at'
  have kleastexponents := hleastexponents.kp
  have bleastexponents := Fleastexponents.binds (ps := ["letters", "counts", "start", "rest"]) fun _ _ _ _ _ _ us hl => match us, hl with | [_, _, _, _], _ => rfl
  obtain ⟨dfirstword, Ffirstword⟩ := hfirstword.fn
  have gfirstword := PySem.W.mg_of X G hfirstword.at'
  have kfirstword := hfirstword.kp
  have bfirstword := Ffirstword.binds (ps := ["letters", "counts", "degree"]) fun _ _ _ _ _ _ us hl => match us, hl with | [_, _, _], _ => rfl
  obtain ⟨dleastrise, Fleastrise⟩ := hleastrise.fn
  have gleastrise := PySem.W.mg_of X G hleastrise.at'
  have kleastrise := hleastrise.kp
  have bleastrise := Fleastrise.binds (ps := ["letter", "counts", "exponent", "rest"]) fun _ _ _ _ _ _ us hl => match us, hl with | [_, _, _, _], _ => rfl
  obtain ⟨dnextword, Fnextword⟩ := hnextword.fn
  have gnextword := PySem.W.mg_of X G hnextword.at'
  have knextword := hnextword.kp
  have bnextword := Fnextword.binds (ps := ["letters", "counts", "word"]) fun _ _ _ _ _ _ us hl => match us, hl with | [_, _, _], _ => rfl
  obtain ⟨dcheckletters, Fcheckletters⟩ := hcheckletters.fn
  have gcheckletters := PySem.W.mg_of X G hcheckletters.at'
  have kcheckletters := hcheckletters.kp
  have bcheckletters := Fcheckletters.binds (ps := ["letters"]) fun _ _ _ _ _ _ us hl => match us, hl with | [_], _ => rfl
  obtain ⟨dcheckbetween, Fcheckbetween⟩ := hcheckbetween.fn
  have gcheckbetween := PySem.W.mg_of X G hcheckbetween.at'
  have kcheckbetween := hcheckbetween.kp
  have bcheckbetween := Fcheckbetween.binds (ps := ["value", "least", "most"]) fun _ _ _ _ _ _ us hl => match us, hl with | [_, _, _], _ => rfl
  obtain ⟨doddindices, Foddindices⟩ := hoddindices.fn
  have goddindices := PySem.W.mg_of X G hoddindices.at'
  have koddindices := hoddindices.kp
  have boddindices := Foddindices.binds (ps := ["letters"]) fun _ _ _ _ _ _ us hl => match us, hl with | [_], _ => rfl
  obtain ⟨devenletters, Fevenletters⟩ := hevenletters.fn
  have gevenletters := PySem.W.mg_of X G hevenletters.at'
  have kevenletters := hevenletters.kp
  have bevenletters := Fevenletters.binds (ps := ["letters"]) fun _ _ _ _ _ _ us hl => match us, hl with | [_], _ => rfl
  obtain ⟨doddletters, Foddletters⟩ := hoddletters.fn
  have goddletters := PySem.W.mg_of X G hoddletters.at'
  have koddletters := hoddletters.kp
  have boddletters := Foddletters.binds (ps := ["letters"]) fun _ _ _ _ _ _ us hl => match us, hl with | [_], _ => rfl
  obtain ⟨dtopword, Ftopword⟩ := htopword.fn
  have gtopword := PySem.W.mg_of X G htopword.at'
  have ktopword := htopword.kp
  have btopword := Ftopword.binds (ps := ["letters"]) fun _ _ _ _ _ _ us hl => match us, hl with | [_], _ => rfl
  obtain ⟨dcountwords, Fcountwords⟩ := hcountwords.fn
  have gcountwords := PySem.W.mg_of X G hcountwords.at'
  have kcountwords := hcountwords.kp
  have bcountwords := Fcountwords.binds (ps := ["letters", "degree"]) fun _ _ _ _ _ _ us hl => match us, hl with | [_, _], _ => rfl
  obtain ⟨dlistedwords, Flistedwords⟩ := hlistedwords.fn
  have glistedwords := PySem.W.mg_of X G hlistedwords.at'
  have klistedwords := hlistedwords.kp
  have blistedwords := Flistedwords.binds (ps := ["letters", "degree"]) fun _ _ _ _ _ _ us hl => match us, hl with | [_, _], _ => rfl
  obtain ⟨dwordcount, Fwordcount⟩ := hwordcount.fn
  have gwordcount := PySem.W.mg_of X G hwordcount.at'
  have kwordcount := hwordcount.kp
  have bwordcount := Fwordcount.binds (ps := ["letters", "degree"]) fun _ _ _ _ _ _ us hl => match us, hl with | [_, _], _ => rfl
  obtain ⟨dwordsof, Fwordsof⟩ := hwordsof.fn
  have gwordsof := PySem.W.mg_of X G hwordsof.at'
  have kwordsof := hwordsof.kp
  have bwordsof := Fwordsof.binds (ps := ["letters", "degree"]) fun _ _ _ _ _ _ us hl => match us, hl with | [_, _], _ => rfl
  obtain ⟨deachword, Feachword⟩ := heachword.fn
  have geachword := PySem.W.mg_of X G heachword.at'
  have keachword := heachword.kp
  have beachword := Feachword.binds (ps := ["letters", "most"]) fun _ _ _ _ _ _ us hl => match us, hl with | [_, _], _ => rfl
  obtain ⟨ddegreeof, Fdegreeof⟩ := hdegreeof.fn
  have gdegreeof := PySem.W.mg_of X G hdegreeof.at'
  have kdegreeof := hdegreeof.kp
  have bdegreeof := Fdegreeof.binds (ps := ["letters", "word"]) fun _ _ _ _ _ _ us hl => match us, hl with | [_, _], _ => rfl
  obtain ⟨dlengthof, Flengthof⟩ := hlengthof.fn
  have glengthof := PySem.W.mg_of X G hlengthof.at'
  have klengthof := hlengthof.kp
  have blengthof := Flengthof.binds (ps := ["word"]) fun _ _ _ _ _ _ us hl => match us, hl with | [_], _ => rfl
  obtain ⟨disexponents, Fisexponents⟩ := hisexponents.fn
  have gisexponents := PySem.W.mg_of X G hisexponents.at'
  have kisexponents := hisexponents.kp
  have bisexponents := Fisexponents.binds (ps := ["value", "size"]) fun _ _ _ _ _ _ us hl => match us, hl with | [_, _], _ => rfl
  obtain ⟨dispassedword, Fispassedword⟩ := hispassedword.fn
  have gispassedword := PySem.W.mg_of X G hispassedword.at'
  have kispassedword := hispassedword.kp
  have bispassedword := Fispassedword.binds (ps := ["letters", "value"]) fun _ _ _ _ _ _ us hl => match us, hl with | [_, _], _ => rfl
  obtain ⟨djoinedwords, Fjoinedwords⟩ := hjoinedwords.fn
  have gjoinedwords := PySem.W.mg_of X G hjoinedwords.at'
  have kjoinedwords := hjoinedwords.kp
  have bjoinedwords := Fjoinedwords.binds (ps := ["odds", "one", "other"]) fun _ _ _ _ _ _ us hl => match us, hl with | [_, _, _], _ => rfl
  obtain ⟨dcheckword, Fcheckword⟩ := hcheckword.fn
  have gcheckword := PySem.W.mg_of X G hcheckword.at'
  have kcheckword := hcheckword.kp
  have bcheckword := Fcheckword.binds (ps := ["letters", "word"]) fun _ _ _ _ _ _ us hl => match us, hl with | [_, _], _ => rfl
  obtain ⟨disword, Fisword⟩ := hisword.fn
  have gisword := PySem.W.mg_of X G hisword.at'
  have kisword := hisword.kp
  have bisword := Fisword.binds (ps := ["letters", "value"]) fun _ _ _ _ _ _ us hl => match us, hl with | [_, _], _ => rfl
  obtain ⟨dworddegree, Fworddegree⟩ := hworddegree.fn
  have gworddegree := PySem.W.mg_of X G hworddegree.at'
  have kworddegree := hworddegree.kp
  have bworddegree := Fworddegree.binds (ps := ["letters", "word"]) fun _ _ _ _ _ _ us hl => match us, hl with | [_, _], _ => rfl
  obtain ⟨dwordlength, Fwordlength⟩ := hwordlength.fn
  have gwordlength := PySem.W.mg_of X G hwordlength.at'
  have kwordlength := hwordlength.kp
  have bwordlength := Fwordlength.binds (ps := ["letters", "word"]) fun _ _ _ _ _ _ us hl => match us, hl with | [_, _], _ => rfl
  obtain ⟨dwordproduct, Fwordproduct⟩ := hwordproduct.fn
  have gwordproduct := PySem.W.mg_of X G hwordproduct.at'
  have kwordproduct := hwordproduct.kp
  have bwordproduct := Fwordproduct.binds (ps := ["letters", "one", "other"]) fun _ _ _ _ _ _ us hl => match us, hl with | [_, _, _], _ => rfl
  obtain ⟨disindex, Fisindex⟩ := hisindex.fn
  have gisindex := PySem.W.mg_of X G hisindex.at'
  have kisindex := hisindex.kp
  have bisindex := Fisindex.binds (ps := ["letters", "value"]) fun _ _ _ _ _ _ us hl => match us, hl with | [_, _], _ => rfl
  obtain ⟨disindices, Fisindices⟩ := hisindices.fn
  have gisindices := PySem.W.mg_of X G hisindices.at'
  have kisindices := hisindices.kp
  have bisindices := Fisindices.binds (ps := ["letters", "value"]) fun _ _ _ _ _ _ us hl => match us, hl with | [_, _], _ => rfl
  obtain ⟨dsortedword, Fsortedword⟩ := hsortedword.fn
  have gsortedword := PySem.W.mg_of X G hsortedword.at'
  have ksortedword := hsortedword.kp
  have bsortedword := Fsortedword.binds (ps := ["letters", "indices"]) fun _ _ _ _ _ _ us hl => match us, hl with | [_, _], _ => rfl
  obtain ⟨dlawmet, Flawmet⟩ := hlawmet.fn
  have glawmet := PySem.W.mg_of X G hlawmet.at'
  have klawmet := hlawmet.kp
  have blawmet := Flawmet.binds (ps := ["call"]) fun _ _ _ _ _ _ us hl => match us, hl with | [_], _ => rfl
  obtain ⟨dlawaremet, Flawaremet⟩ := hlawaremet.fn
  have glawaremet := PySem.W.mg_of X G hlawaremet.at'
  have klawaremet := hlawaremet.kp
  have blawaremet := Flawaremet.binds (ps := ["calls", "due"]) fun _ _ _ _ _ _ us hl => match us, hl with | [_, _], _ => rfl
  obtain ⟨ocunitword, odunitword, dTunitword, kVunitword, docunitword, pmunitword, anunitword, cdvunitword, ctunitword, oslunitword, lunitword, cunitword, oTunitword, munitword, tunitword, eunitword⟩ := hunitword.look
  have Funitword : FunD K "unit_word" "unit_word" sUnit funitword _ := ⟨ocunitword, odunitword, _, kVunitword, docunitword, pmunitword, anunitword, cdvunitword, ctunitword, oslunitword, rfl, lunitword, cunitword⟩
  have gunitword := PySem.W.mg_of X G hunitword.at'
  have kunitword := hunitword.kp
  have bunitword : L2.Binds K (PySem.W.fnOf "unit_word" "unit_word" (defArgs sUnit) (defBody sUnit) (defScope sUnit) (.ref dTunitword) kVunitword docunitword pmunitword anunitword cdvunitword ctunitword) ["letters", "index"] [] := fun s us X' hl => by
    have hl2 : us.length = 2 := by rw [List.length_append] at hl; exact hl
    match us, hl2 with
    | [u0, u1], _ => exact L2.BindsTo.of_looks fun M => L2.looks_items X' tunitword eunitword (.of_pure rfl)
  have bunitword1 : L2.Binds K (PySem.W.fnOf "unit_word" "unit_word" (defArgs sUnit) (defBody sUnit) (defScope sUnit) (.ref dTunitword) kVunitword docunitword pmunitword anunitword cdvunitword ctunitword) ["letters", "index"] [.none] := fun s us X' hl => by
    have hl2 : us.length = 1 := by rw [List.length_append] at hl; exact Nat.succ.inj hl
    match us, hl2 with
    | [u0], _ => exact L2.BindsTo.of_looks fun M => L2.looks_items X' tunitword eunitword (.of_pure rfl)
  refine ⟨[(clawwordsright, Plawwordsright), (clawothersright, Plawothersright)], fun p hp => ?_, PySem.W.fnOf "law" "law" (defArgs sLaw) (defBody sLaw) (defScope sLaw) .none kVL docL pmL anL cdL ctL, spLaw K [(Plawwordsright, qWR), (Plawothersright, qOR)], fun p hp => ?_, fun s u => .of_eq rfl, fun H a ns hH hS => ⟨a, ns, rfl, hS, fun p hp => ?_, fun _ => rfl⟩, fun base _ _ TB => ?_⟩
  · rcases List.mem_cons.mp hp with e | e
    · exact ⟨_, List.mem_cons_self, by rw [e]; exact tlawwordsright⟩
    · exact ⟨_, (List.mem_cons_of_mem _ List.mem_cons_self), by rw [List.mem_singleton.mp e]; exact tlawothersright⟩
  · rcases List.mem_cons.mp hp with e | e
    · rw [e]; exact olawwordsright
    · rw [List.mem_singleton.mp e]; exact olawothersright
  · rcases List.mem_cons.mp hp with e | e
    · rw [e]; exact TabS.nil (hH _ List.mem_cons_self)
    · rw [List.mem_singleton.mp e]; exact TabS.nil (hH _ (List.mem_cons_of_mem _ List.mem_cons_self))
  have ulawwordsright : ∀ p ∈ ([(Plawwordsright, qWR), (Plawothersright, qOR)] : List (Addr × Str)), p.1 = Plawwordsright → p.2 = qWR := fun p hp e => by
    simp only [List.mem_cons, List.not_mem_nil, or_false] at hp
    rcases hp with z | z
    · rw [z]
    · rw [z] at e; exact absurd e.symm n0_1
  have glawwordsright := PySem.W.mg_of X G alawwordsright
  have blawwordsright : L2.Binds K (PySem.W.fnOf "_law_words_right" "_law_words_right" (defArgs sWordsR) (defBody sWordsR) (defScope sWordsR) .none kVlawwordsright doclawwordsright pmlawwordsright anlawwordsright (.ref clawwordsright) ctlawwordsright) ["dice"] [] := .all fun us hl => match us, hl with | [_], _ => rfl
  have ulawothersright : ∀ p ∈ ([(Plawwordsright, qWR), (Plawothersright, qOR)] : List (Addr × Str)), p.1 = Plawothersright → p.2 = qOR := fun p hp e => by
    simp only [List.mem_cons, List.not_mem_nil, or_false] at hp
    rcases hp with z | z
    · rw [z] at e; exact absurd e n0_1
    · rw [z]
  have glawothersright := PySem.W.mg_of X G alawothersright
  have blawothersright : L2.Binds K (PySem.W.fnOf "_law_others_right" "_law_others_right" (defArgs sOthersR) (defBody sOthersR) (defScope sOthersR) .none kVlawothersright doclawothersright pmlawothersright anlawothersright (.ref clawothersright) ctlawothersright) ["dice"] [] := .all fun us hl => match us, hl with | [_], _ => rfl
  have FLAW := fun_mk (st := sLaw) lL cL kL
  have q_ok_roll := ok_roll (P := l.prog) (w := w) (K := K) (mg := mg) (base := base)  Flawroll T
  have q_ok_dice := ok_dice (P := l.prog) (w := w) (K := K) (mg := mg) (base := base)  Flawdice T
  have q_ok_pick := ok_pick (P := l.prog) (w := w) (K := K) (mg := mg) (base := base)  Flawpick T glawroll klawroll blawroll q_ok_roll
  have q_ok_iswhole := ok_iswhole (P := l.prog) (w := w) (K := K) (mg := mg) (base := base)  Fiswhole T
  have q_ok_isint := ok_isint (P := l.prog) (w := w) (K := K) (mg := mg) (base := base)  Fisinteger T giswhole kiswhole biswhole q_ok_iswhole
  have q_ok_betw := ok_betw (P := l.prog) (w := w) (K := K) (mg := mg) (base := base)  Fisbetween gisinteger kisinteger bisinteger q_ok_isint
  have q_ok_isletters := ok_isletters (P := l.prog) (w := w) (K := K) (mg := mg) (base := base)  Fisletters T gisbetween kisbetween bisbetween q_ok_betw
  have q_ok_cntw := ok_cntw (P := l.prog) (w := w) (K := K) (mg := mg) (base := base)  Fcountswith T
  have q_ok_suf := ok_suf (P := l.prog) (w := w) (K := K) (mg := mg) (base := base)  Fsuffixcounts T gcountswith kcountswith bcountswith q_ok_cntw
  have q_ok_least := ok_least (P := l.prog) (w := w) (K := K) (mg := mg) (base := base)  Fleastexponents T
  have q_ok_first := ok_first (P := l.prog) (w := w) (K := K) (mg := mg) (base := base)  Ffirstword T gleastexponents kleastexponents bleastexponents q_ok_least
  have q_ok_rise := ok_rise (P := l.prog) (w := w) (K := K) (mg := mg) (base := base)  Fleastrise T
  have q_ok_next := ok_next (P := l.prog) (w := w) (K := K) (mg := mg) (base := base)  Fnextword T gleastrise kleastrise bleastrise q_ok_rise gleastexponents kleastexponents bleastexponents q_ok_least
  have q_ok_chkl := ok_chkl (P := l.prog) (w := w) (K := K) (mg := mg) (base := base)  Fcheckletters gisletters kisletters bisletters q_ok_isletters
  have q_ok_chkb := ok_chkb (P := l.prog) (w := w) (K := K) (mg := mg) (base := base)  Fcheckbetween gisbetween kisbetween bisbetween q_ok_betw
  have q_ok_odds := ok_odds (P := l.prog) (w := w) (K := K) (mg := mg) (base := base)  Foddindices T
  have q_ok_evenl := ok_evenl (P := l.prog) (w := w) (K := K) (mg := mg) (base := base)  Fevenletters T gcheckletters kcheckletters bcheckletters q_ok_chkl
  have q_ok_oddl := ok_oddl (P := l.prog) (w := w) (K := K) (mg := mg) (base := base)  Foddletters gcheckletters kcheckletters bcheckletters q_ok_chkl goddindices koddindices boddindices q_ok_odds
  have q_ok_topw := ok_topw (P := l.prog) (w := w) (K := K) (mg := mg) (base := base)  Ftopword T gcheckletters kcheckletters bcheckletters q_ok_chkl goddindices koddindices boddindices q_ok_odds
  have q_ok_count := ok_count (P := l.prog) (w := w) (K := K) (mg := mg) (base := base)  Fcountwords gsuffixcounts ksuffixcounts bsuffixcounts q_ok_suf
  have q_ok_listed := ok_listed (P := l.prog) (w := w) (K := K) (mg := mg) (base := base)  Flistedwords gsuffixcounts ksuffixcounts bsuffixcounts q_ok_suf gfirstword kfirstword bfirstword q_ok_first gnextword knextword bnextword q_ok_next
  have q_ok_wcount := ok_wcount (P := l.prog) (w := w) (K := K) (mg := mg) (base := base)  Fwordcount T gcheckletters kcheckletters bcheckletters q_ok_chkl gcheckbetween kcheckbetween bcheckbetween q_ok_chkb gcountwords kcountwords bcountwords q_ok_count
  have q_ok_words := ok_words (P := l.prog) (w := w) (K := K) (mg := mg) (base := base)  Fwordsof T gcheckletters kcheckletters bcheckletters q_ok_chkl gcheckbetween kcheckbetween bcheckbetween q_ok_chkb gcountwords kcountwords bcountwords q_ok_count glistedwords klistedwords blistedwords q_ok_listed
  have q_ok_chklE := ok_chklE (P := l.prog) (w := w) (K := K) (mg := mg) (base := base)  Fcheckletters ER_InvalidLetters gisletters kisletters bisletters q_ok_isletters
  have q_ok_chkbE := ok_chkbE (P := l.prog) (w := w) (K := K) (mg := mg) (base := base)  Fcheckbetween NT_CN gisbetween kisbetween bisbetween q_ok_betw
  have q_ok_evenlBad := ok_evenlBad (P := l.prog) (w := w) (K := K) (mg := mg) (base := base)  Fevenletters gcheckletters kcheckletters bcheckletters q_ok_chklE
  have q_ok_oddlBad := ok_oddlBad (P := l.prog) (w := w) (K := K) (mg := mg) (base := base)  Foddletters gcheckletters kcheckletters bcheckletters q_ok_chklE
  have q_ok_topwBad := ok_topwBad (P := l.prog) (w := w) (K := K) (mg := mg) (base := base)  Ftopword gcheckletters kcheckletters bcheckletters q_ok_chklE
  have q_ok_wordsBad := ok_wordsBad (P := l.prog) (w := w) (K := K) (mg := mg) (base := base)  Fwordsof T gcheckletters kcheckletters bcheckletters q_ok_chklE gcheckbetween kcheckbetween bcheckbetween q_ok_chkbE
  have q_ok_wcountBad := ok_wcountBad (P := l.prog) (w := w) (K := K) (mg := mg) (base := base)  Fwordcount T gcheckletters kcheckletters bcheckletters q_ok_chklE gcheckbetween kcheckbetween bcheckbetween q_ok_chkbE
  have q_ok_eachBad := ok_eachBad (P := l.prog) (w := w) (K := K) (mg := mg) (base := base)  Feachword T gcheckletters kcheckletters bcheckletters q_ok_chklE gcheckbetween kcheckbetween bcheckbetween q_ok_chkbE
  have q_ok_wordsMany := ok_wordsMany (P := l.prog) (w := w) (K := K) (mg := mg) (base := base)  Fwordsof T NT_CM gcheckletters kcheckletters bcheckletters q_ok_chkl gcheckbetween kcheckbetween bcheckbetween q_ok_chkb gcountwords kcountwords bcountwords q_ok_count
  have q_ok_deg := ok_deg (P := l.prog) (w := w) (K := K) (mg := mg) (base := base)  Fdegreeof T
  have q_ok_len := ok_len (P := l.prog) (w := w) (K := K) (mg := mg) (base := base)  Flengthof T
  have q_ok_isexp := ok_isexp (P := l.prog) (w := w) (K := K) (mg := mg) (base := base)  Fisexponents T giswhole kiswhole biswhole q_ok_iswhole
  have q_ok_ispass := ok_ispass (P := l.prog) (w := w) (K := K) (mg := mg) (base := base)  Fispassedword T gisexponents kisexponents bisexponents q_ok_isexp gdegreeof kdegreeof bdegreeof q_ok_deg
  have q_ok_oddsW := ok_oddsW (P := l.prog) (w := w) (K := K) (mg := mg) (base := base)  Foddindices T
  have q_ok_unit := ok_unit (P := l.prog) (w := w) (K := K) (mg := mg) (base := base)  Funitword T
  have q_ok_join := ok_join (P := l.prog) (w := w) (K := K) (mg := mg) (base := base)  Fjoinedwords T
  have q_ok_chkw := ok_chkw (P := l.prog) (w := w) (K := K) (mg := mg) (base := base)  Fcheckword gcheckletters kcheckletters bcheckletters q_ok_chkl gispassedword kispassedword bispassedword q_ok_ispass
  have q_ok_isword := ok_isword (P := l.prog) (w := w) (K := K) (mg := mg) (base := base)  Fisword gcheckletters kcheckletters bcheckletters q_ok_chkl gispassedword kispassedword bispassedword q_ok_ispass
  have q_ok_wdeg := ok_wdeg (P := l.prog) (w := w) (K := K) (mg := mg) (base := base)  Fworddegree gcheckword kcheckword bcheckword q_ok_chkw gdegreeof kdegreeof bdegreeof q_ok_deg
  have q_ok_wlen := ok_wlen (P := l.prog) (w := w) (K := K) (mg := mg) (base := base)  Fwordlength gcheckword kcheckword bcheckword q_ok_chkw glengthof klengthof blengthof q_ok_len
  have q_ok_wprod := ok_wprod (P := l.prog) (w := w) (K := K) (mg := mg) (base := base)  Fwordproduct gcheckword kcheckword bcheckword q_ok_chkw goddindices koddindices boddindices q_ok_oddsW gjoinedwords kjoinedwords bjoinedwords q_ok_join
  have q_ok_isix := ok_isix (P := l.prog) (w := w) (K := K) (mg := mg) (base := base)  Fisindex T gisbetween kisbetween bisbetween q_ok_betw
  have q_ok_isixs := ok_isixs (P := l.prog) (w := w) (K := K) (mg := mg) (base := base)  Fisindices T gisindex kisindex bisindex q_ok_isix
  have q_ok_sort := ok_sort (P := l.prog) (w := w) (K := K) (mg := mg) (base := base)  Fsortedword gcheckletters kcheckletters bcheckletters q_ok_chkl gisindices kisindices bisindices q_ok_isixs goddindices koddindices boddindices q_ok_oddsW gjoinedwords kjoinedwords bjoinedwords q_ok_join gunitword kunitword bunitword bunitword1 q_ok_unit
  have q_ok_chkwE := ok_chkwE (P := l.prog) (w := w) (K := K) (mg := mg) (base := base)  Fcheckword ER_InvalidWord gcheckletters kcheckletters bcheckletters q_ok_chklE gispassedword kispassedword bispassedword q_ok_ispass
  have q_ok_wdegBad := ok_wdegBad (P := l.prog) (w := w) (K := K) (mg := mg) (base := base)  Fworddegree gcheckword kcheckword bcheckword q_ok_chkwE
  have q_ok_wlenBad := ok_wlenBad (P := l.prog) (w := w) (K := K) (mg := mg) (base := base)  Fwordlength gcheckword kcheckword bcheckword q_ok_chkwE
  have q_ok_wprodBad := ok_wprodBad (P := l.prog) (w := w) (K := K) (mg := mg) (base := base)  Fwordproduct gcheckword kcheckword bcheckword q_ok_chkwE
  have q_ok_topwOp := ok_topwOp (P := l.prog) (w := w) (K := K) (mg := mg) (base := base)  Ftopword T ER_InvalidOperation gcheckletters kcheckletters bcheckletters q_ok_chkl goddindices koddindices boddindices q_ok_odds
  have q_ok_iswordBad := ok_iswordBad (P := l.prog) (w := w) (K := K) (mg := mg) (base := base)  Fisword gcheckletters kcheckletters bcheckletters q_ok_chklE
  have q_ok_sortBadL := ok_sortBadL (P := l.prog) (w := w) (K := K) (mg := mg) (base := base)  Fsortedword gcheckletters kcheckletters bcheckletters q_ok_chklE
  have q_ok_met := ok_met (P := l.prog) (w := w) (K := K) (mg := mg) (base := base) (k := 9) Flawmet T CS NT_CN NT_CM
  have q_ok_are := ok_are (P := l.prog) (w := w) (K := K) (mg := mg) (base := base) (k := 9) Flawaremet glawmet klawmet blawmet q_ok_met
  have q_ok_isixE := ok_isixE (P := l.prog) (w := w) (K := K) (mg := mg) (base := base)  Fisindex T gisbetween kisbetween bisbetween q_ok_betw
  have q_ok_isixsE := ok_isixsE (P := l.prog) (w := w) (K := K) (mg := mg) (base := base)  Fisindices T gisindex kisindex bisindex q_ok_isixE
  have q_ok_sortOp := ok_sortOp (P := l.prog) (w := w) (K := K) (mg := mg) (base := base)  Fsortedword ER_InvalidOperation gcheckletters kcheckletters bcheckletters q_ok_chklE gisindices kisindices bisindices q_ok_isixsE
  have q_ok_wr := ok_wr (P := l.prog) (w := w) (K := K) (mg := mg) (base := base)  List.mem_cons_self ulawwordsright llawwordsright clawwordsright_ (TB _ List.mem_cons_self) glawpick klawpick blawpick q_ok_pick glawmet klawmet blawmet q_ok_met glawaremet klawaremet blawaremet q_ok_are gworddegree kworddegree bworddegree q_ok_wdegBad q_ok_wdeg gwordlength kwordlength bwordlength q_ok_wlenBad q_ok_wlen gevenletters kevenletters bevenletters q_ok_evenlBad goddletters koddletters boddletters q_ok_oddlBad gtopword ktopword btopword q_ok_topwBad q_ok_topwOp q_ok_topw gwordproduct kwordproduct bwordproduct q_ok_wprodBad gisword kisword bisword q_ok_iswordBad q_ok_isword
  have q_ok_or := ok_or (P := l.prog) (w := w) (K := K) (mg := mg) (base := base)  (List.mem_cons_of_mem _ List.mem_cons_self) ulawothersright llawothersright clawothersright_ (TB _ (List.mem_cons_of_mem _ List.mem_cons_self)) T u_CL_StopIteration u_CN_StopIteration glawpick klawpick blawpick q_ok_pick glawaremet klawaremet blawaremet q_ok_are gwordsof kwordsof bwordsof q_ok_wordsBad q_ok_wordsMany gwordcount kwordcount bwordcount q_ok_wcountBad q_ok_wcount gsortedword ksortedword bsortedword q_ok_sortBadL q_ok_sortOp q_ok_sort geachword keachword beachword q_ok_eachBad
  exact ok_law (P := l.prog) (w := w) (K := K) (mg := mg) (base := base)  FLAW T glawdice klawdice blawdice q_ok_dice glawwordsright klawwordsright blawwordsright q_ok_wr glawothersright klawothersright blawothersright q_ok_or gwordsof kwordsof bwordsof q_ok_words
end K6
open PySem PySem.W PyProof.Rows
set_option maxRecDepth 100000 in
set_option maxHeartbeats 0 in
theorem PySem.Challenge.cw_stepletters_k05_errors_of_words_holds : PySem.Challenge.rw_stepletters_k05_errors_of_words.Holds := by
  w_on; o_law; k_head; (case hw => w_witness2)
  k_fill
  refine K6.walk_tabs (l := PySem.Challenge.rw_stepletters_k05_errors_of_words) (n := 63) (k := 14) (x := "script") (xs := ["_law_words_right", "_law_others_right"]) rfl (by decide) rfl ⟨rfl, by decide, by decide⟩ (fun w h Y => PySem.W.km_in_of Y) (by rfl) ?F
  case F =>
    intro w mg fa h KX G hmg
    refine' K6.all_mk (Plawwordsright := 368) (Plawothersright := 375) KX G hmg ?aCL ?mCL ?aCW ?mCW ?aCO ?mCO ?aCN ?nCN ?aCM ?nCM ?s_CL_CL ?s_CW_CL ?s_CW_CW ?s_CO_CL ?s_CO_CW ?s_CO_CO ?s_CN_CL ?s_CN_CW ?s_CN_CO ?s_CN_CN ?s_CM_CL ?s_CM_CW ?s_CM_CO ?s_CM_CN ?s_CM_CM ?u_CL_StopIteration ?u_CN_StopIteration ?z_int ?z_bool ?z_tuple ?z_list ?z_isinstance ?z_len ?z_abs ?z_max ?z_min ?z_range ?z_sum ?z_all ?z_enumerate ?z_reversed ?z_zip ?z_repr ?y__LIMIT ?y_MAX_LETTERS ?y_MAX_LETTER ?y_MAX_DEGREE ?y_MAX_WORDS ?y__MAX_PASSED ?y__MAX_INDICES ?hlawroll ?hlawdice ?hlawpick ?hiswhole ?hisinteger ?hisbetween ?hisletters ?hcountswith ?hsuffixcounts ?hleastexponents ?hfirstword ?hleastrise ?hnextword ?hcheckletters ?hcheckbetween ?hoddindices ?hevenletters ?hoddletters ?htopword ?hcountwords ?hlistedwords ?hwordcount ?hwordsof ?heachword ?hdegreeof ?hlengthof ?hisexponents ?hispassedword ?hjoinedwords ?hcheckword ?hisword ?hworddegree ?hwordlength ?hwordproduct ?hisindex ?hisindices ?hsortedword ?hlawmet ?hlawaremet ?hunitword ?alawwordsright ?llawwordsright ?clawwordsright_ ?klawwordsright ?tlawwordsright ?olawwordsright ?alawothersright ?llawothersright ?clawothersright_ ?klawothersright ?tlawothersright ?olawothersright ?n0_1 ?aL ?lL ?cL ?kL
    (case aCL => refine' K6.cl_of ?a ?k ?e ?t ?i; (case a => k_is); (case k => k_is); (case e => k_is); (case t => k_is); (case i => k_is))
    (case mCL => kernel_rfl)
    (case aCW => refine' K6.cl_of ?a ?k ?e ?t ?i; (case a => k_is); (case k => k_is); (case e => k_is); (case t => k_is); (case i => k_is))
    (case mCW => kernel_rfl)
    (case aCO => refine' K6.cl_of ?a ?k ?e ?t ?i; (case a => k_is); (case k => k_is); (case e => k_is); (case t => k_is); (case i => k_is))
    (case mCO => kernel_rfl)
    (case aCN => refine' K6.cl_of ?a ?k ?e ?t ?i; (case a => k_is); (case k => k_is); (case e => k_is); (case t => k_is); (case i => k_is))
    (case nCN => refine' K6.ofInvalidNumber ?j ?l ?u ?m ?v ?d ?s ?g ?n ?e ?t; (case j => k_is); (case l => k_is); (case u => k_is); (case m => kernel_rfl); (case v => kernel_rfl); (case d => k_is); (case s => k_is); (case g => k_is); (case n => k_is); (case e => k_is); (case t => k_is))
    (case aCM => refine' K6.cl_of ?a ?k ?e ?t ?i; (case a => k_is); (case k => k_is); (case e => k_is); (case t => k_is); (case i => k_is))
    (case nCM => refine' K6.ofTooMany ?j ?l ?u ?m ?v ?d ?s ?g ?n ?e ?t; (case j => k_is); (case l => k_is); (case u => k_is); (case m => kernel_rfl); (case v => kernel_rfl); (case d => k_is); (case s => k_is); (case g => k_is); (case n => k_is); (case e => k_is); (case t => k_is))
    (case s_CL_CL => first | rfl | k_is)
    (case s_CW_CL => first | rfl | k_is)
    (case s_CW_CW => first | rfl | k_is)
    (case s_CO_CL => first | rfl | k_is)
    (case s_CO_CW => first | rfl | k_is)
    (case s_CO_CO => first | rfl | k_is)
    (case s_CN_CL => first | rfl | k_is)
    (case s_CN_CW => first | rfl | k_is)
    (case s_CN_CO => first | rfl | k_is)
    (case s_CN_CN => first | rfl | k_is)
    (case s_CM_CL => first | rfl | k_is)
    (case s_CM_CW => first | rfl | k_is)
    (case s_CM_CO => first | rfl | k_is)
    (case s_CM_CN => first | rfl | k_is)
    (case s_CM_CM => first | rfl | k_is)
    (case u_CL_StopIteration => first | rfl | k_is)
    (case u_CN_StopIteration => first | rfl | k_is)
    (case z_int => k_is)
    (case z_bool => k_is)
    (case z_tuple => k_is)
    (case z_list => k_is)
    (case z_isinstance => k_is)
    (case z_len => k_is)
    (case z_abs => k_is)
    (case z_max => k_is)
    (case z_min => k_is)
    (case z_range => k_is)
    (case z_sum => k_is)
    (case z_all => k_is)
    (case z_enumerate => k_is)
    (case z_reversed => k_is)
    (case z_zip => k_is)
    (case z_repr => k_is)
    (case y__LIMIT => exact ⟨_, PySem.W.mg_of KX G (by k_is)⟩)
    (case y_MAX_LETTERS => exact ⟨_, PySem.W.mg_of KX G (by k_is)⟩)
    (case y_MAX_LETTER => exact ⟨_, PySem.W.mg_of KX G (by k_is)⟩)
    (case y_MAX_DEGREE => exact ⟨_, PySem.W.mg_of KX G (by k_is)⟩)
    (case y_MAX_WORDS => exact ⟨_, PySem.W.mg_of KX G (by k_is)⟩)
    (case y__MAX_PASSED => exact ⟨_, PySem.W.mg_of KX G (by k_is)⟩)
    (case y__MAX_INDICES => exact ⟨_, PySem.W.mg_of KX G (by k_is)⟩)
    (case hlawroll => refine' K6.has_of ?a ?l ?c ?k; (case a => k_is); (case l => k_is); (case c => k_is); (case k => k_is))
    (case hlawdice => refine' K6.has_of ?a ?l ?c ?k; (case a => k_is); (case l => k_is); (case c => k_is); (case k => k_is))
    (case hlawpick => refine' K6.has_of ?a ?l ?c ?k; (case a => k_is); (case l => k_is); (case c => k_is); (case k => k_is))
    (case hiswhole => refine' K6.has_of ?a ?l ?c ?k; (case a => k_is); (case l => k_is); (case c => k_is); (case k => k_is))
    (case hisinteger => refine' K6.has_of ?a ?l ?c ?k; (case a => k_is); (case l => k_is); (case c => k_is); (case k => k_is))
    (case hisbetween => refine' K6.has_of ?a ?l ?c ?k; (case a => k_is); (case l => k_is); (case c => k_is); (case k => k_is))
    (case hisletters => refine' K6.has_of ?a ?l ?c ?k; (case a => k_is); (case l => k_is); (case c => k_is); (case k => k_is))
    (case hcountswith => refine' K6.has_of ?a ?l ?c ?k; (case a => k_is); (case l => k_is); (case c => k_is); (case k => k_is))
    (case hsuffixcounts => refine' K6.has_of ?a ?l ?c ?k; (case a => k_is); (case l => k_is); (case c => k_is); (case k => k_is))
    (case hleastexponents => refine' K6.has_of ?a ?l ?c ?k; (case a => k_is); (case l => k_is); (case c => k_is); (case k => k_is))
    (case hfirstword => refine' K6.has_of ?a ?l ?c ?k; (case a => k_is); (case l => k_is); (case c => k_is); (case k => k_is))
    (case hleastrise => refine' K6.has_of ?a ?l ?c ?k; (case a => k_is); (case l => k_is); (case c => k_is); (case k => k_is))
    (case hnextword => refine' K6.has_of ?a ?l ?c ?k; (case a => k_is); (case l => k_is); (case c => k_is); (case k => k_is))
    (case hcheckletters => refine' K6.has_of ?a ?l ?c ?k; (case a => k_is); (case l => k_is); (case c => k_is); (case k => k_is))
    (case hcheckbetween => refine' K6.has_of ?a ?l ?c ?k; (case a => k_is); (case l => k_is); (case c => k_is); (case k => k_is))
    (case hoddindices => refine' K6.has_of ?a ?l ?c ?k; (case a => k_is); (case l => k_is); (case c => k_is); (case k => k_is))
    (case hevenletters => refine' K6.has_of ?a ?l ?c ?k; (case a => k_is); (case l => k_is); (case c => k_is); (case k => k_is))
    (case hoddletters => refine' K6.has_of ?a ?l ?c ?k; (case a => k_is); (case l => k_is); (case c => k_is); (case k => k_is))
    (case htopword => refine' K6.has_of ?a ?l ?c ?k; (case a => k_is); (case l => k_is); (case c => k_is); (case k => k_is))
    (case hcountwords => refine' K6.has_of ?a ?l ?c ?k; (case a => k_is); (case l => k_is); (case c => k_is); (case k => k_is))
    (case hlistedwords => refine' K6.has_of ?a ?l ?c ?k; (case a => k_is); (case l => k_is); (case c => k_is); (case k => k_is))
    (case hwordcount => refine' K6.has_of ?a ?l ?c ?k; (case a => k_is); (case l => k_is); (case c => k_is); (case k => k_is))
    (case hwordsof => refine' K6.has_of ?a ?l ?c ?k; (case a => k_is); (case l => k_is); (case c => k_is); (case k => k_is))
    (case heachword => refine' K6.has_of ?a ?l ?c ?k; (case a => k_is); (case l => k_is); (case c => k_is); (case k => k_is))
    (case hdegreeof => refine' K6.has_of ?a ?l ?c ?k; (case a => k_is); (case l => k_is); (case c => k_is); (case k => k_is))
    (case hlengthof => refine' K6.has_of ?a ?l ?c ?k; (case a => k_is); (case l => k_is); (case c => k_is); (case k => k_is))
    (case hisexponents => refine' K6.has_of ?a ?l ?c ?k; (case a => k_is); (case l => k_is); (case c => k_is); (case k => k_is))
    (case hispassedword => refine' K6.has_of ?a ?l ?c ?k; (case a => k_is); (case l => k_is); (case c => k_is); (case k => k_is))
    (case hjoinedwords => refine' K6.has_of ?a ?l ?c ?k; (case a => k_is); (case l => k_is); (case c => k_is); (case k => k_is))
    (case hcheckword => refine' K6.has_of ?a ?l ?c ?k; (case a => k_is); (case l => k_is); (case c => k_is); (case k => k_is))
    (case hisword => refine' K6.has_of ?a ?l ?c ?k; (case a => k_is); (case l => k_is); (case c => k_is); (case k => k_is))
    (case hworddegree => refine' K6.has_of ?a ?l ?c ?k; (case a => k_is); (case l => k_is); (case c => k_is); (case k => k_is))
    (case hwordlength => refine' K6.has_of ?a ?l ?c ?k; (case a => k_is); (case l => k_is); (case c => k_is); (case k => k_is))
    (case hwordproduct => refine' K6.has_of ?a ?l ?c ?k; (case a => k_is); (case l => k_is); (case c => k_is); (case k => k_is))
    (case hisindex => refine' K6.has_of ?a ?l ?c ?k; (case a => k_is); (case l => k_is); (case c => k_is); (case k => k_is))
    (case hisindices => refine' K6.has_of ?a ?l ?c ?k; (case a => k_is); (case l => k_is); (case c => k_is); (case k => k_is))
    (case hsortedword => refine' K6.has_of ?a ?l ?c ?k; (case a => k_is); (case l => k_is); (case c => k_is); (case k => k_is))
    (case hlawmet => refine' K6.has_of ?a ?l ?c ?k; (case a => k_is); (case l => k_is); (case c => k_is); (case k => k_is))
    (case hlawaremet => refine' K6.has_of ?a ?l ?c ?k; (case a => k_is); (case l => k_is); (case c => k_is); (case k => k_is))
    (case hunitword => refine' K6.hasd_of ?a ?l ?c ?k ?t ?d; (case a => k_is); (case l => k_is); (case c => k_is); (case k => k_is); (case t => k_is); (case d => rfl))
    (case alawwordsright => k_is)
    (case llawwordsright => k_is)
    (case clawwordsright_ => k_is)
    (case klawwordsright => k_is)
    (case tlawwordsright => kernel_rfl)
    (case olawwordsright => kernel_rfl)
    (case alawothersright => k_is)
    (case llawothersright => k_is)
    (case clawothersright_ => k_is)
    (case klawothersright => k_is)
    (case tlawothersright => kernel_rfl)
    (case olawothersright => kernel_rfl)
    (case n0_1 => decide)
    (case aL => k_is)
    (case lL => k_is)
    (case cL => k_is)
    (case kL => k_is)
