import PyProof.Rows.All
import Wide.All
import OpenK.AllK
import Wide.FinOn
import PyProof.EqAt
import PyProof.EqKinds
import PyProof.TupleCall
import HandS.ForMost
import HandS.ForExc
import HandS.Wide
import HandS.Gcd
import HandS.FStr
import HandS.IsInst
import HandS.Lambda
import HandS.EndTab
import HandS.CallLocal
import HandS.CallSlots
import HandS.RaiseMore
import PySem.Challenge.RW_stepletters_k37_errors_of_degrees
import HandS.Zip
import HandS.NoneIn
import HandS.TupAny
import HandS.TupMul
import HandS.Walk
import HandS.Rev
import HandS.Style
import HandS.Steps
import HandS.SetFor
import HandS.TupLe
import KE.GoesMore
import KE.KTupSum
import HandS.Deep
import HandS.Conv
import HandS.RevRange
import HandS.SortOrd
import HandS.SortRule
import HandS.SortInts
import KE.KExcInit
import HandS.WordsExc
import HandS.Defaults
import PyProof.DictCompW
import KE.KEqDict
import KE.KMathG
import HandS.DictComp
import HandS.DictTup
import HandS.DictSubView
import HandS.SetBool
import HandS.TupSets
import HandS.Strs
import KE.DatumOrd
import HandS.TupLen
set_option Elab.async false
set_option linter.all false
set_option maxRecDepth 100000
set_option maxHeartbeats 4000000
set_option exponentiation.threshold 5000
namespace K9
/-! ### numbers of words, by series -/
def sh (a : Nat) (f : Nat → Nat) (d : Nat) : Nat := if a ≤ d then f (d - a) else 0
def opO (a : Nat) (f : Nat → Nat) (d : Nat) : Nat := f d + sh a f d
def opE (a : Nat) (f : Nat → Nat) (d : Nat) : Nat := if h : 1 ≤ a ∧ a ≤ d then f d + opE a f (d - a) else f d
termination_by d
decreasing_by omega
theorem opE_eq {a : Nat} (h : 1 ≤ a) (f : Nat → Nat) (d : Nat) : opE a f d = f d + sh a (opE a f) d := by
  rw [opE]
  unfold sh
  by_cases c : a ≤ d
  · rw [dif_pos ⟨h, c⟩, if_pos c]
  · rw [dif_neg (fun z => c z.2), if_neg c, Nat.add_zero]
theorem opE_uniq {a : Nat} (h : 1 ≤ a) {f g : Nat → Nat} (e : ∀ d, g d = f d + sh a g d) : ∀ d, g d = opE a f d := by
  intro d
  induction d using Nat.strongRecOn with
  | ind d ih =>
    rw [e d, opE_eq h]
    unfold sh
    by_cases c : a ≤ d
    · rw [if_pos c, if_pos c, ih (d - a) (by omega)]
    · rw [if_neg c, if_neg c]
theorem sh_comm (a b : Nat) (f : Nat → Nat) (d : Nat) : sh a (sh b f) d = sh b (sh a f) d := by
  unfold sh
  by_cases c : a ≤ d
  · by_cases e : b ≤ d
    · by_cases g : a + b ≤ d
      · rw [if_pos c, if_pos e, if_pos (by omega), if_pos (by omega), Nat.sub_right_comm]
      · rw [if_pos c, if_pos e, if_neg (by omega), if_neg (by omega)]
    · rw [if_pos c, if_neg e, if_neg (by omega)]
  · by_cases e : b ≤ d
    · rw [if_neg c, if_pos e, if_neg (by omega)]
    · rw [if_neg c, if_neg e]
theorem sh_add (a : Nat) (f g : Nat → Nat) (d : Nat) : sh a (fun e => f e + g e) d = sh a f d + sh a g d := by
  unfold sh
  split
  · rfl
  · rfl
theorem sh_congr {a : Nat} {f g : Nat → Nat} {d : Nat} (h : ∀ e, e ≤ d - a → f e = g e) : sh a f d = sh a g d := by
  unfold sh
  split
  · exact h _ (Nat.le_refl _)
  · rfl
def op (h : Nat) (f : Nat → Nat) : Nat → Nat := if h % 2 = 1 then opO h f else opE h f
theorem oo (a b : Nat) (f : Nat → Nat) : opO a (opO b f) = opO b (opO a f) := funext fun d => by
  show f d + sh b f d + sh a (fun e => f e + sh b f e) d = f d + sh a f d + sh b (fun e => f e + sh a f e) d
  rw [sh_add, sh_add, sh_comm a b]
  omega
theorem oe {b : Nat} (hb : 1 ≤ b) (a : Nat) (f : Nat → Nat) : opO a (opE b f) = opE b (opO a f) := funext fun d => by
  refine opE_uniq hb (fun d => ?_) d
  have e : ∀ d, opE b f d = f d + sh b (opE b f) d := opE_eq hb f
  show opE b f d + sh a (opE b f) d = f d + sh a f d + sh b (fun e => opE b f e + sh a (opE b f) e) d
  rw [sh_add, sh_comm b a]
  have e2 : sh a (opE b f) d = sh a (fun e => f e + sh b (opE b f) e) d := sh_congr fun x _ => e x
  rw [sh_add] at e2
  have := e d
  omega
theorem ee {a b : Nat} (ha : 1 ≤ a) (hb : 1 ≤ b) (f : Nat → Nat) : opE a (opE b f) = opE b (opE a f) := funext fun d => by
  refine opE_uniq hb (fun d => ?_) d
  induction d using Nat.strongRecOn with
  | ind d ih =>
    have e1 := opE_eq ha (opE b f) d
    have e2 := opE_eq hb f d
    have e3 := opE_eq ha f d
    have e4 : sh a (opE a (opE b f)) d = sh a (fun e => opE a f e + sh b (opE a (opE b f)) e) d := by
      unfold sh
      by_cases c : a ≤ d
      · rw [if_pos c, if_pos c]
        exact ih (d - a) (by omega)
      · rw [if_neg c, if_neg c]
    rw [sh_add, sh_comm a b] at e4
    have e5 : sh b (opE a (opE b f)) d = sh b (fun e => opE b f e + sh a (opE a (opE b f)) e) d := sh_congr fun x _ => opE_eq ha (opE b f) x
    rw [sh_add] at e5
    omega
theorem op_comm {a b : Nat} (ha : 1 ≤ a) (hb : 1 ≤ b) (f : Nat → Nat) : op a (op b f) = op b (op a f) := by
  unfold op
  by_cases c : a % 2 = 1
  · by_cases d : b % 2 = 1
    · rw [if_pos c, if_pos d, if_pos d, if_pos c, oo]
    · rw [if_pos c, if_neg d, if_neg d, if_pos c, oe hb]
  · by_cases d : b % 2 = 1
    · rw [if_neg c, if_pos d, if_pos d, if_neg c, oe ha]
    · rw [if_neg c, if_neg d, if_neg d, if_neg c, ee ha hb]
def dl (d : Nat) : Nat := if d = 0 then 1 else 0
def cnt (L : List Int) : Nat → Nat := L.foldr (fun h f => op h.toNat f) dl
theorem cnt_cons (h : Int) (L : List Int) : cnt (h :: L) = op h.toNat (cnt L) := rfl
abbrev Pos1 (L : List Int) : Prop := ∀ h ∈ L, (1 : Int) ≤ h
theorem cnt_perm {L M : List Int} (p : L.Perm M) (h : Pos1 L) : cnt L = cnt M := by
  induction p with
  | nil => rfl
  | cons x p ih => rw [cnt_cons, cnt_cons, ih fun y hy => h y (List.mem_cons_of_mem _ hy)]
  | swap x y l =>
    have hx := h x (by simp)
    have hy := h y (by simp)
    rw [cnt_cons, cnt_cons, cnt_cons, cnt_cons, op_comm (by omega) (by omega)]
  | trans p q ih1 ih2 => rw [ih1 h, ih2 fun y hy => h y (p.mem_iff.mpr hy)]
/-- letter by letter from the front -/
theorem cnt_foldl : ∀ (L : List Int) (M : List Int), Pos1 L → Pos1 M → L.foldl (fun f h => op h.toNat f) (cnt M) = cnt (L ++ M)
  | [], M, _, _ => rfl
  | h :: L, M, hL, hM => by
    have h1 := hL h List.mem_cons_self
    have p : (L ++ h :: M).Perm (h :: L ++ M) := List.perm_middle
    rw [← cnt_perm p fun y hy => ?_]
    · rw [← cnt_foldl L (h :: M) (fun y hy => hL y (List.mem_cons_of_mem _ hy)) (fun y hy => by
        rcases List.mem_cons.mp hy with e | e
        · rw [e]
          exact h1
        · exact hM y e)]
      rfl
    · rcases List.mem_append.mp hy with e | e
      · exact hL y (List.mem_cons_of_mem _ e)
      · rcases List.mem_cons.mp e with e | e
        · rw [e]
          exact h1
        · exact hM y e
/-! ### all words of a degree -/
def mx (h : Int) (d : Nat) : Nat := if h.toNat % 2 = 1 then min 1 (d / h.toNat) else d / h.toNat
def wds : List Int → Nat → List (List Int)
  | [], d => if d = 0 then [[]] else []
  | h :: L, d => (List.range (mx h d + 1)).flatMap fun e => (wds L (d - e * h.toNat)).map fun w => (e : Int) :: w
theorem wds_cons (h : Int) (L : List Int) (d : Nat) : wds (h :: L) d = (List.range (mx h d + 1)).flatMap fun e => (wds L (d - e * h.toNat)).map fun w => (e : Int) :: w := rfl
theorem sum_even (a : Nat) (ha : 1 ≤ a) (f : Nat → Nat) : ∀ d : Nat, ((List.range (d / a + 1)).map fun e => f (d - e * a)).sum = opE a f d := by
  intro d
  induction d using Nat.strongRecOn with
  | ind d ih =>
    rw [opE_eq ha]
    unfold sh
    by_cases c : a ≤ d
    · rw [if_pos c, ← ih (d - a) (by omega)]
      have e : d / a = (d - a) / a + 1 := by
        rw [Nat.div_eq d a, if_pos ⟨by omega, c⟩]
      rw [e, List.range_succ_eq_map, List.map_cons, List.sum_cons, List.map_map]
      have z : d - 0 * a = d := by omega
      rw [z]
      congr 2
      refine List.map_congr_left fun x _ => ?_
      show f (d - (x + 1) * a) = f (d - a - x * a)
      rw [Nat.add_mul, Nat.one_mul, Nat.add_comm, Nat.sub_add_eq]
    · rw [if_neg c, Nat.div_eq_of_lt (by omega)]
      show (f (d - 0 * a) + 0) = f d + 0
      rw [Nat.zero_mul, Nat.sub_zero]
theorem wds_len : ∀ (L : List Int) (d : Nat), Pos1 L → (wds L d).length = cnt L d
  | [], d, _ => by
    show (if d = 0 then [[]] else [] : List (List Int)).length = if d = 0 then 1 else 0
    split <;> rfl
  | h :: L, d, hp => by
    have ih := fun d => wds_len L d fun y hy => hp y (List.mem_cons_of_mem _ hy)
    have h1 := hp h List.mem_cons_self
    rw [cnt_cons]
    unfold wds op mx
    rw [List.length_flatMap]
    have e : (fun e : Nat => ((wds L (d - e * h.toNat)).map fun w => (e : Int) :: w).length) = fun e : Nat => cnt L (d - e * h.toNat) := funext fun e => by rw [List.length_map, ih]
    rw [e]
    by_cases c : h.toNat % 2 = 1
    · rw [if_pos c, if_pos c]
      unfold opO sh
      by_cases q : h.toNat ≤ d
      · have z : min 1 (d / h.toNat) = 1 := by
          have : 1 ≤ d / h.toNat := (Nat.le_div_iff_mul_le (by omega)).mpr (by omega)
          omega
        rw [z, if_pos q]
        show (cnt L (d - 0 * h.toNat) + (cnt L (d - 1 * h.toNat) + 0)) = _
        rw [Nat.zero_mul, Nat.one_mul, Nat.sub_zero, Nat.add_zero]
      · have z : min 1 (d / h.toNat) = 0 := by
          rw [Nat.div_eq_of_lt (by omega)]
          rfl
        rw [z, if_neg q]
        show (cnt L (d - 0 * h.toNat) + 0) = _
        rw [Nat.zero_mul, Nat.sub_zero]
    · rw [if_neg c, if_neg c]
      exact sum_even h.toNat (by omega) (cnt L) d
/-- the degree of a word -/
def dg : List Int → List Int → Int
  | h :: L, e :: w => h * e + dg L w
  | _, _ => 0
/-- its exponents are as told -/
structure Wo (L w : List Int) (d : Nat) : Prop where
  len : w.length = L.length
  deg : dg L w = d
theorem wds_mem : ∀ {L : List Int} {d : Nat} {w : List Int}, Pos1 L → w ∈ wds L d → Wo L w d ∧ ∀ e ∈ w, 0 ≤ e ∧ e ≤ d
  | [], d, w, _, h => by
    unfold wds at h
    split at h
    · rw [List.mem_singleton.mp h]
      rename_i e
      rw [e]
      exact ⟨⟨rfl, rfl⟩, fun _ z => absurd z List.not_mem_nil⟩
    · cases h
  | h :: L, d, w, hp, hw => by
    have h1 := hp h List.mem_cons_self
    unfold wds at hw
    obtain ⟨e, he, hw⟩ := List.mem_flatMap.mp hw
    obtain ⟨v, hv, rfl⟩ := List.mem_map.mp hw
    obtain ⟨⟨a, b⟩, c⟩ := wds_mem (fun y hy => hp y (List.mem_cons_of_mem _ hy)) hv
    have em := List.mem_range.mp he
    have ed : e * h.toNat ≤ d := by
      have : e ≤ d / h.toNat := by
        unfold mx at em
        split at em <;> omega
      exact (Nat.le_div_iff_mul_le (by omega)).mp this
    have e1 : e ≤ d := Nat.le_trans (Nat.le_mul_of_pos_right e (by omega)) ed
    refine ⟨⟨by rw [List.length_cons, List.length_cons, a], ?_⟩, fun x hx => ?_⟩
    · show h * (e : Int) + dg L v = d
      rw [b]
      have z : h * (e : Int) = ((e * h.toNat : Nat) : Int) := by
        rw [Int.natCast_mul, Int.mul_comm, Int.toNat_of_nonneg (by omega)]
      rw [z]
      omega
    · rcases List.mem_cons.mp hx with q | q
      · rw [q]
        omega
      · have := c x q
        omega
/-- the least one -/
def fstE (h : Int) (L : List Int) (d : Nat) : Nat := ((List.range (mx h d + 1)).find? fun e => decide (0 < cnt L (d - e * h.toNat))).getD 0
def least : List Int → Nat → List Int
  | [], _ => []
  | h :: L, d => (fstE h L d : Int) :: least L (d - fstE h L d * h.toNat)
theorem head_flatMap {α β : Type} (f : α → List β) : ∀ l : List α, (l.flatMap f).head? = (l.find? fun x => decide (0 < (f x).length)).bind fun x => (f x).head?
  | [] => rfl
  | x :: l => by
    rw [List.flatMap_cons, List.find?_cons]
    cases e : f x with
    | nil =>
      rw [List.nil_append, head_flatMap f l]
      rfl
    | cons y r => simp [e]
theorem wds_head : ∀ {L : List Int} {d : Nat}, Pos1 L → (wds L d).head? = if 0 < cnt L d then some (least L d) else none
  | [], d, _ => by
    by_cases c : d = 0
    · subst c
      rfl
    · have e1 : wds [] d = [] := if_neg c
      have e2 : cnt [] d = 0 := if_neg c
      rw [e1, e2]
      rfl
  | h :: L, d, hp => by
    have hp' : Pos1 L := fun y hy => hp y (List.mem_cons_of_mem _ hy)
    have ih := fun d => wds_head (L := L) (d := d) hp'
    have eq : (fun e : Nat => decide (0 < ((wds L (d - e * h.toNat)).map fun w => (e : Int) :: w).length)) = fun e : Nat => decide (0 < cnt L (d - e * h.toNat)) := funext fun e => by rw [List.length_map, wds_len L _ hp']
    have q : (wds (h :: L) d).head? = ((List.range (mx h d + 1)).find? fun e => decide (0 < cnt L (d - e * h.toNat))).bind fun e : Nat => ((wds L (d - e * h.toNat)).map fun w => (e : Int) :: w).head? := by
      rw [wds_cons, head_flatMap, eq]
    cases c : (List.range (mx h d + 1)).find? fun e => decide (0 < cnt L (d - e * h.toNat)) with
    | none =>
      rw [c] at q
      have z : wds (h :: L) d = [] := by
        cases y : wds (h :: L) d with
        | nil => rfl
        | cons a r => rw [y] at q; cases q
      have n : cnt (h :: L) d = 0 := by rw [← wds_len _ _ hp, z]; rfl
      rw [z, n, if_neg (Nat.lt_irrefl 0)]
      rfl
    | some e =>
      have hc : 0 < cnt L (d - e * h.toNat) := of_decide_eq_true (List.find?_some (p := fun e : Nat => decide (0 < cnt L (d - e * h.toNat))) c)
      rw [c] at q
      have q2 : (wds (h :: L) d).head? = some ((e : Int) :: least L (d - e * h.toNat)) := by
        rw [q]
        show ((wds L (d - e * h.toNat)).map fun w => (e : Int) :: w).head? = _
        rw [List.head?_map, ih, if_pos hc]
        rfl
      have f : fstE h L d = e := by
        unfold fstE
        rw [c]
        rfl
      have n : 0 < cnt (h :: L) d := by
        rw [← wds_len _ _ hp]
        cases y : wds (h :: L) d with
        | nil => rw [y] at q2; cases q2
        | cons a r => exact Nat.succ_pos _
      rw [q2, if_pos n]
      show _ = some ((fstE h L d : Int) :: least L (d - fstE h L d * h.toNat))
      rw [f]
/-! ### the next word -/
/-- how far an exponent can rise -/
def mr (h : Int) (e : Int) (r : Nat) : Nat := if h.toNat % 2 = 1 then min (r / h.toNat) (1 - e).toNat else r / h.toNat
def rise (h : Int) (L : List Int) (e : Int) (r : Nat) : Option Nat := (List.range (mr h e r)).find? fun k => decide (0 < cnt L (r - (k + 1) * h.toNat))
def nxt : List Int → List Int → Option (List Int)
  | h :: L, e :: w => match nxt L w with
    | some v => some (e :: v)
    | none => (rise h L e (dg L w).toNat).map fun k => (e + (k + 1 : Nat)) :: least L ((dg L w).toNat - (k + 1) * h.toNat)
  | _, _ => none
def Good {α : Type} (f : α → Option α) (A : List α) (o : Option α) : Prop := ∀ (j : Nat) (w : α), A[j]? = some w → f w = (A[j + 1]?).or o
theorem Good.app {α : Type} {f : α → Option α} {A B : List α} {o : Option α} (h1 : Good f A (B.head?.or o)) (h2 : Good f B o) : Good f (A ++ B) o := by
  intro j w hj
  by_cases c : j < A.length
  · rw [List.getElem?_append_left c] at hj
    rw [h1 j w hj]
    by_cases c2 : j + 1 < A.length
    · rw [List.getElem?_append_left c2, List.getElem?_eq_getElem c2]
      rfl
    · rw [List.getElem?_append_right (by omega), List.getElem?_eq_none (by omega), show j + 1 - A.length = 0 by omega]
      show B.head?.or o = (B[0]?).or o
      rw [List.head?_eq_getElem?]
  · rw [List.getElem?_append_right (by omega)] at hj
    rw [h2 _ w hj, List.getElem?_append_right (by omega), show j + 1 - A.length = j - A.length + 1 by omega]
theorem find_shift {p : Nat → Bool} {a : Nat} : ∀ (n : Nat), ((List.range' a n).find? p) = ((List.range n).find? fun k => p (a + k)).map (a + ·) := by
  intro n
  rw [List.range'_eq_map_range, List.find?_map]
  rfl
/-- the blocks from e on -/
theorem good_blocks {h : Int} {L : List Int} {d : Nat} (hp : Pos1 (h :: L)) (ih : ∀ r, Good (nxt L) (wds L r) none) : ∀ (n e : Nat), e + n = mx h d + 1 → Good (nxt (h :: L)) ((List.range' e n).flatMap fun e => (wds L (d - e * h.toNat)).map fun w => (e : Int) :: w) none
  | 0, e, _ => by
    intro j w hj
    cases hj
  | n + 1, e, he => by
    have hp' : Pos1 L := fun y hy => hp y (List.mem_cons_of_mem _ hy)
    have h1 := hp h List.mem_cons_self
    rw [List.range'_succ, List.flatMap_cons]
    refine Good.app ?_ (good_blocks hp ih n (e + 1) (by omega))
    rw [Option.or_none]
    intro j w hj
    rw [List.getElem?_map] at hj
    obtain ⟨v, hv, rfl⟩ := Option.map_eq_some_iff.mp hj
    obtain ⟨⟨a, b⟩, _⟩ := wds_mem hp' (List.mem_of_getElem? hv)
    have q := ih _ j v hv
    rw [Option.or_none] at q
    have em : e ≤ mx h d := by omega
    have ed : e ≤ d / h.toNat := by
      unfold mx at em
      split at em <;> omega
    have eh : e * h.toNat ≤ d := (Nat.le_div_iff_mul_le (by omega)).mp ed
    show (match nxt L v with
      | some v => some ((e : Int) :: v)
      | none => (rise h L e (dg L v).toNat).map fun k => ((e : Int) + (k + 1 : Nat)) :: least L ((dg L v).toNat - (k + 1) * h.toNat)) = _
    rw [q, b, List.getElem?_map]
    cases c : (wds L (d - e * h.toNat))[j + 1]? with
    | some u => rfl
    | none =>
      show (rise h L e ((d - e * h.toNat : Nat) : Int).toNat).map _ = _
      rw [show (((d - e * h.toNat : Nat) : Int)).toNat = d - e * h.toNat by omega]
      rw [Option.map_none, Option.none_or, head_flatMap]
      have eq : (fun e : Nat => decide (0 < ((wds L (d - e * h.toNat)).map fun w => (e : Int) :: w).length)) = fun e : Nat => decide (0 < cnt L (d - e * h.toNat)) := funext fun e => by rw [List.length_map, wds_len L _ hp']
      rw [eq, find_shift]
      have em2 : mr h e (d - e * h.toNat) = n := by
        have dv : (d - e * h.toNat) / h.toNat = d / h.toNat - e := by
          rw [Nat.mul_comm]
          exact Nat.sub_mul_div d h.toNat e
        unfold mr
        unfold mx at he
        rw [dv]
        split at he
        · rename_i o
          rw [if_pos o]
          omega
        · rename_i o
          rw [if_neg o]
          omega
      have pq : (fun k : Nat => decide (0 < cnt L (d - e * h.toNat - (k + 1) * h.toNat))) = fun k : Nat => decide (0 < cnt L (d - (e + 1 + k) * h.toNat)) := funext fun k => by
        rw [show d - e * h.toNat - (k + 1) * h.toNat = d - (e + 1 + k) * h.toNat by rw [Nat.sub_sub, ← Nat.add_mul, show e + (k + 1) = e + 1 + k by omega]]
      unfold rise
      rw [em2, pq]
      cases z : (List.range n).find? fun k : Nat => decide (0 < cnt L (d - (e + 1 + k) * h.toNat)) with
      | none => rfl
      | some k =>
        have hc : 0 < cnt L (d - (e + 1 + k) * h.toNat) := of_decide_eq_true (List.find?_some (p := fun k : Nat => decide (0 < cnt L (d - (e + 1 + k) * h.toNat))) z)
        show some (((e : Int) + (k + 1 : Nat)) :: least L (d - e * h.toNat - (k + 1) * h.toNat)) = ((wds L (d - (e + 1 + k) * h.toNat)).map fun w => ((e + 1 + k : Nat) : Int) :: w).head?
        rw [List.head?_map, wds_head hp', if_pos hc]
        show _ = some (((e + 1 + k : Nat) : Int) :: least L (d - (e + 1 + k) * h.toNat))
        rw [show d - e * h.toNat - (k + 1) * h.toNat = d - (e + 1 + k) * h.toNat by rw [Nat.sub_sub, ← Nat.add_mul, show e + (k + 1) = e + 1 + k by omega], show (e : Int) + ((k + 1 : Nat) : Int) = ((e + 1 + k : Nat) : Int) by omega]
theorem nxt_good : ∀ (L : List Int) (d : Nat), Pos1 L → Good (nxt L) (wds L d) none
  | [], d, _ => by
    intro j w hj
    by_cases c : d = 0
    · have e : wds [] d = [[]] := if_pos c
      rw [e] at hj ⊢
      cases j with
      | zero =>
        cases hj
        rfl
      | succ j => cases hj
    · have e : wds [] d = [] := if_neg c
      rw [e] at hj
      cases hj
  | h :: L, d, hp => by
    have q := good_blocks (h := h) (L := L) (d := d) hp (fun r => nxt_good L r fun y hy => hp y (List.mem_cons_of_mem _ hy)) (mx h d + 1) 0 (by omega)
    rw [wds_cons, List.range_eq_range']
    exact q
/-! ### the law's listing -/
def rch (L : List Int) (d : Nat) : Bool := decide (0 < cnt L d)
def lstep (h : Int) (L : List Int) (ps : List (List Int × Nat)) : List (List Int × Nat) := ps.flatMap fun q => ((List.range (mx h q.2 + 1)).filter fun e => rch L (q.2 - e * h.toNat)).map fun e : Nat => (q.1 ++ [(e : Int)], q.2 - e * h.toNat)
def lwk : List Int → List (List Int × Nat) → List (List Int × Nat)
  | [], ps => ps
  | h :: L, ps => lwk L (lstep h L ps)
theorem flatMap_filter {α β : Type} {p : α → Bool} {f : α → List β} : ∀ l : List α, (∀ x ∈ l, p x = false → f x = []) → (l.filter p).flatMap f = l.flatMap f
  | [], _ => rfl
  | x :: l, h => by
    have ih := flatMap_filter (p := p) (f := f) l fun y hy => h y (List.mem_cons_of_mem _ hy)
    rw [List.filter_cons]
    cases c : p x with
    | true => rw [if_pos rfl, List.flatMap_cons, List.flatMap_cons, ih]
    | false => rw [if_neg Bool.false_ne_true, List.flatMap_cons, h x List.mem_cons_self c, List.nil_append, ih]
theorem rch_false {L : List Int} {d : Nat} (hp : Pos1 L) (h : rch L d = false) : wds L d = [] := by
  have := of_decide_eq_false h
  rw [← wds_len L d hp] at this
  exact List.eq_nil_of_length_eq_zero (by omega)
theorem lwk_words : ∀ (L : List Int) (ps : List (List Int × Nat)), Pos1 L → (∀ q ∈ ps, rch L q.2 = true) → (lwk L ps).map (·.1) = ps.flatMap fun q => (wds L q.2).map (q.1 ++ ·)
  | [], ps, _, hr => by
    show ps.map (·.1) = _
    induction ps with
    | nil => rfl
    | cons q ps ih =>
      have h0 := of_decide_eq_true (hr q List.mem_cons_self)
      have z : q.2 = 0 := by
        cases c : q.2 with
        | zero => rfl
        | succ n =>
          rw [c] at h0
          have : cnt [] (n + 1) = 0 := rfl
          omega
      rw [List.map_cons, List.flatMap_cons, ih fun y hy => hr y (List.mem_cons_of_mem _ hy), z]
      show q.1 :: _ = [q.1 ++ []] ++ _
      rw [List.append_nil]
      rfl
  | h :: L, ps, hp, hr => by
    have hp' : Pos1 L := fun y hy => hp y (List.mem_cons_of_mem _ hy)
    show (lwk L (lstep h L ps)).map (·.1) = _
    rw [lwk_words L (lstep h L ps) hp' fun q hq => ?_]
    · unfold lstep
      rw [List.flatMap_assoc]
      congr 1
      funext q
      rw [List.flatMap_map, wds_cons, List.map_flatMap]
      rw [flatMap_filter]
      · congr 1
        funext e
        rw [List.map_map]
        refine List.map_congr_left fun w _ => ?_
        show q.1 ++ [(e : Int)] ++ w = q.1 ++ ((e : Int) :: w)
        rw [List.append_assoc]
        rfl
      · intro e _ he
        rw [rch_false hp' he]
        rfl
    · obtain ⟨q', _, hm⟩ := List.mem_flatMap.mp hq
      obtain ⟨e, he, rfl⟩ := List.mem_map.mp hm
      exact (List.mem_filter.mp he).2
def lfirst (L : List Int) (d : Nat) : List (List Int × Nat) := if rch L d = true then [([], d)] else []
theorem lw_words {L : List Int} {d : Nat} (hp : Pos1 L) : (lwk L (lfirst L d)).map (·.1) = wds L d := by
  rw [lwk_words L _ hp]
  · unfold lfirst
    cases c : rch L d with
    | true =>
      rw [if_pos rfl, List.flatMap_cons]
      show ((wds L d).map fun w => [] ++ w) ++ [] = _
      rw [List.append_nil]
      exact List.map_id' _
    | false =>
      rw [if_neg Bool.false_ne_true, rch_false hp c]
      rfl
  · intro q hq
    unfold lfirst at hq
    split at hq
    · rw [List.mem_singleton.mp hq]
      assumption
    · cases hq
/-! ### the highest word of odd letters -/
def sn (L : List Int) : Nat := (L.map Int.toNat).sum
theorem cnt_pos_cons {h : Int} {L : List Int} (o : h.toNat % 2 = 1) (d : Nat) : cnt (h :: L) d = cnt L d + (if h.toNat ≤ d then cnt L (d - h.toNat) else 0) := by
  rw [cnt_cons]
  unfold op
  rw [if_pos o]
  rfl
theorem cnt_high : ∀ {L : List Int}, (∀ h ∈ L, (h.toNat) % 2 = 1) → ∀ d, sn L < d → cnt L d = 0
  | [], _, d, h => by
    have e : (0 : Nat) < d := h
    exact if_neg (by omega)
  | h :: L, o, d, hd => by
    have ih := cnt_high (L := L) fun y hy => o y (List.mem_cons_of_mem _ hy)
    have e : sn (h :: L) = h.toNat + sn L := by
      unfold sn
      rw [List.map_cons, List.sum_cons]
    rw [e] at hd
    rw [cnt_pos_cons (o h List.mem_cons_self), ih d (by omega)]
    split
    · rw [ih _ (by omega)]
    · rfl
theorem wds_top : ∀ {L : List Int}, Pos1 L → (∀ h ∈ L, (h.toNat) % 2 = 1) → wds L (sn L) = [List.replicate L.length 1]
  | [], _, _ => rfl
  | h :: L, hp, o => by
    have hp' : Pos1 L := fun y hy => hp y (List.mem_cons_of_mem _ hy)
    have o' : ∀ h ∈ L, (h.toNat) % 2 = 1 := fun y hy => o y (List.mem_cons_of_mem _ hy)
    have h1 := hp h List.mem_cons_self
    have ih := wds_top hp' o'
    have e : sn (h :: L) = h.toNat + sn L := by
      unfold sn
      rw [List.map_cons, List.sum_cons]
    have z : mx h (h.toNat + sn L) = 1 := by
      have : 1 ≤ (h.toNat + sn L) / h.toNat := (Nat.le_div_iff_mul_le (by omega)).mpr (by omega)
      unfold mx
      rw [if_pos (o h List.mem_cons_self)]
      omega
    have n : wds L (h.toNat + sn L - 0 * h.toNat) = [] := by
      refine List.eq_nil_of_length_eq_zero ?_
      rw [wds_len L _ hp']
      exact cnt_high o' _ (by omega)
    have m : wds L (h.toNat + sn L - 1 * h.toNat) = [List.replicate L.length 1] := by
      rw [← ih]
      congr 1
      omega
    rw [e, wds_cons, z]
    show ((wds L (h.toNat + sn L - 0 * h.toNat)).map _ ++ ((wds L (h.toNat + sn L - 1 * h.toNat)).map _ ++ [])) = _
    rw [n, m]
    rfl
theorem cnt_top {L : List Int} (hp : Pos1 L) (o : ∀ h ∈ L, (h.toNat) % 2 = 1) : cnt L (sn L) = 1 := by
  rw [← wds_len L _ hp, wds_top hp o]
  rfl
theorem sn_sum : ∀ {L : List Int}, Pos1 L → ((sn L : Nat) : Int) = L.sum
  | [], _ => rfl
  | h :: L, hp => by
    have ih := sn_sum (L := L) fun y hy => hp y (List.mem_cons_of_mem _ hy)
    have := hp h List.mem_cons_self
    unfold sn at ih ⊢
    rw [List.map_cons, List.sum_cons, List.sum_cons]
    omega
/-- no words of even letters in odd degrees -/
theorem dg_even : ∀ {L w : List Int}, (∀ h ∈ L, h % 2 = 0) → dg L w % 2 = 0
  | [], _, _ => rfl
  | _ :: _, [], _ => rfl
  | h :: L, e :: w, o => by
    have ih := dg_even (L := L) (w := w) fun y hy => o y (List.mem_cons_of_mem _ hy)
    have h0 := o h List.mem_cons_self
    show (h * e + dg L w) % 2 = 0
    have : (h * e) % 2 = 0 := by
      rw [Int.mul_emod, h0, Int.zero_mul]
      rfl
    omega
theorem wds_evens {L : List Int} {d : Nat} (hp : Pos1 L) (o : ∀ h ∈ L, h % 2 = 0) (hd : d % 2 = 1) : wds L d = [] := by
  cases c : wds L d with
  | nil => rfl
  | cons w r =>
    have m := (wds_mem hp (show w ∈ wds L d by rw [c]; exact List.mem_cons_self)).1.deg
    have := dg_even (w := w) o
    omega
/-- the law's series: odd letters first, then even ones -/
theorem cnt_series {L : List Int} (hp : Pos1 L) : (L.filter fun h => decide (h % 2 = 0)).foldl (fun f h => op h.toNat f) ((L.filter fun h => decide (h % 2 = 1)).foldl (fun f h => op h.toNat f) dl) = cnt L := by
  have e1 := cnt_foldl (L.filter fun h => decide (h % 2 = 1)) [] (fun y hy => hp y (List.mem_filter.mp hy).1) fun _ z => absurd z List.not_mem_nil
  have e2 := cnt_foldl (L.filter fun h => decide (h % 2 = 0)) (L.filter fun h => decide (h % 2 = 1)) (fun y hy => hp y (List.mem_filter.mp hy).1) fun y hy => hp y (List.mem_filter.mp hy).1
  rw [List.append_nil] at e1
  have e0 : cnt [] = dl := rfl
  rw [e0] at e1
  rw [e1, e2]
  refine cnt_perm ?_ fun y hy => ?_
  · have q := List.filter_append_perm (fun h : Int => decide (h % 2 = 0)) L
    have z : (L.filter fun h => !decide (h % 2 = 0)) = L.filter fun h => decide (h % 2 = 1) := by
      refine List.filter_congr fun x _ => ?_
      rw [Bool.eq_iff_iff, Bool.not_eq_true', decide_eq_false_iff_not, decide_eq_true_eq]
      omega
    rw [z] at q
    exact q
  · rcases List.mem_append.mp hy with z | z <;> exact hp y (List.mem_filter.mp z).1
end K9
namespace K9
/-! ### lists of ints in the order of tuples -/
def ltL : List Int → List Int → Bool
  | [], [] => false
  | [], _ :: _ => true
  | _ :: _, [] => false
  | a :: l, b :: m => if a = b then ltL l m else decide (a < b)
theorem ltL_asym : ∀ x y : List Int, ltL x y = true → ltL y x = false
  | [], [], h => by cases h
  | [], _ :: _, _ => rfl
  | _ :: _, [], h => by cases h
  | a :: l, b :: m, h => by
    unfold ltL at h ⊢
    by_cases e : a = b
    · rw [if_pos e] at h
      rw [if_pos e.symm]
      exact ltL_asym l m h
    · rw [if_neg e, decide_eq_true_eq] at h
      rw [if_neg (fun q => e q.symm), decide_eq_false_iff_not]
      omega
theorem ltL_tr : ∀ x y z : List Int, ltL y x = false → ltL z y = false → ltL z x = false
  | [], [], [], _, _ => rfl
  | [], [], _ :: _, _, _ => rfl
  | [], _ :: _, _ :: _, _, _ => rfl
  | [], _ :: _, [], _, h => by cases h
  | _ :: _, [], _, h, _ => by cases h
  | _ :: _, _ :: _, [], _, h => by cases h
  | a :: x, b :: y, c :: z, h1, h2 => by
    unfold ltL at h1 h2 ⊢
    by_cases e : b = a
    · rw [if_pos e] at h1
      by_cases f : c = b
      · rw [if_pos f] at h2
        rw [if_pos (f.trans e)]
        exact ltL_tr x y z h1 h2
      · rw [if_neg f, decide_eq_false_iff_not] at h2
        rw [if_neg (fun q => f (q.trans e.symm)), decide_eq_false_iff_not]
        omega
    · rw [if_neg e, decide_eq_false_iff_not] at h1
      by_cases f : c = b
      · rw [if_neg (fun q => e (f.symm.trans q)), decide_eq_false_iff_not]
        omega
      · rw [if_neg f, decide_eq_false_iff_not] at h2
        rw [if_neg (by omega), decide_eq_false_iff_not]
        omega
theorem ltL_anti : ∀ x y : List Int, ltL x y = false → ltL y x = false → x = y
  | [], [], _, _ => rfl
  | [], _ :: _, h, _ => by cases h
  | _ :: _, [], _, h => by cases h
  | a :: x, b :: y, h1, h2 => by
    unfold ltL at h1 h2
    by_cases e : a = b
    · rw [if_pos e] at h1
      rw [if_pos e.symm] at h2
      rw [e, ltL_anti x y h1 h2]
    · rw [if_neg e, decide_eq_false_iff_not] at h1
      rw [if_neg (fun q => e q.symm), decide_eq_false_iff_not] at h2
      omega
abbrev SrL (l : List (List Int)) : Prop := l.Pairwise fun x y => ltL y x = false
theorem srl_uniq : ∀ {l m : List (List Int)}, SrL l → SrL m → l.Perm m → l = m
  | [], m, _, _, h => (List.Perm.eq_nil h.symm).symm
  | x :: l, [], _, _, h => absurd h.length_eq (by simp)
  | x :: l, y :: m, hl, hm, h => by
    have e : x = y := by
      rcases List.mem_cons.mp (h.mem_iff.mp (List.mem_cons_self (a := x) (l := l))) with q | q
      · exact q
      · rcases List.mem_cons.mp (h.mem_iff.mpr (List.mem_cons_self (a := y) (l := m))) with r | r
        · exact r.symm
        · exact ltL_anti x y ((List.pairwise_cons.mp hm).1 x q) ((List.pairwise_cons.mp hl).1 y r)
    subst e
    rw [srl_uniq (List.pairwise_cons.mp hl).2 (List.pairwise_cons.mp hm).2 h.cons_inv]
def ins (x : List Int) : List (List Int) → List (List Int)
  | [] => [x]
  | y :: l => if ltL y x = true then y :: ins x l else x :: y :: l
def srt (l : List (List Int)) : List (List Int) := l.foldr ins []
theorem ins_perm (x : List Int) : ∀ l, (ins x l).Perm (x :: l)
  | [] => List.Perm.refl _
  | y :: l => by
    unfold ins
    split
    · exact ((ins_perm x l).cons y).trans (List.Perm.swap x y l)
    · exact List.Perm.refl _
theorem srt_perm : ∀ l, (srt l).Perm l
  | [] => List.Perm.refl _
  | x :: l => (ins_perm x (srt l)).trans ((srt_perm l).cons x)
theorem ins_sr (x : List Int) : ∀ {l}, SrL l → SrL (ins x l)
  | [], _ => List.pairwise_singleton _ _
  | y :: l, h => by
    obtain ⟨h1, h2⟩ := List.pairwise_cons.mp h
    unfold ins
    split
    · rename_i c
      refine List.pairwise_cons.mpr ⟨fun z hz => ?_, ins_sr x h2⟩
      rcases List.mem_cons.mp ((ins_perm x l).mem_iff.mp hz) with e | e
      · rw [e]
        exact ltL_asym _ _ c
      · exact h1 z e
    · rename_i c
      have c' : ltL y x = false := by cases q : ltL y x <;> simp_all
      refine List.pairwise_cons.mpr ⟨fun z hz => ?_, h⟩
      rcases List.mem_cons.mp hz with e | e
      · rw [e]
        exact c'
      · exact ltL_tr x y z c' (h1 z e)
theorem srt_sr : ∀ l, SrL (srt l)
  | [] => List.Pairwise.nil
  | x :: l => ins_sr x (srt_sr l)
theorem srt_uniq {l m : List (List Int)} (h1 : SrL m) (h2 : m.Perm l) : m = srt l := srl_uniq h1 (srt_sr l) (h2.trans (srt_perm l).symm)
theorem srt_nil_cons (t : List (List Int)) : srt ([] :: t) = [] :: srt t := by
  show ins [] (srt t) = _
  cases srt t with
  | nil => rfl
  | cons y l =>
    unfold ins
    rw [if_neg]
    cases y <;> (intro h; cases h)
/-! ### ascending lists of indices -/
structure Asc (n : Int) (L : List Int) : Prop where
  up : L.Pairwise (· < ·)
  inn : ∀ i ∈ L, 0 ≤ i ∧ i < n
theorem asc_uniq : ∀ {L M : List Int}, L.Pairwise (· < ·) → M.Pairwise (· < ·) → (∀ i, i ∈ L ↔ i ∈ M) → L = M
  | [], [], _, _, _ => rfl
  | [], b :: M, _, _, h => absurd ((h b).mpr List.mem_cons_self) List.not_mem_nil
  | a :: L, [], _, _, h => absurd ((h a).mp List.mem_cons_self) List.not_mem_nil
  | a :: L, b :: M, hl, hm, h => by
    obtain ⟨l1, l2⟩ := List.pairwise_cons.mp hl
    obtain ⟨m1, m2⟩ := List.pairwise_cons.mp hm
    have e : a = b := by
      rcases List.mem_cons.mp ((h a).mp List.mem_cons_self) with q | q
      · exact q
      · rcases List.mem_cons.mp ((h b).mpr List.mem_cons_self) with r | r
        · exact r.symm
        · have := m1 a q
          have := l1 b r
          omega
    subst e
    rw [asc_uniq l2 m2 fun i => ⟨fun hi => ?_, fun hi => ?_⟩]
    · have := l1 i hi
      rcases List.mem_cons.mp ((h i).mp (List.mem_cons_of_mem _ hi)) with q | q
      · omega
      · exact q
    · have := m1 i hi
      rcases List.mem_cons.mp ((h i).mpr (List.mem_cons_of_mem _ hi)) with q | q
      · omega
      · exact q
def pow : Nat → List (List Int)
  | 0 => [[]]
  | n + 1 => pow n ++ (pow n).map (· ++ [(n : Int)])
theorem Asc.nil (n : Int) : Asc n [] := ⟨List.Pairwise.nil, fun _ h => absurd h List.not_mem_nil⟩
theorem Asc.more {n m : Int} {L : List Int} (h : Asc n L) (k : n ≤ m) : Asc m L := ⟨h.up, fun i hi => by have := h.inn i hi; omega⟩
theorem Asc.snoc {n : Nat} {L : List Int} (h : Asc n L) : Asc (n + 1 : Nat) (L ++ [(n : Int)]) := by
  refine ⟨List.pairwise_append.mpr ⟨h.up, List.pairwise_singleton _ _, fun a ha b hb => ?_⟩, fun i hi => ?_⟩
  · rw [List.mem_singleton.mp hb]
    exact (h.inn a ha).2
  · rcases List.mem_append.mp hi with q | q
    · have := h.inn i q
      omega
    · rw [List.mem_singleton.mp q]
      omega
theorem mem_pow : ∀ {n : Nat} {L : List Int}, L ∈ pow n ↔ Asc n L
  | 0, L => by
    refine ⟨fun h => ?_, fun h => ?_⟩
    · rw [List.mem_singleton.mp h]
      exact Asc.nil _
    · cases L with
      | nil => exact List.mem_cons_self
      | cons a L =>
        have := h.inn a List.mem_cons_self
        omega
  | n + 1, L => by
    show L ∈ pow n ++ (pow n).map (· ++ [(n : Int)]) ↔ _
    rw [List.mem_append, List.mem_map]
    refine ⟨fun h => ?_, fun h => ?_⟩
    · rcases h with h | ⟨M, h, rfl⟩
      · exact (mem_pow.mp h).more (by omega)
      · exact (mem_pow.mp h).snoc
    · by_cases c : ∃ M, L = M ++ [(n : Int)]
      · obtain ⟨M, rfl⟩ := c
        obtain ⟨u1, _, u3⟩ := List.pairwise_append.mp h.up
        refine .inr ⟨M, mem_pow.mpr ⟨u1, fun i hi => ?_⟩, rfl⟩
        have h1 := h.inn i (List.mem_append_left _ hi)
        have h2 : i < (n : Int) := u3 i hi (n : Int) List.mem_cons_self
        exact ⟨h1.1, h2⟩
      · refine .inl (mem_pow.mpr ⟨h.up, fun i hi => ?_⟩)
        have h1 := h.inn i hi
        refine ⟨h1.1, ?_⟩
        by_cases e : i = (n : Int)
        · exfalso
          subst e
          obtain ⟨A, B, rfl⟩ := List.append_of_mem hi
          cases B with
          | nil => exact c ⟨A, rfl⟩
          | cons b B =>
            have h2 := (List.pairwise_append.mp h.up).2.1
            have h3 : (n : Int) < b := (List.pairwise_cons.mp h2).1 b List.mem_cons_self
            have h4 := h.inn b (by simp)
            omega
        · omega
theorem pow_nodup : ∀ n, (pow n).Nodup
  | 0 => by
    show List.Pairwise _ [[]]
    exact List.pairwise_singleton _ _
  | n + 1 => by
    refine List.nodup_append.mpr ⟨pow_nodup n, ?_, fun x hx y hy e => ?_⟩
    · refine List.pairwise_map.mpr ((pow_nodup n).imp fun {a b} h q => h ?_)
      exact (List.append_inj q (by have := congrArg List.length q; simp at this; exact this)).1
    · obtain ⟨M, _, rfl⟩ := List.mem_map.mp hy
      have h1 := (mem_pow.mp hx).inn (n : Int) (by rw [e]; simp)
      omega
theorem pow_cons : ∀ n, pow n = [] :: (pow n).tail
  | 0 => rfl
  | n + 1 => by
    show pow n ++ _ = [] :: (pow n ++ _).tail
    rw [pow_cons n]
    rfl
theorem pow_len : ∀ n, (pow n).length = 2 ^ n
  | 0 => rfl
  | n + 1 => by
    show (pow n ++ _).length = _
    rw [List.length_append, List.length_map, pow_len n, Nat.pow_succ]
    omega
def lotsOf (n : Nat) : List (List Int) := srt (pow n).tail
theorem srt_pow (n : Nat) : srt (pow n) = [] :: lotsOf n := by
  rw [pow_cons n, srt_nil_cons]
  rfl
theorem mem_lots {n : Nat} {L : List Int} : L ∈ lotsOf n ↔ L ≠ [] ∧ Asc n L := by
  have nd := pow_nodup n
  have e := pow_cons n
  unfold lotsOf
  rw [(srt_perm _).mem_iff, ← mem_pow]
  refine ⟨fun h => ⟨fun q => ?_, ?_⟩, fun h => ?_⟩
  · rw [e] at nd
    subst q
    exact (List.nodup_cons.mp nd).1 h
  · rw [e]
    exact List.mem_cons_of_mem _ h
  · have h2 := h.2
    rw [e] at h2
    rcases List.mem_cons.mp h2 with q | q
    · exact absurd q h.1
    · exact q
theorem lots_nodup (n : Nat) : (lotsOf n).Nodup := by
  have nd := pow_nodup n
  rw [pow_cons n] at nd
  exact (srt_perm _).nodup_iff.mpr (List.nodup_cons.mp nd).2
theorem lots_sr (n : Nat) : SrL (lotsOf n) := srt_sr _
/-! ### sums of at least two -/
def stp (D : List Int) (t : List Bool) (k : Nat) : Bool := D.any fun d => decide (d < (k : Int)) && t.getD ((k : Int) - d).toNat false
def tab (D : List Int) : Nat → List Bool
  | 0 => []
  | n + 1 => tab D n ++ [D.contains (n : Int) || stp D (tab D n) n]
def made (D : List Int) (k : Nat) : Bool := stp D (tab D k) k
def rchD (D : List Int) (k : Nat) : Bool := D.contains (k : Int) || made D k
theorem tab_len (D : List Int) : ∀ n, (tab D n).length = n
  | 0 => rfl
  | n + 1 => by
    show (tab D n ++ _).length = _
    rw [List.length_append, tab_len D n]
    rfl
theorem tab_get (D : List Int) : ∀ {n j : Nat}, j < n → (tab D n)[j]? = some (rchD D j)
  | n + 1, j, h => by
    show (tab D n ++ _)[j]? = _
    by_cases c : j < n
    · rw [List.getElem?_append_left (by rw [tab_len]; exact c)]
      exact tab_get D c
    · have e : j = n := by omega
      subst e
      rw [List.getElem?_append_right (by rw [tab_len]; omega), tab_len, Nat.sub_self]
      rfl
theorem tab_getD (D : List Int) {n j : Nat} (h : j < n) : (tab D n).getD j false = rchD D j := by
  rw [List.getD_eq_getElem?_getD, tab_get D h]
  rfl
theorem made_iff {D : List Int} {k : Nat} (h1 : ∀ d ∈ D, 1 ≤ d) : made D k = true ↔ ∃ d ∈ D, d < (k : Int) ∧ rchD D ((k : Int) - d).toNat = true := by
  unfold made stp
  rw [List.any_eq_true]
  refine ⟨fun ⟨d, hd, h⟩ => ?_, fun ⟨d, hd, h2, h⟩ => ⟨d, hd, ?_⟩⟩
  · rw [Bool.and_eq_true, decide_eq_true_eq] at h
    have := h1 d hd
    rw [tab_getD D (by omega)] at h
    exact ⟨d, hd, h.1, h.2⟩
  · have := h1 d hd
    rw [Bool.and_eq_true, decide_eq_true_eq, tab_getD D (by omega)]
    exact ⟨h2, h⟩
theorem tab_mem {D D' : List Int} (h : ∀ d, d ∈ D ↔ d ∈ D') : ∀ n, tab D n = tab D' n
  | 0 => rfl
  | n + 1 => by
    have e1 : D.contains (n : Int) = D'.contains (n : Int) := by
      rw [Bool.eq_iff_iff, List.contains_iff_mem, List.contains_iff_mem]
      exact h _
    have e2 : stp D (tab D' n) n = stp D' (tab D' n) n := by
      unfold stp
      rw [Bool.eq_iff_iff, List.any_eq_true, List.any_eq_true]
      exact ⟨fun ⟨d, hd, q⟩ => ⟨d, (h d).mp hd, q⟩, fun ⟨d, hd, q⟩ => ⟨d, (h d).mpr hd, q⟩⟩
    show tab D n ++ _ = tab D' n ++ _
    rw [tab_mem h n, e1, e2]
theorem made_mem {D D' : List Int} (h : ∀ d, d ∈ D ↔ d ∈ D') (k : Nat) : made D k = made D' k := by
  unfold made
  rw [tab_mem h]
  unfold stp
  rw [Bool.eq_iff_iff, List.any_eq_true, List.any_eq_true]
  exact ⟨fun ⟨d, hd, q⟩ => ⟨d, (h d).mp hd, q⟩, fun ⟨d, hd, q⟩ => ⟨d, (h d).mpr hd, q⟩⟩
theorem rchD_ge {D : List Int} {x : Int} (h1 : ∀ d ∈ D, 1 ≤ d) (hx : ∀ d ∈ D, x ≤ d) : ∀ (n k : Nat), k < n → rchD D k = true → x ≤ k
  | n + 1, k, hk, h => by
    unfold rchD at h
    rw [Bool.or_eq_true, List.contains_iff_mem, made_iff h1] at h
    rcases h with h | ⟨d, hd, h2, h3⟩
    · exact hx _ h
    · have a := h1 d hd
      have b := hx d hd
      have c := rchD_ge h1 hx n _ (by omega) h3
      by_cases z : 0 ≤ x <;> omega
theorem made_ge {D : List Int} {x : Int} {k : Nat} (h1 : ∀ d ∈ D, 1 ≤ d) (hx : ∀ d ∈ D, x ≤ d) (h : made D k = true) : 2 * x ≤ k := by
  obtain ⟨d, hd, h2, h3⟩ := (made_iff h1).mp h
  have a := h1 d hd
  have b := hx d hd
  have c := rchD_ge h1 hx _ _ (Nat.lt_succ_self _) h3
  omega
theorem made_zero {D : List Int} (h1 : ∀ d ∈ D, 1 ≤ d) : made D 0 = false := by
  cases e : made D 0 with
  | false => rfl
  | true =>
    obtain ⟨d, hd, h2, _⟩ := (made_iff h1).mp e
    have := h1 d hd
    omega
/-- what the law's table holds -/
def val (D : List Int) (k : Nat) : Int := if made D k = true then 2 else if D.contains (k : Int) = true then 1 else 0
theorem val_two {D : List Int} {k : Nat} : decide (val D k = 2) = made D k := by
  unfold val
  cases made D k with
  | true => rfl
  | false =>
    rw [if_neg Bool.false_ne_true]
    split <;> rfl
theorem val_pos {D : List Int} {k : Nat} : decide (0 < val D k) = rchD D k := by
  unfold val rchD
  cases made D k with
  | true =>
    rw [Bool.or_true]
    rfl
  | false =>
    rw [if_neg Bool.false_ne_true, Bool.or_false]
    cases D.contains (k : Int) <;> rfl
/-! ### lots that bar -/
def pick (E l : List Int) : List Int := l.map fun i => E.getD i.toNat 0
def bars (E O l : List Int) : Bool := decide ((O.filter fun o => made (pick E l) (o + 1).toNat).length < l.length)
def barring (E O : List Int) : List (List Int) := (lotsOf E.length).filter (bars E O)
theorem mem_barring {E O l : List Int} : l ∈ barring E O ↔ (l ≠ [] ∧ Asc E.length l) ∧ bars E O l = true := by
  unfold barring
  rw [List.mem_filter, mem_lots]
theorem barring_more {E O l : List Int} {z : Int} (h : l ∈ barring E (O ++ [z])) : l ∈ barring E O := by
  rw [mem_barring] at h ⊢
  refine ⟨h.1, ?_⟩
  have h2 := h.2
  unfold bars at h2 ⊢
  rw [decide_eq_true_eq, List.filter_append, List.length_append] at h2
  rw [decide_eq_true_eq]
  omega
/-! ### what follows from no lot that bars -/
theorem filter_mono {p q : Int → Bool} : ∀ (l : List Int), (∀ x ∈ l, p x = true → q x = true) → (l.filter p).length ≤ (l.filter q).length
  | [], _ => Nat.le_refl _
  | x :: l, h => by
    have ih := filter_mono l fun y hy => h y (List.mem_cons_of_mem _ hy)
    have hx := h x List.mem_cons_self
    rw [List.filter_cons, List.filter_cons]
    cases hp : p x with
    | true =>
      rw [hx hp, if_pos rfl, if_pos rfl, List.length_cons, List.length_cons]
      omega
    | false =>
      rw [if_neg Bool.false_ne_true]
      split
      · rw [List.length_cons]
        omega
      · exact ih
/-- the indices of the ones from x on -/
def upper (E : List Int) (x : Int) : List Int := ((List.range E.length).filter fun j : Nat => decide (x ≤ E.getD j 0)).map fun j : Nat => (j : Int)
theorem upper_asc (E : List Int) (x : Int) : Asc E.length (upper E x) := by
  refine ⟨List.pairwise_map.mpr (((List.pairwise_lt_range).sublist List.filter_sublist).imp fun h => by omega), fun i hi => ?_⟩
  obtain ⟨j, hj, rfl⟩ := List.mem_map.mp hi
  have := List.mem_range.mp (List.mem_filter.mp hj).1
  omega
theorem upper_len (E : List Int) (x : Int) : (upper E x).length = (E.filter fun e => decide (x ≤ e)).length := by
  unfold upper
  rw [List.length_map]
  have e : E = (List.range E.length).map fun j => E.getD j 0 := by
    refine List.ext_getElem (by simp) fun i h1 h2 => ?_
    rw [List.getElem_map, List.getElem_range, List.getD_eq_getElem?_getD, List.getElem?_eq_getElem h1]
    rfl
  have e2 : (E.filter fun e => decide (x ≤ e)) = (((List.range E.length).map fun j => E.getD j 0).filter fun e => decide (x ≤ e)) := by rw [← e]
  rw [e2, List.filter_map, List.length_map]
  rfl
theorem upper_pick {E : List Int} {x d : Int} (h : d ∈ pick E (upper E x)) : x ≤ d ∧ d ∈ E := by
  obtain ⟨i, hi, rfl⟩ := List.mem_map.mp h
  obtain ⟨j, hj, rfl⟩ := List.mem_map.mp hi
  obtain ⟨h1, h2⟩ := List.mem_filter.mp hj
  have h3 := List.mem_range.mp h1
  refine ⟨of_decide_eq_true h2, ?_⟩
  show E.getD j 0 ∈ E
  rw [List.getD_eq_getElem?_getD, List.getElem?_eq_getElem h3]
  exact List.getElem_mem _
/-- as many odd ones reach twice x, less 1, as even ones reach x -/
theorem needs_count {E O : List Int} (h1 : ∀ e ∈ E, 1 ≤ e) (ho : ∀ o ∈ O, 0 ≤ o) (hb : barring E O = []) (x : Int) :
    (E.filter fun e => decide (x ≤ e)).length ≤ (O.filter fun o => decide (2 * x ≤ o + 1)).length := by
  rw [← upper_len]
  by_cases c : upper E x = []
  · rw [c]
    exact Nat.zero_le _
  have h : ¬ bars E O (upper E x) = true := fun q => by
    have m := mem_barring.mpr ⟨⟨c, upper_asc E x⟩, q⟩
    rw [hb] at m
    exact absurd m List.not_mem_nil
  unfold bars at h
  rw [decide_eq_true_eq] at h
  refine Nat.le_trans (Nat.le_of_not_lt h) (filter_mono O fun o hm q => ?_)
  have g := made_ge (x := x) (fun d hd => h1 d (upper_pick hd).2) (fun d hd => (upper_pick hd).1) q
  have := ho o hm
  rw [decide_eq_true_eq]
  omega
theorem filter_len_perm {l m : List Int} (h : l.Perm m) (p : Int → Bool) : (l.filter p).length = (m.filter p).length := (h.filter p).length_eq
/-- in a falling list the first n + 1 ones are from its n-th one on -/
theorem fall_count {p : Int → Bool} : ∀ {l : List Int} {n : Nat} {x : Int}, l.Pairwise (fun a b => b ≤ a) → l[n]? = some x → (∀ y, x ≤ y → p y = true) → n + 1 ≤ (l.filter p).length
  | y :: l, 0, x, _, h, hp => by
    cases h
    rw [List.filter_cons, if_pos (hp y (Int.le_refl _)), List.length_cons]
    omega
  | y :: l, n + 1, x, hs, h, hp => by
    obtain ⟨s1, s2⟩ := List.pairwise_cons.mp hs
    have h' : l[n]? = some x := h
    have ih := fall_count s2 h' hp
    have := s1 x (List.mem_of_getElem? h')
    rw [List.filter_cons, if_pos (hp y this), List.length_cons]
    omega
/-- if the n-th one fails, and all below with it, at most n ones hold -/
theorem fall_few {p : Int → Bool} : ∀ {l : List Int} {n : Nat} {x : Int}, l.Pairwise (fun a b => b ≤ a) → l[n]? = some x → (∀ y, y ≤ x → p y = false) → (l.filter p).length ≤ n
  | y :: l, 0, x, hs, h, hp => by
    obtain ⟨s1, s2⟩ := List.pairwise_cons.mp hs
    cases h
    have e : (y :: l).filter p = [] := List.filter_eq_nil_iff.mpr fun a ha q => by
      rcases List.mem_cons.mp ha with e | e
      · rw [e, hp y (Int.le_refl _)] at q
        cases q
      · rw [hp a (s1 a e)] at q
        cases q
    rw [e]
    exact Nat.le_refl _
  | y :: l, n + 1, x, hs, h, hp => by
    obtain ⟨s1, s2⟩ := List.pairwise_cons.mp hs
    have ih := fall_few s2 (show l[n]? = some x from h) hp
    rw [List.filter_cons]
    split
    · rw [List.length_cons]
      omega
    · omega
theorem needs_pairs {E O F G : List Int} (h1 : ∀ e ∈ E, 1 ≤ e) (ho : ∀ o ∈ O, 0 ≤ o) (hb : barring E O = []) (hF : F.Perm E) (hG : G.Perm O) (sF : F.Pairwise (fun a b => b ≤ a)) (sG : G.Pairwise (fun a b => b ≤ a))
    {n : Nat} {f g : Int} (hf : F[n]? = some f) (hg : G[n]? = some g) : 2 * f ≤ g + 1 := by
  have a := needs_count h1 ho hb f
  rw [← filter_len_perm hF, ← filter_len_perm hG] at a
  have b := fall_count (p := fun e => decide (f ≤ e)) sF hf fun y hy => decide_eq_true hy
  by_cases c : 2 * f ≤ g + 1
  · exact c
  · have d := fall_few (p := fun o => decide (2 * f ≤ o + 1)) sG hg fun y hy => decide_eq_false (by omega)
    omega
theorem filter_all {p : Int → Bool} {l : List Int} (h : ∀ x ∈ l, p x = true) : (l.filter p).length = l.length := by
  rw [List.filter_eq_self.mpr h]
theorem needs_len {E O : List Int} (h1 : ∀ e ∈ E, 1 ≤ e) (ho : ∀ o ∈ O, 0 ≤ o) (hb : barring E O = []) : E.length ≤ O.length := by
  have a := needs_count h1 ho hb 1
  rw [filter_all fun x hx => decide_eq_true (h1 x hx)] at a
  exact Nat.le_trans a (List.length_filter_le _ _)
theorem sum_two : ∀ {F G : List Int}, F.length ≤ G.length → (∀ (n : Nat) (f g : Int), F[n]? = some f → G[n]? = some g → 2 * f ≤ g + 1) → (∀ g ∈ G, 0 ≤ g) → 2 * F.sum ≤ G.sum + F.length
  | [], [], _, _, _ => by simp
  | [], g :: G, _, _, h => by
    have ih := sum_two (F := []) (G := G) (Nat.zero_le _) (fun n f g' a => by simp at a) (fun x hx => h x (List.mem_cons_of_mem _ hx))
    have := h g List.mem_cons_self
    simp only [List.sum_nil, List.sum_cons, List.length_nil] at ih ⊢
    omega
  | f :: F, [], h, _, _ => absurd h (by simp)
  | f :: F, g :: G, h, hp, hn => by
    have ih := sum_two (F := F) (G := G) (by simp at h; exact h) (fun n a b x y => hp (n + 1) a b x y) (fun x hx => hn x (List.mem_cons_of_mem _ hx))
    have := hp 0 f g rfl rfl
    simp only [List.sum_cons, List.length_cons] at ih ⊢
    omega
theorem sum_perm {l m : List Int} (h : l.Perm m) : l.sum = m.sum := by
  induction h with
  | nil => rfl
  | cons x _ ih => rw [List.sum_cons, List.sum_cons, ih]
  | swap x y l => simp only [List.sum_cons]; omega
  | trans _ _ a b => exact a.trans b
/-! ### other names for the indices -/
def insI (x : Int) : List Int → List Int
  | [] => [x]
  | y :: l => if y < x then y :: insI x l else x :: y :: l
def sortI (l : List Int) : List Int := l.foldr insI []
theorem insI_perm (x : Int) : ∀ l, (insI x l).Perm (x :: l)
  | [] => List.Perm.refl _
  | y :: l => by
    unfold insI
    split
    · exact ((insI_perm x l).cons y).trans (List.Perm.swap x y l)
    · exact List.Perm.refl _
theorem sortI_perm : ∀ l, (sortI l).Perm l
  | [] => List.Perm.refl _
  | x :: l => (insI_perm x (sortI l)).trans ((sortI_perm l).cons x)
theorem insI_le (x : Int) : ∀ {l : List Int}, l.Pairwise (· ≤ ·) → (insI x l).Pairwise (· ≤ ·)
  | [], _ => List.pairwise_singleton _ _
  | y :: l, h => by
    obtain ⟨h1, h2⟩ := List.pairwise_cons.mp h
    unfold insI
    split
    · rename_i c
      refine List.pairwise_cons.mpr ⟨fun z hz => ?_, insI_le x h2⟩
      rcases List.mem_cons.mp ((insI_perm x l).mem_iff.mp hz) with e | e
      · rw [e]
        omega
      · exact h1 z e
    · refine List.pairwise_cons.mpr ⟨fun z hz => ?_, h⟩
      rcases List.mem_cons.mp hz with e | e
      · rw [e]
        omega
      · have := h1 z e
        omega
theorem sortI_le : ∀ l : List Int, (sortI l).Pairwise (· ≤ ·)
  | [] => List.Pairwise.nil
  | x :: l => insI_le x (sortI_le l)
theorem le_uniq : ∀ {l m : List Int}, l.Pairwise (· ≤ ·) → m.Pairwise (· ≤ ·) → l.Perm m → l = m
  | [], m, _, _, h => (List.Perm.eq_nil h.symm).symm
  | x :: l, [], _, _, h => absurd h.length_eq (by simp)
  | x :: l, y :: m, hl, hm, h => by
    have e : x = y := by
      rcases List.mem_cons.mp (h.mem_iff.mp (List.mem_cons_self (a := x) (l := l))) with q | q
      · exact q
      · rcases List.mem_cons.mp (h.mem_iff.mpr (List.mem_cons_self (a := y) (l := m))) with r | r
        · exact r.symm
        · have := (List.pairwise_cons.mp hm).1 x q
          have := (List.pairwise_cons.mp hl).1 y r
          omega
    subst e
    rw [le_uniq (List.pairwise_cons.mp hl).2 (List.pairwise_cons.mp hm).2 h.cons_inv]
theorem sortI_uniq {l m : List Int} (h1 : m.Pairwise (· ≤ ·)) (h2 : m.Perm l) : m = sortI l := le_uniq h1 (sortI_le l) (h2.trans (sortI_perm l).symm)
theorem lt_of_le_nodup {l : List Int} (h1 : l.Pairwise (· ≤ ·)) (h2 : l.Nodup) : l.Pairwise (· < ·) := by
  have h := List.pairwise_and_iff.mpr ⟨h1, h2⟩
  exact h.imp fun {a b} ⟨x, y⟩ => by
    have y' : a ≠ b := y
    omega
def nms (N : List Int) (i : Int) : Int := N.getD i.toNat 0
def renamed (N : List Int) (lots : List (List Int)) : List (List Int) := srt (lots.map fun l => sortI (l.map (nms N)))
def backOf (E N : List Int) : List Int := (List.range E.length).map fun j : Nat => E.getD (N.idxOf (j : Int)) 0
structure Nm (p : Nat) (N : List Int) : Prop where
  perm : N.Perm ((List.range p).map fun j : Nat => (j : Int))
section
variable {p : Nat} {N : List Int}
theorem Nm.len (h : Nm p N) : N.length = p := by
  rw [h.perm.length_eq, List.length_map, List.length_range]
theorem Nm.nodup (h : Nm p N) : N.Nodup := by
  refine h.perm.nodup_iff.mpr (List.pairwise_map.mpr (List.nodup_range.imp fun {a b} q e => q ?_))
  omega
theorem Nm.mem (h : Nm p N) {j : Int} : j ∈ N ↔ 0 ≤ j ∧ j < p := by
  rw [h.perm.mem_iff, List.mem_map]
  refine ⟨fun ⟨k, hk, e⟩ => ?_, fun h => ⟨j.toNat, ?_, ?_⟩⟩
  · have := List.mem_range.mp hk
    omega
  · rw [List.mem_range]
    omega
  · omega
theorem Nm.get (h : Nm p N) {i : Int} (h0 : 0 ≤ i) (h1 : i < p) : N[i.toNat]? = some (nms N i) := by
  have hl := h.len
  unfold nms
  rw [List.getD_eq_getElem?_getD, List.getElem?_eq_getElem (by omega)]
  rfl
theorem Nm.inn (h : Nm p N) {i : Int} (h0 : 0 ≤ i) (h1 : i < p) : 0 ≤ nms N i ∧ nms N i < p := h.mem.mp (List.mem_of_getElem? (h.get h0 h1))
theorem Nm.inj (h : Nm p N) {i j : Int} (h0 : 0 ≤ i) (h1 : i < p) (k0 : 0 ≤ j) (k1 : j < p) (e : nms N i = nms N j) : i = j := by
  have a := h.get h0 h1
  have b := h.get k0 k1
  rw [← e] at b
  have nd := h.nodup
  have hl := h.len
  obtain ⟨a1, a2⟩ := List.getElem?_eq_some_iff.mp a
  obtain ⟨b1, b2⟩ := List.getElem?_eq_some_iff.mp b
  have q : i.toNat = j.toNat := (List.getElem_inj nd).mp (a2.trans b2.symm)
  omega
theorem Nm.idx (h : Nm p N) {j : Int} (k0 : 0 ≤ j) (k1 : j < p) : N.idxOf j < p ∧ N[N.idxOf j]? = some j := by
  have m := h.mem.mpr ⟨k0, k1⟩
  have l := List.idxOf_lt_length_of_mem m
  refine ⟨by rw [← h.len]; exact l, ?_⟩
  rw [List.getElem?_eq_getElem l, List.getElem_idxOf l]
theorem Nm.idx_nms (h : Nm p N) {i : Int} (h0 : 0 ≤ i) (h1 : i < p) : (N.idxOf (nms N i) : Int) = i := by
  have g := h.inn h0 h1
  obtain ⟨a, b⟩ := h.idx g.1 g.2
  refine h.inj (by omega) (by omega) h0 h1 ?_
  have c := h.get (i := (N.idxOf (nms N i) : Int)) (by omega) (by omega)
  rw [show (N.idxOf (nms N i) : Int).toNat = N.idxOf (nms N i) by omega, b] at c
  exact (Option.some.inj c).symm
theorem back_get {E : List Int} (h : Nm E.length N) {i : Int} (h0 : 0 ≤ i) (h1 : i < E.length) : (backOf E N).getD (nms N i).toNat 0 = E.getD i.toNat 0 := by
  have g := h.inn h0 h1
  have e := h.idx_nms h0 h1
  unfold backOf
  rw [List.getD_eq_getElem?_getD, List.getElem?_map, List.getElem?_range (by omega)]
  show E.getD (N.idxOf (((nms N i).toNat : Nat) : Int)) 0 = _
  rw [show (((nms N i).toNat : Nat) : Int) = nms N i by omega, show N.idxOf (nms N i) = i.toNat by omega]
theorem ren_mem {l : List Int} {j : Int} : j ∈ sortI (l.map (nms N)) ↔ ∃ i ∈ l, nms N i = j := by
  rw [(sortI_perm _).mem_iff, List.mem_map]
theorem ren_asc (h : Nm p N) {l : List Int} (a : Asc p l) : Asc p (sortI (l.map (nms N))) := by
  refine ⟨lt_of_le_nodup (sortI_le _) ((sortI_perm _).nodup_iff.mpr ?_), fun j hj => ?_⟩
  · refine List.pairwise_map.mpr (a.up.imp_of_mem fun {x y} hx hy q e => ?_)
    have hx := a.inn x hx
    have hy := a.inn y hy
    have := h.inj hx.1 hx.2 hy.1 hy.2 e
    omega
  · obtain ⟨i, hi, rfl⟩ := ren_mem.mp hj
    have := a.inn i hi
    exact h.inn this.1 this.2
theorem ren_bars {E O G l : List Int} (h : Nm E.length N) (hG : G.Perm O) (a : Asc E.length l) : bars (backOf E N) G (sortI (l.map (nms N))) = bars E O l := by
  have m : ∀ d, d ∈ pick (backOf E N) (sortI (l.map (nms N))) ↔ d ∈ pick E l := fun d => by
    unfold pick
    rw [List.mem_map, List.mem_map]
    refine ⟨fun ⟨j, hj, e⟩ => ?_, fun ⟨i, hi, e⟩ => ⟨nms N i, ren_mem.mpr ⟨i, hi, rfl⟩, ?_⟩⟩
    · obtain ⟨i, hi, rfl⟩ := ren_mem.mp hj
      have := a.inn i hi
      rw [back_get h this.1 this.2] at e
      exact ⟨i, hi, e⟩
    · have := a.inn i hi
      rw [back_get h this.1 this.2]
      exact e
  unfold bars
  rw [filter_len_perm hG, (sortI_perm _).length_eq, List.length_map]
  rw [show (fun o : Int => made (pick (backOf E N) (sortI (l.map (nms N)))) (o + 1).toNat) = fun o : Int => made (pick E l) (o + 1).toNat from funext fun o => made_mem m _]
theorem renamed_eq {E O G : List Int} (h : Nm E.length N) (hG : G.Perm O) : barring (backOf E N) G = renamed N (barring E O) := by
  have bl : (backOf E N).length = E.length := by
    unfold backOf
    rw [List.length_map, List.length_range]
  have inj : ∀ l l', Asc E.length l → Asc E.length l' → sortI (l.map (nms N)) = sortI (l'.map (nms N)) → l = l' := fun l l' a a' e => by
    have half : ∀ l l', Asc E.length l → Asc E.length l' → sortI (l.map (nms N)) = sortI (l'.map (nms N)) → ∀ i, i ∈ l → i ∈ l' := fun l l' a a' e i hi => by
      have m : nms N i ∈ sortI (l'.map (nms N)) := by
        rw [← e]
        exact ren_mem.mpr ⟨i, hi, rfl⟩
      obtain ⟨k, hk, q⟩ := ren_mem.mp m
      have x := a.inn i hi
      have y := a'.inn k hk
      rw [← h.inj y.1 y.2 x.1 x.2 q]
      exact hk
    exact asc_uniq a.up a'.up fun i => ⟨half l l' a a' e i, half l' l a' a e.symm i⟩
  refine srt_uniq ((lots_sr _).sublist List.filter_sublist) ?_
  refine (List.perm_ext_iff_of_nodup (List.Nodup.sublist List.filter_sublist (lots_nodup _)) ?_).mpr fun L => ?_
  · refine List.pairwise_map.mpr (List.Pairwise.imp_of_mem (fun {x y} hx hy q e => q ?_) (List.Nodup.sublist List.filter_sublist (lots_nodup E.length)))
    exact inj x y (mem_barring.mp hx).1.2 (mem_barring.mp hy).1.2 e
  · show L ∈ barring (backOf E N) G ↔ _
    rw [mem_barring, bl, List.mem_map]
    refine ⟨fun ⟨⟨n, a⟩, b⟩ => ?_, fun ⟨l, hl, e⟩ => ?_⟩
    · let l : List Int := ((List.range E.length).filter fun j : Nat => L.contains (nms N (j : Int))).map fun j : Nat => (j : Int)
      have al : Asc E.length l := by
        refine ⟨List.pairwise_map.mpr (((List.pairwise_lt_range).sublist List.filter_sublist).imp fun h => by omega), fun i hi => ?_⟩
        obtain ⟨j, hj, rfl⟩ := List.mem_map.mp hi
        have := List.mem_range.mp (List.mem_filter.mp hj).1
        omega
      have e : sortI (l.map (nms N)) = L := asc_uniq (ren_asc h al).up a.up fun j => by
        rw [ren_mem]
        refine ⟨fun ⟨i, hi, e⟩ => ?_, fun hj => ?_⟩
        · obtain ⟨k, hk, rfl⟩ := List.mem_map.mp hi
          rw [← e]
          exact List.contains_iff_mem.mp (List.mem_filter.mp hk).2
        · have x := a.inn j hj
          obtain ⟨i1, i2⟩ := h.idx x.1 x.2
          have g := h.get (i := (N.idxOf j : Int)) (by omega) (by omega)
          rw [show (N.idxOf j : Int).toNat = N.idxOf j by omega, i2] at g
          have g2 := Option.some.inj g
          refine ⟨(N.idxOf j : Int), List.mem_map.mpr ⟨N.idxOf j, List.mem_filter.mpr ⟨List.mem_range.mpr i1, ?_⟩, rfl⟩, g2.symm⟩
          rw [← g2]
          exact List.contains_iff_mem.mpr hj
      refine ⟨l, mem_barring.mpr ⟨⟨fun q => n ?_, al⟩, ?_⟩, e⟩
      · rw [← e, q]
        rfl
      · rw [← ren_bars h hG al, e]
        exact b
    · subst e
      obtain ⟨⟨n, a⟩, b⟩ := mem_barring.mp hl
      refine ⟨⟨fun q => n ?_, ren_asc h a⟩, by rw [ren_bars h hG a]; exact b⟩
      have := congrArg List.length q
      rw [(sortI_perm _).length_eq, List.length_map] at this
      exact List.eq_nil_of_length_eq_zero this
end
end K9
namespace K9
open PySem PySem.Spec PyProof.Rows L2
/-! ### the text -/
def topS (i : Nat) : Stmt := PySem.Challenge.pw_stepletters_k37_errors_of_degrees.main.body.getD i (.Pass ⟨0, 0, 0, 0⟩)
abbrev sIsWhole : Stmt := topS 3
abbrev sQuot : Stmt := topS 4
abbrev sWholeMultiple : Stmt := topS 5
abbrev sIsInt : Stmt := topS 13
abbrev sAsRatio : Stmt := topS 14
abbrev sBetween : Stmt := topS 15
abbrev sChkB : Stmt := topS 16
abbrev sEchelon : Stmt := topS 19
abbrev sTakeIn : Stmt := topS 20
abbrev sLeftOver : Stmt := topS 21
abbrev sIndependentPlaces : Stmt := topS 22
abbrev sAreAllMade : Stmt := topS 23
abbrev sWithoutColumn : Stmt := topS 24
abbrev sTakeAway : Stmt := topS 25
abbrev sTakeAwayByPrime : Stmt := topS 26
abbrev sInverseByPrime : Stmt := topS 27
abbrev sShortest : Stmt := topS 28
abbrev sIsExp : Stmt := topS 31
abbrev sDegOf : Stmt := topS 32
abbrev sLenOf : Stmt := topS 33
abbrev sCount : Stmt := topS 34
abbrev sListed : Stmt := topS 35
abbrev sSuffix : Stmt := topS 36
abbrev sFirst : Stmt := topS 37
abbrev sNext : Stmt := topS 38
abbrev sCntW : Stmt := topS 39
abbrev sLeast : Stmt := topS 40
abbrev sRise : Stmt := topS 41
abbrev sCheckListed : Stmt := topS 43
abbrev sWholeRows : Stmt := topS 44
abbrev sBoundOf : Stmt := topS 46
abbrev sMadeRows : Stmt := topS 47
abbrev sFirstPower : Stmt := topS 48
abbrev sOpenDegree : Stmt := topS 49
abbrev sJoined : Stmt := topS 50
abbrev sIsMade : Stmt := topS 60
abbrev sBarLots : Stmt := topS 61
abbrev sCanEnd : Stmt := topS 62
abbrev sDegreesPaper : Stmt := topS 63
abbrev sIsDegreesPaper : Stmt := topS 64
abbrev sIsDeg : Stmt := topS 65
abbrev sChkD : Stmt := topS 66
abbrev sCheckedLots : Stmt := topS 67
abbrev sSumTwo : Stmt := topS 68
abbrev sBarring : Stmt := topS 69
abbrev sLots : Stmt := topS 70
abbrev sDoesBar : Stmt := topS 71
abbrev sEndingSteps : Stmt := topS 72
abbrev sNeededWords : Stmt := topS 73
abbrev sIsWithin : Stmt := topS 74
abbrev sAreSteps : Stmt := topS 75
abbrev sIsStep : Stmt := topS 76
abbrev sDoStepsEnd : Stmt := topS 77
abbrev sDice : Stmt := topS 79
abbrev sRoll : Stmt := topS 80
abbrev sPick : Stmt := topS 81
abbrev sMet : Stmt := topS 82
abbrev sAreMet : Stmt := topS 83
abbrev sLawDegreesRight : Stmt := topS 84
abbrev sLawOthersRight : Stmt := topS 85
abbrev sLaw : Stmt := topS 86
/-- what the top has written -/
structure Txt (K : PySem.W.Frag) (mg : Str → Option Value) : Prop where
  int : mg "int" = none
  bool : mg "bool" = none
  tuple : mg "tuple" = none
  list : mg "list" = none
  dict : mg "dict" = none
  isi : mg "isinstance" = none
  len : mg "len" = none
  abs : mg "abs" = none
  max : mg "max" = none
  min : mg "min" = none
  range : mg "range" = none
  sum : mg "sum" = none
  all : mg "all" = none
  any : mg "any" = none
  enumerate : mg "enumerate" = none
  reversed : mg "reversed" = none
  zip : mg "zip" = none
  sorted : mg "sorted" = none
  repr : mg "repr" = none
  gcd : mg "gcd" = some (.builtin "math.gcd")
  lcm : mg "lcm" = some (.builtin "math.lcm")
  cLIMIT : ∃ t, mg "_LIMIT" = some (.int (10 ^ 60) t)
  cPRIMEechelon : ∃ t, mg "PRIME_echelon" = some (.int (2147483647) t)
  cMAXLETTER : ∃ t, mg "MAX_LETTER" = some (.int (40) t)
  cMAXEVENS : ∃ t, mg "MAX_EVENS" = some (.int (6) t)
  cMAXODDS : ∃ t, mg "MAX_ODDS" = some (.int (10) t)
  cMAXSHOWN : ∃ t, mg "MAX_SHOWN" = some (.int (80) t)
  cMAXLISTED : ∃ t, mg "MAX_LISTED" = some (.int (150) t)
  cMOSTMADE : ∃ t, mg "_MOST_MADE" = some (.int (1000) t)
  cPRIMEdegrees : ∃ t, mg "PRIME_degrees" = some (.int (2147483647) t)
  cFACTOR : ∃ t, mg "_FACTOR" = some (.int (48271) t)
  cMOSTNUMBER : ∃ t, mg "_MOST_NUMBER" = some (.int (50) t)
/-! ### the dice -/
/-- a list of three ints, the first one at least 0 -/
def DiceL (L : List V) : Prop := ∃ a b c : Int, L = [.int a, .int b, .int c] ∧ 0 ≤ a
def spRoll : Sp := fun vs H Q _ => ∃ (d : Addr) (n : Int) (L : List V), vs = [.ref d, .int n] ∧ 0 < n ∧ n.natAbs < 2 ^ 500 ∧ H d = some (.lst L) ∧ DiceL L ∧
  ∀ (i : Int) (L' : List V), 0 ≤ i → i < n → DiceL L' → Q (.int i) (upd H d (.lst L'))
theorem scRoll : FnScope ["dice", "total", "found", "one", "two"] ["dice", "total"] (defScope sRoll) := ⟨rfl, rfl, rfl, by decide +kernel, rfl, by decide +kernel, by decide +kernel⟩
theorem bootInt : bootBuiltins "int" = some (.type "int") := by decide +kernel
section
variable {P : Program} {w : World} {K : PySem.W.Frag} {mg : Str → Option Value} {base : Heap}
theorem ok_roll {f : Addr} {fd : FuncData} (F : Fun K "_law_roll" "_law_roll" sRoll f fd) (T : Txt K mg) : FnOk P w K mg base CX0 1 f fd ["dice", "total"] spRoll := by
  refine F.ok scRoll (fun vs H Q E h => ?_) (fun cdv A outer s H vs Q E hr h => ?_)
  · obtain ⟨d, n, L, rfl, _⟩ := h; rfl
  obtain ⟨d, n, L, rfl, hn, hb, hd, ⟨a, b, c, rfl, ha⟩, k⟩ := h
  refine ⟨_, pss_cons (ps_if (pt_cmpR op_gt (pe_ix ix_list (pv 0) pe_int (fun _ _ => rfl)) pe_int (nomark _))
      (pss_cons (ps_set (i := 2) scRoll.nd rfl (.inl rfl) (pe_op op_mod (pe_callTy call_int1 (by rfl) T.int bootInt (pa_cons (pe_ix ix_list (pv 0) pe_int (fun _ _ => rfl)) pa_nil)) (pv 1)))
      (pss_cons (ps_asg (pe_op op_fdivW (pe_ix ix_list (pv 0) pe_int (fun _ _ => rfl)) (pv 1)) (pg_sub (pv 0) pe_int set_list))
      (pss_one (ps_ret (pv 2))))) pss_nil)
    (pss_cons (ps_asg (pe_op op_add (pe_ix ix_list (pv 0) pe_int (fun _ _ => rfl)) pe_int) (pg_sub (pv 0) pe_int set_list))
    (pss_cons (ps_set (i := 3) scRoll.nd rfl (.inl rfl) (pe_op op_mod (pe_callTy call_int1 (by rfl) T.int bootInt (pa_cons (pe_op op_add (pe_ix ix_list (pv 0) pe_int (fun _ _ => rfl)) (pe_op op_mul pe_int (pe_ix ix_list (pv 0) pe_int (fun _ _ => rfl)))) pa_nil)) pe_int))
    (pss_cons (ps_set (i := 4) scRoll.nd rfl (.inl rfl) (pe_op op_add (pe_op op_mul (pe_op op_mod (pe_callTy call_int1 (by rfl) T.int bootInt (pa_cons (pe_op op_add (pe_op op_mul (pv 3) (pv 3)) (pe_op op_mul pe_int (pe_ix ix_list (pv 0) pe_int (fun _ _ => rfl)))) pa_nil)) pe_int) pe_int) (pv 3)))
    (pss_one (ps_ret (pe_op op_mod (pe_callTy call_int1 (by rfl) T.int bootInt (pa_cons (pe_op op_fdiv (pv 4) pe_int) pa_nil)) (pv 1))))))), ?_⟩
  have S := SqL.of (K := K) hd
  refine ⟨_, rfl, d, _, _, _, rfl, rfl, S, rfl, _, _, rfl, rfl, _, rfl, ?_⟩
  refine ite2 (fun c0 => ?_) (fun c0 => ?_)
  · refine ⟨_, rfl, d, _, _, _, rfl, rfl, S, rfl, .inl ⟨_, rfl, _, rfl, _, _, rfl, rfl, hn, ?_⟩⟩
    refine ⟨_, rfl, d, _, _, _, rfl, rfl, S, rfl, _, rfl, _, _, rfl, rfl, wide_div hn hb (by decide) (by decide), _, rfl, d, _, _, 0, rfl, rfl, hd, rfl, _, rfl, ?_⟩
    refine k _ _ (Int.emod_nonneg _ (by omega)) (Int.emod_lt_of_pos _ hn) ⟨_, _, _, rfl, ?_⟩
    exact Int.ediv_nonneg ha (by omega)
  · refine ⟨_, rfl, d, _, _, _, rfl, rfl, S, rfl, _, _, rfl, rfl, _, rfl, d, _, _, 2, rfl, rfl, hd, rfl, ?_⟩
    have S2 := SqL.of (K := K) (upd_same (H := H) (a := d) (o := .lst [.int a, .int b, .int (c + 1)]))
    refine ⟨_, rfl, d, _, _, _, rfl, rfl, S2, rfl, _, rfl, d, _, _, _, rfl, rfl, S2, rfl, _, _, rfl, rfl, .inl ⟨by decide, by decide⟩, _, _, rfl, rfl, .inl ⟨_, rfl, _, _, rfl, rfl, (by show (0 : Int) < 2305843009213693723; decide), ?_⟩⟩
    have m1 := Int.emod_lt_of_pos (b + 67867979 * (c + 1)) (show (0 : Int) < 2305843009213693723 by decide)
    have m0 := Int.emod_nonneg (b + 67867979 * (c + 1)) (show (2305843009213693723 : Int) ≠ 0 by decide)
    generalize ez : (b + 67867979 * (c + 1)) % 2305843009213693723 = z at *
    refine ⟨_, rfl, _, rfl, _, _, rfl, rfl, .inl ⟨by omega, by omega⟩, _, rfl, d, _, _, _, rfl, rfl, S2, rfl, _, _, rfl, rfl, .inl ⟨by decide, by decide⟩, _, _, rfl, rfl, .inl ⟨_, rfl, _, _, rfl, rfl, (by show (0 : Int) < 2305843009213693549; decide), ?_⟩⟩
    have y1 := Int.emod_lt_of_pos (z * z + 103 * (c + 1)) (show (0 : Int) < 2305843009213693549 by decide)
    have y0 := Int.emod_nonneg (z * z + 103 * (c + 1)) (show (2305843009213693549 : Int) ≠ 0 by decide)
    generalize ey : (z * z + 103 * (c + 1)) % 2305843009213693549 = y at *
    refine ⟨_, _, rfl, rfl, .inl ⟨by omega, by omega⟩, _, rfl, _, _, rfl, rfl, ?_⟩
    refine ⟨_, rfl, _, _, rfl, rfl, ⟨by decide, by decide⟩, .inl ⟨_, rfl, _, rfl, _, _, rfl, rfl, hn, ?_⟩⟩
    exact k _ _ (Int.emod_nonneg _ (by omega)) (Int.emod_lt_of_pos _ hn) ⟨_, _, _, rfl, ha⟩
end

theorem bootMax : bootBuiltins "max" = some (.builtin "max") := by decide +kernel
theorem bootAbs : bootBuiltins "abs" = some (.builtin "abs") := by decide +kernel
theorem bootStr : bootBuiltins "str" = some (.type "str") := by decide +kernel
/-! ### making, picking, near -/
def spDice (K : PySem.W.Frag) : Sp := fun vs H Q _ => ∃ (a : Addr) (i : Int) (ns : List Int), vs = [.ref a, .int i] ∧ SqL K H a (ns.map V.int) ∧ 0 ≤ i ∧
  ∀ (L : List V) (p : Addr), DiceL L → H p = none → Q (.ref p) (upd H p (.lst L))
def spPick : Sp := fun vs H Q _ => ∃ (d l : Addr) (xs L : List V), vs = [.ref d, .ref l] ∧ H d = some (.lst L) ∧ DiceL L ∧ H l = some (.lst xs) ∧ l ≠ d ∧ xs ≠ [] ∧ xs.length < 1000 ∧
  ∀ (x : V) (L' : List V), x ∈ xs → DiceL L' → Q x (upd H d (.lst L'))
theorem scDice : FnScope ["script", "spot", "cell", "left"] ["script", "spot"] (defScope sDice) := ⟨rfl, rfl, rfl, by decide +kernel, rfl, by decide +kernel, by decide +kernel⟩
theorem scPick : FnScope ["dice", "items"] ["dice", "items"] (defScope sPick) := ⟨rfl, rfl, rfl, by decide +kernel, rfl, by decide +kernel, by decide +kernel⟩
section
variable {P : Program} {w : World} {K : PySem.W.Frag} {mg : Str → Option Value} {base : Heap}
theorem ok_dice {f : Addr} {fd : FuncData} (F : Fun K "_law_dice" "_law_dice" sDice f fd) (T : Txt K mg) : FnOk P w K mg base CX0 1 f fd ["script", "spot"] (spDice K) := by
  refine F.ok scDice (fun vs H Q E h => ?_) (fun cdv A outer s H vs Q E hr h => ?_)
  · obtain ⟨d, n, L, rfl, _⟩ := h; rfl
  obtain ⟨a, i, ns, rfl, hS, hi, k⟩ := h
  refine ⟨_, pss_cons (ps_set (i := 2) scDice.nd rfl (.inl rfl) (pe_ifExp (pt_cmpR op_lt (pv 1) (pe_callB call_len_seq (by rfl) T.len PySem.boot_len (pa_cons (pv 0) pa_nil)) (nomark _))
      (pe_callTy call_int1 (by rfl) T.int bootInt (pa_cons (pe_ix ix_list (pv 0) (pv 1) (fun _ _ => rfl)) pa_nil)) (pe_op op_add (pe_op op_mul pe_int (pv 1)) pe_int)))
    (pss_cons (ps_set (i := 3) scDice.nd rfl (.inl rfl) (pe_op op_mod (pe_callB (call_max2 rfl) (by rfl) T.max bootMax (pa_cons pe_int (pa_cons (pe_op op_sub (pe_callB call_abs (by rfl) T.abs bootAbs (pa_cons (pv 2) pa_nil)) (pe_op op_pow pe_int pe_int)) pa_nil)))
        (pe_op op_mulW (pe_op op_pow pe_int pe_int) (pe_op op_pow pe_int pe_int))))
    (pss_one (ps_ret (pe_lst (pa_cons (pv 3) (pa_cons (pe_op op_add (pe_op op_add (pe_op op_add (pe_op op_mul (pe_op op_mod (pe_callB call_abs (by rfl) T.abs bootAbs (pa_cons (pv 2) pa_nil)) pe_int) pe_int) (pe_op op_mul pe_int (pv 1)))
        (pe_op op_mul pe_int (pe_callTy call_int1 (by rfl) T.int bootInt (pa_cons (pe_cmpR op_lt (pv 2) pe_int (nomark _)) pa_nil)))) pe_int) (pa_cons pe_int pa_nil))))))), ?_⟩
  have rest : ∀ (c : Int), tSeq (tAsg (tOp (rI (fun _ j => 0 < j) fun i j => .int (i % j)) (tCB (fun xs H Q => ∃ i j, xs = [.int i, .int j] ∧ Q (.int (if j > i then j else i)) H) (tCons (tC (.int 0)) (tCons (tOp (rI0 fun i j => .int (i - j)) (tCB (fun xs H Q => ∃ i, xs = [.int i] ∧ Q (.int (if i < 0 then -i else i)) H) (tCons (tVar 2) tNil)) (tOp (rI CPow fun i j => .int (i ^ j.toNat)) (tC (.int 10)) (tC (.int 17)))) tNil)))
        (tOp (rI CMulW fun i j => .int (i * j)) (tOp (rI CPow fun i j => .int (i ^ j.toNat)) (tC (.int 10)) (tC (.int 58))) (tOp (rI CPow fun i j => .int (i ^ j.toNat)) (tC (.int 10)) (tC (.int 60))))) (gName 3))
      (tRet (tLst (tCons (tVar 3) (tCons (tOp (rI0 fun i j => .int (i + j)) (tOp (rI0 fun i j => .int (i + j)) (tOp (rI0 fun i j => .int (i + j)) (tOp (rI CMul fun i j => .int (i * j)) (tOp (rI (fun _ j => 0 < j) fun i j => .int (i % j)) (tCB (fun xs H Q => ∃ i, xs = [.int i] ∧ Q (.int (if i < 0 then -i else i)) H) (tCons (tVar 2) tNil)) (tC (.int 1152921504606846883))) (tC (.int 67))) (tOp (rI CMul fun i j => .int (i * j)) (tC (.int 937)) (tVar 1)))
        (tOp (rI CMul fun i j => .int (i * j)) (tC (.int 37)) (tCB (fun xs H Q => (∃ i, xs = [.int i] ∧ Q (.int i) H) ∨ ∃ k, xs = [.bl k] ∧ Q (.int (if k then 1 else 0)) H) (tCons (tOp (rI0 fun i j => .bl (decide (i < j))) (tVar 2) (tC (.int 0))) tNil)))) (tC (.int 29))) (tCons (tC (.int 0)) tNil)))))
      { nx := fun _ H' => Q .non H', rt := Q } [some (.ref a), some (.int i), some (.int c), none] H := fun c => by
    have pw : ∀ k : Int, 0 ≤ k → k ≤ 1000000 → CPow 10 k := fun k h1 h2 => ⟨h1, h2, by decide⟩
    refine ⟨_, rfl, _, rfl, _, _, rfl, rfl, pw _ (by decide) (by decide), _, _, rfl, rfl, _, _, rfl, _, _, rfl, rfl, pw _ (by decide) (by decide), _, _, rfl, rfl, pw _ (by decide) (by decide), _, _, rfl, rfl,
      wide_mul (i := 10 ^ (58 : Int).toNat) (j := 10 ^ (60 : Int).toNat) (a := 300) (b := 300) (by decide +kernel) (by decide +kernel) (by decide) (by decide) (by decide), _, _, rfl, rfl, (by show (0 : Int) < 10 ^ (58 : Int).toNat * 10 ^ (60 : Int).toNat; decide +kernel), ?_⟩
    have nn := Int.emod_nonneg (if (if c < 0 then -c else c) - 10 ^ (17 : Int).toNat > 0 then (if c < 0 then -c else c) - 10 ^ (17 : Int).toNat else 0) (show (10 : Int) ^ (58 : Int).toNat * 10 ^ (60 : Int).toNat ≠ 0 by decide +kernel)
    have m1 := Int.emod_lt_of_pos (if c < 0 then -c else c) (show (0 : Int) < 1152921504606846883 by decide)
    have m0 := Int.emod_nonneg (if c < 0 then -c else c) (show (1152921504606846883 : Int) ≠ 0 by decide)
    refine ⟨_, rfl, _, rfl, _, rfl, _, _, rfl, rfl, (by show (0 : Int) < 1152921504606846883; decide), _, _, rfl, rfl, .inr ⟨by decide, by decide⟩, _, rfl, _, _, rfl, rfl, .inl ⟨by decide, by decide⟩, _, _, rfl, rfl, _, rfl, _, _, rfl, rfl, .inr ⟨_, rfl, _, _, rfl, rfl, .inl ⟨by decide, by decide⟩, _, _, rfl, rfl, _, _, rfl, rfl, ?_⟩⟩
    exact ⟨by show 3 ≤ sizeLine; decide, fun p hp => k _ p ⟨_, _, _, rfl, nn⟩ hp⟩
  refine ⟨_, rfl, _, rfl, a, _, rfl, .inl hS, _, _, rfl, rfl, _, rfl, ?_⟩
  refine ite2 (fun c0 => ?_) (fun c0 => ?_)
  · have c1 : i < ((ns.map V.int).length : Int) := of_decide_eq_true c0
    rw [List.length_map] at c1
    have c2 : i.toNat < ns.length := by omega
    have e : (ns.map V.int)[i.toNat]? = some (.int ns[i.toNat]) := by rw [List.getElem?_map, List.getElem?_eq_getElem c2]; rfl
    exact ⟨_, rfl, _, rfl, a, _, _, _, rfl, rfl, hS, at_of (by omega) e, .inl ⟨_, rfl, rest _⟩⟩
  · exact ⟨_, rfl, _, _, rfl, rfl, .inl ⟨by decide, by decide⟩, _, _, rfl, rfl, rest _⟩
theorem ok_pick {f fR : Addr} {fd fdR : FuncData} (F : Fun K "_law_pick" "_law_pick" sPick f fd) (T : Txt K mg) (gR : mg "_law_roll" = some (.ref fR)) (kR : PySem.W.keepIn K (.ref fR) = true) (bR : Binds K fdR ["dice", "total"] [])
    (R : FnOk P w K mg base CX0 1 fR fdR ["dice", "total"] spRoll) : FnOk P w K mg base CX0 2 f fd ["dice", "items"] spPick := by
  refine F.ok scPick (fun vs H Q E h => ?_) (fun cdv A outer s H vs Q E hr h => ?_)
  · obtain ⟨d, n, L, M, rfl, _⟩ := h; rfl
  obtain ⟨d, l, xs, L, rfl, hd, hL, hl, ne, h0, hz, k⟩ := h
  refine ⟨_, pss_one (ps_ret (pe_ix ix_list (pv 1) (pe_call R hr (by rfl) gR kR bR .nil pass0 (pa_cons (pv 0) (pa_cons (pe_callB call_len_seq (by rfl) T.len PySem.boot_len (pa_cons (pv 1) pa_nil)) pa_nil))) (fun _ _ => rfl))), ?_⟩
  have hp : 0 < xs.length := List.length_pos_iff.mpr h0
  refine ⟨_, rfl, _, rfl, _, rfl, l, _, rfl, .inl (SqL.of hl), d, (xs.length : Int), L, rfl, by omega, Nat.lt_trans (by omega : (xs.length : Int).natAbs < 1000) (by decide), hd, hL, fun i L' i0 i1 hL' => ?_⟩
  have hx : xs[i.toNat]? = some xs[i.toNat] := List.getElem?_eq_getElem (by omega)
  exact ⟨l, _, _, _, rfl, rfl, SqL.of (by rw [upd_ne ne]; exact hl), at_of (by omega) hx, k _ L' (List.getElem_mem _) hL'⟩

end
end K9
namespace K9
open PySem PySem.Spec PyProof.Rows L2
/-! ### values of any kind -/
inductive Vk (K : PySem.W.Frag) (H : Hp) : V → Prop
  | non : Vk K H .non
  | bl (b : Bool) : Vk K H (.bl b)
  | int (i : Int) : Vk K H (.int i)
  | str (z : Str) : Vk K H (.str z)
  | tup {a : Addr} {xs : List V} (h : SqT K H a xs) : Vk K H (.ref a)
  | lst {a : Addr} {xs : List V} (h : H a = some (.lst xs)) : Vk K H (.ref a)
  | dic {a : Addr} {kvs : List (Key × V)} (h : H a = some (.dK kvs)) : Vk K H (.ref a)
def isI : V → Bool
  | .int _ => true
  | _ => false
theorem tyT {K : PySem.W.Frag} {H : Hp} {a : Addr} {xs : List V} (h : SqT K H a xs) : TyX K H (.ref a) (.type "tuple") := by
  rcases h with (h | ⟨o, h⟩) | ⟨o, its, n, h1, h2, _⟩
  · exact .base (.tup h)
  · exact .fTuple h
  · exact .kTuple h1 h2
/-- the name of the type, and what isinstance says of int, bool and tuple -/
def isT : V → Bool
  | .ref _ => true
  | _ => false
theorem vk_ty {K : PySem.W.Frag} {H : Hp} {x : V} (h : Vk K H x) : ∃ T : String, TyX K H x (.type T) ∧ ∃ bi bb : Bool, kitB T "int" = some bi ∧ kitB T "bool" = some bb ∧ (bi && !bb) = isI x := by
  cases h with
  | non => exact ⟨"NoneType", .base .non, false, false, by decide +kernel, by decide +kernel, rfl⟩
  | bl b => exact ⟨"bool", .base (.bl _), true, true, by decide +kernel, by decide +kernel, rfl⟩
  | int i => exact ⟨"int", .base (.int _), true, false, by decide +kernel, by decide +kernel, rfl⟩
  | str z => exact ⟨"str", .base (.str _), false, false, by decide +kernel, by decide +kernel, rfl⟩
  | tup h => exact ⟨"tuple", tyT h, false, false, by decide +kernel, by decide +kernel, rfl⟩
  | lst h => exact ⟨"list", .base (.lst h), false, false, by decide +kernel, by decide +kernel, rfl⟩
  | dic h => exact ⟨"dict", .base (.dK h), false, false, by decide +kernel, by decide +kernel, rfl⟩
/-- integers of at most sixty digits -/
def i60 : V → Bool
  | .int i => decide (-(10 ^ 60) < i) && decide (i < 10 ^ 60)
  | _ => false
def spIsWhole (K : PySem.W.Frag) : Sp := fun vs H Q _ => ∃ x : V, vs = [x] ∧ Vk K H x ∧ Q (.bl (isI x)) H
def spIsInt (K : PySem.W.Frag) : Sp := fun vs H Q _ => ∃ x : V, vs = [x] ∧ Vk K H x ∧ Q (.bl (i60 x)) H
theorem scIsWhole : FnScope ["value"] ["value"] (defScope sIsWhole) := ⟨rfl, rfl, rfl, by decide +kernel, rfl, by decide +kernel, by decide +kernel⟩
theorem scIsInt : FnScope ["value"] ["value"] (defScope sIsInt) := ⟨rfl, rfl, rfl, by decide +kernel, rfl, by decide +kernel, by decide +kernel⟩
theorem bootIsi : bootBuiltins "isinstance" = some (.builtin "isinstance") := by decide +kernel
theorem bootBool : bootBuiltins "bool" = some (.type "bool") := by decide +kernel
theorem bootTuple : bootBuiltins "tuple" = some (.type "tuple") := by decide +kernel
def betw (x : V) (a b : Int) : Bool := match x with
  | .int i => i60 (.int i) && (decide (a ≤ i) && decide (i ≤ b))
  | _ => false
def spBetw (K : PySem.W.Frag) : Sp := fun vs H Q _ => ∃ (x : V) (a b : Int), vs = [x, .int a, .int b] ∧ Vk K H x ∧ Q (.bl (betw x a b)) H
theorem scBetw : FnScope ["value", "least", "most"] ["value", "least", "most"] (defScope sBetween) := ⟨rfl, rfl, rfl, by decide +kernel, rfl, by decide +kernel, by decide +kernel⟩
section
variable {P : Program} {w : World} {K : PySem.W.Frag} {mg : Str → Option Value} {base : Heap}
theorem ok_iswhole {f : Addr} {fd : FuncData} (F : Fun K "is_whole" "is_whole" sIsWhole f fd) (T : Txt K mg) : FnOk P w K mg base CX0 1 f fd ["value"] (spIsWhole K) := by
  refine F.ok scIsWhole (fun vs H Q E h => ?_) (fun cdv A outer s H vs Q E hr h => ?_)
  · obtain ⟨a, rfl, _⟩ := h; rfl
  obtain ⟨x, rfl, hx, k⟩ := h
  refine ⟨_, pss_one (ps_ret (pe_and (pe_callB call_isi (by rfl) T.isi bootIsi (pa_cons (pv 0) (pa_cons (pe_bltn (v := .ty "int") (by rfl) T.int bootInt rfl) pa_nil)))
    (pe_one (pe_not (pe_callB call_isi (by rfl) T.isi bootIsi (pa_cons (pv 0) (pa_cons (pe_bltn (v := .ty "bool") (by rfl) T.bool bootBool rfl) pa_nil))))))), ?_⟩
  obtain ⟨Ty, ty, bi, bb, e1, e2, e3⟩ := vk_ty hx
  refine ⟨_, rfl, x, _, _, _, bi, rfl, .ty "int", ty, kit_ty e1, _, rfl, ?_⟩
  cases bi with
  | false =>
    refine iteF ?_
    have e4 : isI x = false := by rw [← e3]; rfl
    rw [← e4]
    exact k
  | true =>
    refine iteT ⟨_, rfl, x, _, _, _, bb, rfl, .ty "bool", ty, kit_ty e2, _, rfl, ?_⟩
    have e4 : isI x = !bb := by rw [← e3]; rfl
    rw [← e4]
    exact k
theorem ok_isint {f fW : Addr} {fd fdW : FuncData} (F : Fun K "is_integer" "is_integer" sIsInt f fd) (T : Txt K mg) (gW : mg "is_whole" = some (.ref fW)) (kW : PySem.W.keepIn K (.ref fW) = true) (bW : Binds K fdW ["value"] [])
    (W : FnOk P w K mg base CX0 1 fW fdW ["value"] (spIsWhole K)) : FnOk P w K mg base CX0 2 f fd ["value"] (spIsInt K) := by
  refine F.ok scIsInt (fun vs H Q E h => ?_) (fun cdv A outer s H vs Q E hr h => ?_)
  · obtain ⟨a, rfl, _⟩ := h; rfl
  obtain ⟨x, rfl, hx, k⟩ := h
  obtain ⟨t, hB⟩ := T.cLIMIT
  refine ⟨_, pss_one (ps_ret (pe_and (pe_call W hr (by rfl) gW kW bW .nil pass0 (pa_cons (pv 0) pa_nil))
    (pe_one (pe_chain op_lt op_lt (pe_un un_neg (pe_glob (v := .int (10 ^ 60)) (by rfl) hB ⟨_, rfl⟩)) (pv 0) (pe_glob (v := .int (10 ^ 60)) (by rfl) hB ⟨_, rfl⟩))))), ?_⟩
  refine ⟨_, rfl, x, rfl, hx, _, rfl, ?_⟩
  cases x with
  | int i =>
    refine iteT ⟨_, rfl, _, rfl, _, _, rfl, rfl, _, rfl, ?_⟩
    have q : Q (.bl (decide (-(10 ^ 60) < i) && decide (i < 10 ^ 60))) H := k
    by_cases c : -(10 ^ 60 : Int) < i
    · rw [decide_eq_true c] at q ⊢
      exact iteT ⟨_, _, rfl, rfl, q⟩
    · rw [decide_eq_false c] at q ⊢
      exact iteF q
  | non => exact iteF k
  | bl b => exact iteF k
  | str z => exact iteF k
  | byt z => exact iteF k
  | flt z => exact iteF k
  | ref a => exact iteF k
  | ty n => exact iteF k
theorem ok_betw {f fW : Addr} {fd fdW : FuncData} (F : Fun K "is_between" "is_between" sBetween f fd) (gW : mg "is_integer" = some (.ref fW)) (kW : PySem.W.keepIn K (.ref fW) = true) (bW : Binds K fdW ["value"] [])
    (W : FnOk P w K mg base CX0 2 fW fdW ["value"] (spIsInt K)) : FnOk P w K mg base CX0 3 f fd ["value", "least", "most"] (spBetw K) := by
  refine F.ok scBetw (fun vs H Q E h => ?_) (fun cdv A outer s H vs Q E hr h => ?_)
  · obtain ⟨a, b, c, rfl, _⟩ := h; rfl
  obtain ⟨x, a, b, rfl, hx, k⟩ := h
  refine ⟨_, pss_one (ps_ret (pe_and (pe_call W hr (by rfl) gW kW bW .nil pass0 (pa_cons (pv 0) pa_nil)) (pe_one (pe_chain op_le op_le (pv 1) (pv 0) (pv 2))))), ?_⟩
  refine ⟨_, rfl, x, rfl, hx, _, rfl, ?_⟩
  cases x with
  | int i =>
    have q : Q (.bl (i60 (.int i) && (decide (a ≤ i) && decide (i ≤ b)))) H := k
    cases c0 : i60 (.int i) with
    | false =>
      rw [c0] at q
      exact iteF q
    | true =>
      rw [c0] at q
      refine iteT ⟨_, rfl, _, rfl, _, _, rfl, rfl, _, rfl, ?_⟩
      by_cases c : a ≤ i
      · rw [decide_eq_true c] at q ⊢
        exact iteT ⟨_, rfl, _, _, rfl, rfl, q⟩
      · rw [decide_eq_false c] at q ⊢
        exact iteF q
  | non => exact iteF k
  | bl b => exact iteF k
  | str z => exact iteF k
  | byt z => exact iteF k
  | flt z => exact iteF k
  | ref a => exact iteF k
  | ty n => exact iteF k
end
end K9
namespace K9
open PySem PySem.Spec PyProof.Rows L2
theorem _root_.L2.Same.new {H : Hp} {p : Addr} {o : HO} (h : H p = none) : Same H (upd H p o) := fun b u e => by
  rw [upd_ne (ne_of_none e h)]
  exact e
theorem Vk.mono {K : PySem.W.Frag} {H H' : Hp} {x : V} (h : Vk K H x) (s : Same H H') : Vk K H' x := by
  cases h with
  | non => exact .non
  | bl b => exact .bl b
  | int i => exact .int i
  | str z => exact .str z
  | tup h =>
    rcases h with (h | ⟨o, h⟩) | h
    · exact .tup (.inl (.inl (s _ _ h)))
    · exact .tup (.inl (.inr ⟨o, s _ _ h⟩))
    · exact .tup (.inr h)
  | lst h => exact .lst (s _ _ h)
  | dic h => exact .dic (s _ _ h)
theorem tupSame {K : PySem.W.Frag} {H H' : Hp} {a : Addr} {xs : List V} (s : Same H H') (h : SqT K H a xs) : SqT K H' a xs := by
  rcases h with (h | ⟨o, h⟩) | h
  · exact .inl (.inl (s _ _ h))
  · exact .inl (.inr ⟨o, s _ _ h⟩)
  · exact .inr h
theorem bootAll : bootBuiltins "all" = some (.builtin "all") := by decide +kernel
theorem bootSum : bootBuiltins "sum" = some (.builtin "sum") := by decide +kernel
theorem bootList : bootBuiltins "list" = some (.type "list") := by decide +kernel
theorem bootMin : bootBuiltins "min" = some (.builtin "min") := by decide +kernel
/-- what is_letters says -/
inductive LetIs (K : PySem.W.Frag) (H : Hp) : V → Bool → Prop
  | non : LetIs K H .non false
  | bl (b : Bool) : LetIs K H (.bl b) false
  | int (i : Int) : LetIs K H (.int i) false
  | str (z : Str) : LetIs K H (.str z) false
  | lst {a : Addr} {xs : List V} (h : H a = some (.lst xs)) : LetIs K H (.ref a) false
  | dic {a : Addr} {kvs : List (Key × V)} (h : H a = some (.dK kvs)) : LetIs K H (.ref a) false
  | long {a : Addr} {xs : List V} (h : SqT K H a xs) (n : 24 < xs.length) : LetIs K H (.ref a) false
  | tup {a : Addr} {xs : List V} (h : SqT K H a xs) (n : xs.length ≤ 24) (v : ∀ x ∈ xs, Vk K H x) : LetIs K H (.ref a) (xs.all fun x => betw x 1 40)
def spIsLet (K : PySem.W.Frag) : Sp := fun vs H Q _ => ∃ (x : V) (b : Bool), vs = [x] ∧ LetIs K H x b ∧ ∀ H', Same H H' → Q (.bl b) H'
/-- the list that a comprehension of booleans makes, behind i turns -/
def blT (f : V → Bool) (xs : List V) : HO := .lst (xs.map fun x => V.bl (f x))
theorem take_snoc {α : Type} {xs : List α} {i : Nat} {x : α} (h : xs[i]? = some x) : xs.take (i + 1) = xs.take i ++ [x] := by
  rw [List.take_add_one, h]
  rfl
section
variable {P : Program} {w : World} {K : PySem.W.Frag} {mg : Str → Option Value} {base : Heap}
end
end K9
namespace K9
open PySem PySem.Spec PyProof.Rows L2 RZ
/-! ### enumerate(tuple) -/
set_option maxHeartbeats 4000000 in
theorem meets_enumT (l : Addr) (items : Array Value) :
    Meets (Builtin.«enumerate.__new__» ⟨[.type "enumerate", .ref l], []⟩) (fun _ R s => s.heap.IsTuple l items ∧
      R (.ok (.ret (.ref (s.heap.push { cls := .type "tuple_iterator", data := .fields #[.ref l, .int 0 0] }).objs.size)))
        { s with heap := (s.heap.push { cls := .type "tuple_iterator", data := .fields #[.ref l, .int 0 0] }).push { cls := .type "enumerate", data := .fields #[.none, .bool false, .ref s.heap.objs.size, rawInt 0, .none, .none] } }) :=
  .of_wp fun prog w A R s h => by
    obtain ⟨hp, g, d, tk, os⟩ := s
    obtain ⟨hl, h⟩ := h
    have sub := sub_enumerate
    have it : ∀ {A' : Around} {E : Value → Shared → Prop} {Q : Value → Shared → Prop}, Q (.ref hp.objs.size) ⟨hp.push { cls := .type "tuple_iterator", data := .fields #[.ref l, .int 0 0] }, g, d, tk, os⟩ → wpAny (model prog w) A' (pyIter (.ref l)) Q E ⟨hp, g, d, tk, os⟩ :=
      fun q => wpAny_pyIter_tuple (s := ⟨hp, g, d, tk, os⟩) hl q
    wp_walk using it
    refine wpAny_stack_any fun _ => wpAny_pure ?_
    split
    · rename_i c _ _ _ _ _
      cases (c == Value.type "enumerate") <;> (wp_walk using it; exact ⟨_, rfl, h⟩)
    · wp_walk using it
      exact ⟨_, rfl, h⟩
section
variable {prog : Program} {w : World} {A : Around} {E : Value → Shared → Prop} {s : Shared}
theorem call_enumT {l : Addr} {items : Array Value} {Q : Value → Shared → Prop} (hL : s.heap.IsTuple l items)
    (h : ∀ h', IsEnum h' (s.heap.objs.size + 1) s.heap.objs.size 0 .none → h'.IsTupleIter s.heap.objs.size l 0 → h'.objs.size = s.heap.objs.size + 2 → (∀ b o, s.heap.get? b = some o → h'.get? b = some o) → Q (.ref (s.heap.objs.size + 1)) { s with heap := h' }) :
    wpAny (model prog w) A (call (.type "enumerate") [.ref l]) Q E s := by
  refine callType_new F.called_enumerate (by decide) (F.typeCall_enumerate_1 _) (F.newCall_enumerate_1 _) (fun obj => F.args_object_init_2 obj _) F.entry_enumerate_new (meets_enumT l items) ⟨hL, ?_⟩
  show _ ∧ _
  have z1 : (s.heap.push { cls := .type "tuple_iterator", data := .fields #[.ref l, .int 0 0] }).objs.size = s.heap.objs.size + 1 := Heap.size_push ..
  have he := Heap.get?_push_size (s.heap.push { cls := .type "tuple_iterator", data := .fields #[.ref l, .int 0 0] }) (o := { cls := .type "enumerate", data := .fields #[.none, .bool false, .ref s.heap.objs.size, rawInt 0, .none, .none] }) rfl
  rw [z1] at he ⊢
  refine ⟨⟨_, he, rfl⟩, h _ he ⟨_, Heap.get?_push_of_some _ (Heap.get?_push_size _ rfl), rfl, rfl⟩ ?_ fun b o x => Heap.get?_push_of_some _ (Heap.get?_push_of_some _ x)⟩
  rw [Heap.size_push, z1]
end
section
variable {prog : Program} {w : World} {A : Around} {E : Value → Shared → Prop} {s : Shared}
theorem enum_endT {e it l : Addr} {i : Nat} {k : Int} {items : Array Value} {old : Value} {Q : Option Value → Shared → Prop} (hh : A.handled = none) (he : IsEnum s.heap e it k old) (hit : s.heap.IsTupleIter it l i) (hl : s.heap.IsTuple l items) (hx : items[i]? = none)
    (q : ∀ h', Heap.ExtBut it s.heap h' → Q none { s with heap := h' }) : wpAny (model prog w) A (pyNext (.ref e)) Q E s := by
  have ty : s.TypeIs (.ref e) "enumerate" := ⟨_, he, rfl⟩
  unfold pyNext
  refine wpAny_bind (wpAny_attempt (wpAny_callSpecial?_slot (name := Str.ofString "__next__") ty F.slot_enumerate_next (wpAny_call_entry F.slot_enumerate_next ty F.entry_enumerate_next ?_ (F.args_enumerate_next_1 _))))
  show wpAny _ _ (field (.ref e) 2 >>= _) _ _ s
  refine wpAny_bind (wpAny_field he rfl (x := .ref it) rfl (wpAny_bind (nextOf_tuple_end hh hit hl hx fun h' x eb sx => ?_)))
  obtain ⟨o, go, co⟩ := sx
  exact wpAny_bind (wpAny_isInstance (T := "StopIteration") (b := true) ⟨o, go, co⟩ isSubtype_stop (wpAny_pure (q _ eb)))
end
/-- the tuple at a, each item in a new pair behind its index -/
def IteT (K : PySem.W.Frag) (a : Addr) : It :=
  ⟨fun i H => ∃ (xs : List V) (x : V), SqT K H a xs ∧ xs[i]? = some x, fun i H v H' => ∃ T x, v = .ref T ∧ H T = none ∧ H' = upd H T (.tup [.int (i : Nat), x]) ∧ ∀ xs, SqT K H a xs → xs[i]? = some x, fun i H => ∃ xs : List V, SqT K H a xs ∧ xs.length ≤ i⟩
theorem turn_enumT {P : Program} {w : World} {K : PySem.W.Frag} {elts : List Expr} {kk : Nat} {tpos : Pos} (a e it : Addr) :
    Turn P w K (.Tuple elts kk tpos) (IteT K a) [e, it] e (fun i h => (∃ old, IsEnum h e it ((i : Nat) : Int) old) ∧ h.IsTupleIter it a i ∧ e ≠ it ∧ a ≠ it ∧ a ≠ e) where
  mem := by simp
  obj := fun i h st b hb => by
    obtain ⟨⟨old, he⟩, ⟨o, ho, hc, hd⟩, _⟩ := st
    rcases List.mem_cons.mp hb with z | z
    · rw [z]
      exact ⟨_, he, fun v q => nomatch q⟩
    · rw [List.mem_singleton.mp z]
      exact ⟨o, ho, fun v q => by rw [hd] at q; cases q⟩
  keep := fun i h h' st k => by
    obtain ⟨⟨old, he⟩, hi, r⟩ := st
    exact ⟨⟨old, k e (by simp) _ he⟩, hi.at fun o q => k it (by simp) o q, r⟩
  item := by
    intro X hP hw hK hc i pins s σ H E I hf st hg
    subst hP hw hK
    obtain ⟨⟨old, he⟩, hit, hne, nai, nae⟩ := st
    obtain ⟨xs, x, hq, hx⟩ := hg
    obtain ⟨its, rv, p, hz⟩ := I.tuple hq
    have ht : s.heap.IsTuple a its.toArray := p
    obtain ⟨u, hu, ru⟩ := rv.get hx
    have hel : e < s.heap.objs.size := Heap.lt_size he
    have hil : it < s.heap.objs.size := by
      obtain ⟨_, q, _⟩ := hit
      exact Heap.lt_size q
    have hu2 : its.toArray[i]? = some u := by simpa using hu
    have hlt : i < its.toArray.size := (Array.getElem?_eq_some_iff.mp hu2).1
    refine wpAny_pyNext_enum_itemD (Draws.tuple (A := X.A.in1) (I.ok.hd hc) it a nai its.toArray) he ⟨hit, ht⟩ hlt hne (by simp only [List.mem_cons, List.not_mem_nil, or_false, not_or]; exact ⟨hne, fun z => nae z.symm⟩) fun y h' tk hP ho st' hT hsz hk => ?_
    have ey : y = u := by
      have hP' : its.toArray[i]? = some y := hP
      rw [hu2] at hP'
      exact (Option.some.inj hP').symm
    subst ey
    refine ⟨_, rfl, wpAny_letOwnedTupleGo_enum (s := { s with heap := h', toks := tk + 1 }) ho fun h'' he' sb => ?_⟩
    have hT2 : h''.get? s.heap.objs.size = some { cls := .type "tuple", data := .seq #[.int i tk, y] } := (sb.2 _ (Nat.ne_of_gt hel)).trans hT
    have new : ObjOk X.prog X.w (upd H s.heap.objs.size (.tup [.int (i : Nat), x])) h'' s.heap.objs.size (.tup [.int (i : Nat), x]) := ⟨by show 2 ≤ sizeLine; decide, [.int i tk, y], .cons ⟨_, rfl⟩ (.cons ru .nil), ⟨_, hT2, rfl, _, rfl⟩⟩
    have I1 : Inv X pins σ (upd H s.heap.objs.size (.tup [.int (i : Nat), x])) { s with heap := h'', toks := tk + 1 } :=
      I.turnedNew (t' := tk + 1) (ch := [e, it]) (fun b ob hb q => (sb.2 b (fun z => hb (by simp [z]))).trans (hk b ob (fun z => hb (by simp [z])) (fun z => hb (by simp [z])) q)) hf (Nat.le_refl _) new
    refine ⟨.ref s.heap.objs.size, _, I1, rfl, ⟨_, x, rfl, I.hok.fresh (Nat.le_refl _), rfl, fun ys hy => by rw [I.tuple_inj hy hq]; exact hx⟩, ⟨⟨y, ?_⟩, st'.1.at fun o q => (sb.2 it (Ne.symm hne)).trans q, hne, nai, nae⟩, fun b hb => ?_⟩
    · have e1 : ((i + 1 : Nat) : Int) = (i : Int) + 1 := by omega
      rw [e1]
      exact he'
    · have hb' : b < s.heap.objs.size := by
        rcases List.mem_cons.mp hb with z | z
        · rw [z]
          exact hel
        · rw [List.mem_singleton.mp z]
          exact hil
      rw [upd_ne (Nat.ne_of_lt hb')]
      exact (hf b hb).1
  done := by
    intro X hP hw hK hc i pins s σ H E I hf st hg
    subst hP hw hK
    obtain ⟨⟨old, he⟩, hit, hne, nai, nae⟩ := st
    obtain ⟨xs, hq, hx⟩ := hg
    obtain ⟨its, rv, p, hz⟩ := I.tuple hq
    have ht : s.heap.IsTuple a its.toArray := p
    have hl := rv.length
    have none' : its.toArray[i]? = none := by
      rw [Array.getElem?_eq_none_iff, List.size_toArray]
      omega
    refine enum_endT (I.ok.hd hc) he hit ht none' fun h' eb => ⟨rfl, I.turnedL (t' := s.toks) (ch := [e, it]) (fun b o hb q => eb b o (fun z => hb (by simp [z])) q) hf⟩
  self := fun A i s Q E st h => by
    obtain ⟨⟨_, he⟩, _⟩ := st
    exact wpAny_pyIter_enum he h
def iEnumT (K : PySem.W.Frag) (ta : TA) : TI := fun σ H R => ta σ H fun vs H1 => ∃ a xs, vs = [.ref a] ∧ SqT K H1 a xs ∧ R (IteT K a) H1
theorem pi_enumT {X : Cx} {e : Expr} {ta : TA} {p pos tpos : Pos} {elts : List Expr} {kk : Nat} (hg : Gl X "enumerate") (hm : X.mg "enumerate" = none) (ha : PA X [e] ta) (hs : starEach [e] X.env = [(false, eval e X.env)] := by rfl) :
    PI X (.Tuple elts kk tpos) (.Call (.Name "enumerate" p) [e] [] pos) (iEnumT X.K ta) := by
  refine ⟨fun pins s σ H R I h => Call_ (ld_blt I hg hm boot_enumerate (PyProof.Rows.callWith_type1 (thn (ha.run pos pins s σ H _ I h) fun us s1 ⟨vs, H1, I1, r1, q1⟩ => ?_) hs rfl))⟩
  obtain ⟨a, xs, rfl, hq, q⟩ := q1
  rw [Vals.ref1 r1]
  obtain ⟨its, rv, p', hz⟩ := I1.tuple hq
  have ht : s1.heap.IsTuple a its.toArray := p'
  have al : a < s1.heap.objs.size := by
    obtain ⟨o, ho, _⟩ := ht
    exact Heap.lt_size ho
  refine call_enumT ht fun h' he hit hsz hk => wpAny_pyIter_enum he ?_
  refine ⟨s1.heap.objs.size + 1, [s1.heap.objs.size + 1, s1.heap.objs.size], _, _, H1, rfl, I1.kept (t' := s1.toks) hk, turn_enumT a (s1.heap.objs.size + 1) s1.heap.objs.size, ⟨⟨.none, he⟩, hit, Nat.succ_ne_self _, Nat.ne_of_lt al, Nat.ne_of_lt (Nat.lt_succ_of_lt al)⟩, fun b hb => ?_, q⟩
  have hle : s1.heap.objs.size ≤ b := by
    rcases List.mem_cons.mp hb with z | z
    · rw [z]
      exact Nat.le_add_right _ _
    · rw [List.mem_singleton.mp z]
      exact Nat.le_refl _
  exact I1.fpOk hle (I1.hok.fresh hle)
theorem walk_enumT {K : PySem.W.Frag} {a : Addr} {xs : List V} : Walk (IteT K a) xs.length (fun H => SqT K H a xs) (YPair (fun i => some (.int (i : Nat))) (fun i => xs[i]?)) := by
  refine ⟨fun i _ hi q => ⟨xs, xs[i], q, by simp [hi]⟩, fun _ q => ⟨xs, q, Nat.le_refl _⟩, fun i H v H' _ q y => ?_⟩
  obtain ⟨T, x, h1, h2, h3, h4⟩ := y
  exact ⟨T, _, x, h1, h2, h3, rfl, h4 xs q⟩
theorem walk_zipT {K : PySem.W.Frag} {a b : Addr} {xs ys : List V} {n : Nat} (hn : n = min xs.length ys.length) : Walk (ItzT K a b) n (fun H => SqT K H a xs ∧ SqT K H b ys) (YPair (fun i => xs[i]?) (fun i => ys[i]?)) := by
  subst hn
  refine ⟨fun i _ hi q => ?_, fun _ q => ⟨xs, ys, q.1, q.2, by omega⟩, fun i H v H' _ q y => ?_⟩
  · have h1 : i < xs.length := by omega
    have h2 : i < ys.length := by omega
    exact ⟨xs, ys, xs[i], ys[i], q.1, q.2, by simp [h1], by simp [h2]⟩
  · obtain ⟨T, x, z, h1, h2, h3, h4, h5⟩ := y
    exact ⟨T, x, z, h1, h2, h3, h4 xs q.1, h5 ys q.2⟩
/-! ### sum(tuple) -/
def rSumT (K : PySem.W.Frag) : List V → Hp → VK → Prop := fun vs H Q => ∃ (a : Addr) (ns : List Int), vs = [V.ref a] ∧ SqT K H a (ns.map V.int) ∧ Q (.int ns.sum) H
theorem cr_sumT {X : Cx} (hc : X.calm = true) : CallR X (.builtin "sum") (rSumT X.K) := by
  intro pins s σ H vs us Q I r h
  obtain ⟨a, ns, rfl, hs, q⟩ := h
  obtain ⟨its, rv, p, _⟩ := I.tuple hs
  rw [Vals.ref1 r]
  have hl : s.heap.IsTuple a its.toArray := p
  obtain ⟨xs, hx⟩ := rv.ints.allInts.items
  have hn : numsOf its.toArray.toList = ns := by rw [show its.toArray.toList = its from rfl, rv.ints.numsOf]
  rw [hx] at hl hn
  rw [nums_intItems] at hn
  refine PySem.W.ktm_sumG (I.ok.hd hc) hl fun h' tk t' hk => ?_
  rw [preSum_eq, List.take_of_length_le (by simp), hn]
  exact ⟨.int _, H, I.kept hk, ⟨_, rfl⟩, q⟩
end K9
namespace K9
open PySem PySem.Spec PyProof.Rows L2
/-! ### tuple * int, also 0 and 1 times -/
theorem tup_times1 (l : Addr) (items : Array Value) (n : Nat) (dd : Option Addr) (sl : Array (Option Value)) (u : Tok) :
    Meets (Builtin.«tuple.__mul__» ⟨[.ref l, .int 1 u], []⟩) (fun _ R s => s.heap.get? l = some { cls := .type "tuple", dict := dd, data := .seq items n, slots := sl } ∧ R (.ok (.ret (Value.ref l))) s) :=
  .of_wp fun prog w A R s h => by
    obtain ⟨hp, g, d, tk, os⟩ := s
    obtain ⟨hl, h⟩ := h
    have f1 := AutoSeq1.idx_int
    have c1 : (items.isEmpty || (1 : Int) == 1) = true := by simp
    wp_walk using wpAny_loadPart' hl
    repeat (first
      | (refine wpAny_ite_true (decide_eq_true (by rw [c1])) ?_; wp_walk using wpAny_loadPart' hl)
      | (refine wpAny_ite_false (decide_eq_false (by decide)) ?_; wp_walk using wpAny_loadPart' hl))
    all_goals exact ⟨_, rfl, h⟩
theorem tup_times0 (l : Addr) (items : Array Value) (n : Nat) (dd : Option Addr) (sl : Array (Option Value)) (u : Tok) (c1 : (items.isEmpty || (0 : Int) == 1) = false) :
    Meets (Builtin.«tuple.__mul__» ⟨[.ref l, .int 0 u], []⟩) (fun _ R s => s.heap.get? l = some { cls := .type "tuple", dict := dd, data := .seq items n, slots := sl } ∧
      R (.ok (.ret (Value.ref s.heap.objs.size))) { s with heap := s.heap.push { cls := Value.type "tuple", data := Data.seq #[] }, toks := s.toks }) :=
  .of_wp fun prog w A R s h => by
    obtain ⟨hp, g, d, tk, os⟩ := s
    obtain ⟨hl, h⟩ := h
    have f1 := AutoSeq1.idx_int
    wp_walk using wpAny_loadPart' hl
    repeat (first
      | (refine wpAny_ite_false (decide_eq_false (by rw [c1]; exact Bool.false_ne_true)) ?_; wp_walk using wpAny_loadPart' hl)
      | (refine wpAny_ite_true (decide_eq_true (by rfl)) ?_; wp_walk using wpAny_loadPart' hl)
      | (refine wpAny_ite_false (decide_eq_false (by decide)) ?_; wp_walk using wpAny_loadPart' hl))
    all_goals exact ⟨_, rfl, h⟩
def rMulT (K : PySem.W.Frag) : R2 := fun x y H Q => ∃ l k xs, x = .ref l ∧ y = .int k ∧ SqT K H l xs ∧ xs ≠ [] ∧ 0 ≤ k ∧ k ≤ 1000 ∧ xs.length ≤ 1000 ∧ (k = 1 → Q (.ref l) H) ∧ (k ≠ 1 → ∀ p, H p = none → Q (.ref p) (upd H p (.tup (List.replicate k.toNat xs).flatten)))
theorem op_mulT {X : Cx} : OpR X (binaryOp .Mult) (rMulT X.K) := by
  intro pins s σ H x y v u Q I rx ry h
  obtain ⟨l, k, xs, rfl, rfl, hT, hne, h0, h2, hz, q1, q2⟩ := h
  by_cases k2 : 2 ≤ k
  · exact op_repT pins s σ H _ _ v u Q I rx ry ⟨l, k, xs, rfl, rfl, hT, hne, k2, h2, hz, q2 (by omega)⟩
  cases rx
  obtain ⟨t, rfl⟩ := ry
  obtain ⟨its, r, ⟨⟨cls, dd, data, sl⟩, ho, hc, n, hd⟩, hs⟩ := I.tuple hT
  simp only at hc hd
  subst hc hd
  by_cases k1 : k = 1
  · subst k1
    exact wpAny_binaryOp_repeat_ref (T := "tuple") (U := "int") (by decide) ⟨_, ho, rfl⟩ (fun s' => typeIs_int s' 1 t) noFill_tuple_mul F.fills_int_mul F.slot_int_rmul repeat_tuple F.slot_int_index.lookup
      (call_meets F.slot_int_rmul (typeIs_int s 1 t) F.entry_int_rmul (F.args_int_rmul_2 _ _) (int_rmul_tuple 1 t l its.toArray n dd sl)
        ⟨ho, rfl, ⟨_, ho, rfl⟩, call_meets F.slot_tuple_mul ⟨_, ho, rfl⟩ F.entry_tuple_mul (F.args_tuple_mul_2 _ _) (tup_times1 l its.toArray n dd sl t) ⟨ho, ⟨.ref l, H, I, rfl, q1 rfl⟩⟩⟩)
  · have k0 : k = 0 := by omega
    subst k0
    have hle : its.length = xs.length := r.length.symm
    have hi : (its.toArray.isEmpty || (0 : Int) == 1) = false := by
      cases its with
      | nil =>
        rw [List.length_nil] at hle
        exact absurd (List.eq_nil_of_length_eq_zero hle.symm) hne
      | cons a b => rfl
    exact wpAny_binaryOp_repeat_ref (T := "tuple") (U := "int") (by decide) ⟨_, ho, rfl⟩ (fun s' => typeIs_int s' 0 t) noFill_tuple_mul F.fills_int_mul F.slot_int_rmul repeat_tuple F.slot_int_index.lookup
      (call_meets F.slot_int_rmul (typeIs_int s 0 t) F.entry_int_rmul (F.args_int_rmul_2 _ _) (int_rmul_tuple 0 t l its.toArray n dd sl)
        ⟨ho, rfl, ⟨_, ho, rfl⟩, call_meets F.slot_tuple_mul ⟨_, ho, rfl⟩ F.entry_tuple_mul (F.args_tuple_mul_2 _ _) (tup_times0 l its.toArray n dd sl t hi)
          ⟨ho, ⟨.ref s.heap.objs.size, _, I.laid (t' := s.toks) (o := .tup []) (fun b ob q => Heap.get?_push_of_some _ q) (Nat.le_refl _) ⟨by show 0 ≤ sizeLine; decide, [], .nil, IsTup.new _ _⟩, rfl, q2 (by decide) _ (I.hok.fresh (Nat.le_refl _))⟩⟩⟩)
end K9
namespace K9
open PySem PySem.Spec PyProof.Rows L2 RZ
abbrev iV (L : List Int) : List V := L.map V.int
/-- what a comprehension's walk asks -/
abbrev LcW (J : It) (g : TG) (tt : TT) (te : TE) (vs : List Nat) (σ : L2.St) (H : Hp) (D : Addr) (Qd : Hp → Prop) : Prop :=
  ∃ W : Nat → Nat → Hp → Prop, (∃ m, W 0 m (upd H D (.lst []))) ∧ ∀ i m H1, W i m H1 → (J.stop i H1 ∧ Qd H1) ∨ (J.go i H1 ∧ ∃ Nx : Hp → Prop, (∀ H', Nx H' → ∃ m', m' < m ∧ W (i + 1) m' H') ∧
    ∀ x H', J.yld i H1 x H' → g x (wipe σ vs) H' fun σ2 H2 => wipe σ2 vs = wipe σ vs ∧ tt σ2 H2 fun b H3 => if b = true then te σ2 H3 fun y H4 => ∃ acc, H4 D = some (.lst acc) ∧ acc.length < sizeLine ∧ Nx (upd H4 D (.lst (acc ++ [y]))) else Nx H3)
theorem take_more {α : Type} {xs : List α} {i : Nat} {x : α} (h : xs[i]? = some x) : xs.take (i + 1) = xs.take i ++ [x] := by
  rw [List.take_add_one, h]
  rfl
theorem Same.back {H H1 : Hp} {D : Addr} {o : HO} (s : Same H H1) (hD : H D = none) : Same H (upd H1 D o) := fun b u e => by
  rw [upd_ne (ne_of_none e hD)]
  exact s b u e
/-- over zip of two tuples of ints -/
theorem lc_zip2 {K : PySem.W.Frag} {a b : Addr} {L W : List Int} {i j : Nat} {te : TE} {vs : List Nat} {σ : L2.St} {H : Hp} {D : Addr} {Qd : Hp → Prop} (f : Int → Int → V) (hD : H D = none) (ha : SqT K H a (iV L)) (hb : SqT K H b (iV W)) (ln : L.length ≤ 1000)
    (hw : ∀ x y : V, wipe (((wipe σ vs).set i (some x)).set j (some y)) vs = wipe σ vs)
    (he : ∀ (n : Nat) (d e : Int) (H1 : Hp) (Q : VK), L[n]? = some d → W[n]? = some e → Same H H1 → (∀ H2, Same H1 H2 → Q (f d e) H2) → te (((wipe σ vs).set i (some (.int d))).set j (some (.int e))) H1 Q)
    (hd : ∀ H', Same H H' → H' D = some (.lst (List.zipWith f L W)) → Qd H') : LcW (ItzT K a b) (gTup K 2 (gCons (gName i) (gCons (gName j) gNil))) tYes te vs σ H D Qd := by
  have zl : (List.zipWith f L W).length = min L.length W.length := List.length_zipWith
  refine lc_it (walk_zipT (xs := iV L) (ys := iV W) rfl) (fun n H' => Same H H' ∧ H' D = some (.lst ((List.zipWith f L W).take n))) ⟨Same.new hD, upd_same⟩ (fun _ H' _ p => ⟨tupSame p.1 ha, tupSame p.1 hb⟩) (fun n x H1 H2 hn p y => ?_) fun H' p => ?_
  · obtain ⟨T, u, v, rfl, hT, rfl, hu, hv⟩ := y
    have hu : (iV L)[n]? = some u := hu
    have hv : (iV W)[n]? = some v := hv
    rw [List.getElem?_map] at hu hv
    obtain ⟨d, hd1, rfl⟩ := Option.map_eq_some_iff.mp hu
    obtain ⟨e, he1, rfl⟩ := Option.map_eq_some_iff.mp hv
    have s1 : Same H1 (upd H1 T (.tup [.int d, .int e])) := Same.new hT
    refine ⟨T, [.int d, .int e], rfl, SqT.of upd_same, rfl, .int d, [.int e], rfl, .int e, [], rfl, rfl, hw _ _, iteT (B := True) (he n d e _ _ hd1 he1 (p.1.trans s1) fun H2 s2 => ?_)⟩
    have zg : (List.zipWith f L W)[n]? = some (f d e) := by
      rw [List.getElem?_zipWith, hd1, he1]
    refine ⟨(List.zipWith f L W).take n, (s1.trans s2) _ _ p.2, small1000 (by rw [List.length_take]; omega), Same.back (p.1.trans (s1.trans s2)) hD, ?_⟩
    rw [upd_same, take_more zg]
  · refine hd H' p.1 ?_
    rw [p.2, List.take_of_length_le (by rw [zl, List.length_map, List.length_map]; omega)]
/-- over a tuple -/
theorem lc_tup1 {K : PySem.W.Frag} {a : Addr} {xs : List V} {i : Nat} {te : TE} {vs : List Nat} {σ : L2.St} {H : Hp} {D : Addr} {Qd : Hp → Prop} (f : V → V) (hD : H D = none) (ha : SqT K H a xs) (ln : xs.length ≤ 1000)
    (hw : ∀ x : V, wipe ((wipe σ vs).set i (some x)) vs = wipe σ vs)
    (he : ∀ (n : Nat) (x : V) (H1 : Hp) (Q : VK), xs[n]? = some x → Same H H1 → (∀ H2, Same H1 H2 → Q (f x) H2) → te ((wipe σ vs).set i (some x)) H1 Q)
    (hd : ∀ H', Same H H' → H' D = some (.lst (xs.map f)) → Qd H') : LcW (Itt K a) (gName i) tYes te vs σ H D Qd := by
  refine lc_it (walk_tup (xs := xs)) (fun n H' => Same H H' ∧ H' D = some (.lst ((xs.take n).map f))) ⟨Same.new hD, upd_same⟩ (fun _ H' _ p => tupSame p.1 ha) (fun n x H1 H2 hn p y => ?_) fun H' p => ?_
  · obtain ⟨rfl, hx⟩ := y
    refine ⟨hw _, iteT (B := True) (he n x _ _ hx p.1 fun H2 s2 => ?_)⟩
    refine ⟨(xs.take n).map f, s2 _ _ p.2, small1000 (by rw [List.length_map, List.length_take]; omega), Same.back (p.1.trans s2) hD, ?_⟩
    rw [upd_same, take_more hx, List.map_append]
    rfl
  · refine hd H' p.1 ?_
    rw [p.2, List.take_length]
/-- over range(n) -/
theorem lc_range1 {lo : Int} {N i : Nat} {te : TE} {vs : List Nat} {σ : L2.St} {H : Hp} {D : Addr} {Qd : Hp → Prop} (f : Int → V) (hD : H D = none) (ln : N ≤ 1000)
    (hw : ∀ x : V, wipe ((wipe σ vs).set i (some x)) vs = wipe σ vs)
    (he : ∀ (n : Nat) (H1 : Hp) (Q : VK), n < N → Same H H1 → (∀ H2, Same H1 H2 → Q (f (lo + n)) H2) → te ((wipe σ vs).set i (some (.int (lo + n)))) H1 Q)
    (hd : ∀ H', Same H H' → H' D = some (.lst ((List.range N).map fun n : Nat => f (lo + n))) → Qd H') : LcW (Itr lo N) (gName i) tYes te vs σ H D Qd := by
  refine lc_it (walk_range (lo := lo) (n := N)) (fun n H' => Same H H' ∧ H' D = some (.lst ((List.range n).map fun n : Nat => f (lo + n)))) ⟨Same.new hD, upd_same⟩ (fun _ H' _ p => trivial) (fun n x H1 H2 hn p y => ?_) fun H' p => ?_
  · obtain ⟨rfl, rfl⟩ := y
    refine ⟨hw _, iteT (B := True) (he n _ _ hn p.1 fun H2 s2 => ?_)⟩
    refine ⟨(List.range n).map fun n : Nat => f (lo + n), s2 _ _ p.2, small1000 (by rw [List.length_map, List.length_range]; omega), Same.back (p.1.trans s2) hD, ?_⟩
    rw [upd_same, List.range_succ, List.map_append]
    rfl
  · exact hd H' p.1 p.2
/-- the indices of the odd ones, from k on -/
def od (k : Int) : List Int → List Int
  | [] => []
  | d :: L => if d % 2 = 1 then k :: od (k + 1) L else od (k + 1) L
theorem od_append : ∀ (L M : List Int) (k : Int), od k (L ++ M) = od k L ++ od (k + L.length) M
  | [], M, k => by
    show od k M = [] ++ od (k + 0) M
    rw [Int.add_zero, List.nil_append]
  | d :: L, M, k => by
    have ih := od_append L M (k + 1)
    have e : k + 1 + (L.length : Int) = k + ((d :: L).length : Int) := by
      rw [List.length_cons]
      omega
    rw [e] at ih
    show (if d % 2 = 1 then k :: od (k + 1) (L ++ M) else od (k + 1) (L ++ M)) = (if d % 2 = 1 then k :: od (k + 1) L else od (k + 1) L) ++ _
    split
    · rw [ih]
      rfl
    · rw [ih]
theorem od_len : ∀ (L : List Int) (k : Int), (od k L).length ≤ L.length
  | [], _ => Nat.le_refl _
  | d :: L, k => by
    have := od_len L (k + 1)
    show (if d % 2 = 1 then k :: od (k + 1) L else od (k + 1) L).length ≤ _
    split
    · rw [List.length_cons, List.length_cons]
      omega
    · rw [List.length_cons]
      omega
/-- the indices of odd letters, over enumerate -/
theorem lc_odds {K : PySem.W.Frag} {a : Addr} {L : List Int} {i j : Nat} {tt : TT} {te : TE} {vs : List Nat} {σ : L2.St} {H : Hp} {D : Addr} {Qd : Hp → Prop} (hD : H D = none) (ha : SqT K H a (iV L)) (ln : L.length ≤ 1000)
    (hw : ∀ x y : V, wipe (((wipe σ vs).set i (some x)).set j (some y)) vs = wipe σ vs)
    (ht : ∀ (n : Nat) (d : Int) (H1 : Hp) (Q : Bool → Hp → Prop), Q (decide (d % 2 = 1)) H1 → tt (((wipe σ vs).set i (some (.int n))).set j (some (.int d))) H1 Q)
    (he : ∀ (n : Nat) (d : Int) (H1 : Hp) (Q : VK), Q (.int n) H1 → te (((wipe σ vs).set i (some (.int n))).set j (some (.int d))) H1 Q)
    (hd : ∀ H', Same H H' → H' D = some (.lst (iV (od 0 L))) → Qd H') : LcW (IteT K a) (gTup K 2 (gCons (gName i) (gCons (gName j) gNil))) tt te vs σ H D Qd := by
  refine lc_it (walk_enumT (xs := iV L)) (fun n H' => Same H H' ∧ H' D = some (.lst (iV (od 0 (L.take n))))) ⟨Same.new hD, upd_same⟩ (fun _ H' _ p => tupSame p.1 ha) (fun n x H1 H2 hn p y => ?_) fun H' p => ?_
  · obtain ⟨T, u, v, rfl, hT, rfl, hu, hv⟩ := y
    have hu : some (V.int (n : Nat)) = some u := hu
    have hv : (iV L)[n]? = some v := hv
    cases hu
    rw [List.getElem?_map] at hv
    obtain ⟨d, hd1, rfl⟩ := Option.map_eq_some_iff.mp hv
    have s1 : Same H1 (upd H1 T (.tup [.int (n : Nat), .int d])) := Same.new hT
    have nl := (List.getElem?_eq_some_iff.mp hd1).1
    have e1 : od 0 (L.take (n + 1)) = od 0 (L.take n) ++ (if d % 2 = 1 then [(n : Int)] else []) := by
      rw [take_more hd1, od_append, List.length_take, Nat.min_eq_left (Nat.le_of_lt nl), Int.zero_add]
      rfl
    refine ⟨T, [.int (n : Nat), .int d], rfl, SqT.of upd_same, rfl, .int (n : Nat), [.int d], rfl, .int d, [], rfl, rfl, hw _ _, ht n d _ _ ?_⟩
    by_cases c : d % 2 = 1
    · rw [decide_eq_true c]
      refine iteT (he n d _ _ ?_)
      have ol := od_len (L.take n) 0
      rw [List.length_take] at ol
      refine ⟨iV (od 0 (L.take n)), s1 _ _ p.2, small1000 (by rw [List.length_map]; omega), Same.back (p.1.trans s1) hD, ?_⟩
      rw [upd_same, e1, if_pos c]
      show _ = some (HO.lst (List.map V.int _))
      rw [List.map_append]
      rfl
    · rw [decide_eq_false c]
      refine iteF ⟨p.1.trans s1, ?_⟩
      rw [e1, if_neg c, List.append_nil]
      exact s1 _ _ p.2
  · refine hd H' p.1 ?_
    rw [p.2, List.length_map, List.take_length]
end K9
namespace L2
open PySem PySem.Spec PyProof.Rows
/-- the items are tuples of these ints -/
abbrev TupsV (K : PySem.W.Frag) (H : Hp) (xs : List V) (ls : List (List Int)) : Prop := Paired (fun x l => ∃ t, x = V.ref t ∧ SqT K H t (l.map V.int)) xs ls
end L2
namespace K9
open PySem PySem.Spec PyProof.Rows L2 RZ
def But (d : Addr) (H H' : Hp) : Prop := ∀ b o, b ≠ d → H b = some o → H' b = some o
theorem But.refl (d : Addr) (H : Hp) : But d H H := fun _ _ _ h => h
theorem But.trans {d : Addr} {H H1 H2 : Hp} (a : But d H H1) (b : But d H1 H2) : But d H H2 := fun c o n h => b c o n (a c o n h)
theorem But.dice {d : Addr} {H : Hp} {o : HO} : But d H (upd H d o) := fun c u n h => by rw [upd_ne n]; exact h
theorem But.of {d : Addr} {H H' : Hp} (s : Same H H') : But d H H' := fun b o _ h => s b o h
theorem But.tup {K : PySem.W.Frag} {d a : Addr} {H H' : Hp} {L xs : List V} (k : But d H H') (hd : H d = some (.lst L)) (h : SqT K H a xs) : SqT K H' a xs := by
  rcases h with (h | ⟨o, h⟩) | h
  · refine .inl (.inl (k _ _ (fun z => ?_) h))
    rw [z, hd] at h
    cases h
  · refine .inl (.inr ⟨o, k _ _ (fun z => ?_) h⟩)
    rw [z, hd] at h
    cases h
  · exact .inr h
theorem But.back {d D : Addr} {H H1 : Hp} {o : HO} (k : But d H H1) (hD : H D = none) : But d H (upd H1 D o) := fun b u n e => by
  rw [upd_ne (ne_of_none e hD)]
  exact k b u n e
theorem take_filter {α : Type} {xs : List α} {i : Nat} {x : α} {p : α → Bool} (h : xs[i]? = some x) : (xs.take (i + 1)).filter p = (xs.take i).filter p ++ (if p x = true then [x] else []) := by
  rw [take_more h, List.filter_append, List.filter_cons, List.filter_nil]
/-- over a tuple of ints -/
theorem lc_ints {K : PySem.W.Frag} {a : Addr} {L : List Int} {i : Nat} {tt : TT} {te : TE} {vs : List Nat} {σ : L2.St} {H : Hp} {D : Addr} {Qd : Hp → Prop} (f : Int → V) (p : Int → Bool) (hD : H D = none) (ha : SqT K H a (iV L)) (ln : L.length ≤ 1000)
    (hw : ∀ x : V, wipe ((wipe σ vs).set i (some x)) vs = wipe σ vs)
    (ht : ∀ (d : Int) (H1 : Hp) (Q : Bool → Hp → Prop), d ∈ L → Same H H1 → (∀ H2, Same H1 H2 → Q (p d) H2) → tt ((wipe σ vs).set i (some (.int d))) H1 Q)
    (he : ∀ (d : Int) (H1 : Hp) (Q : VK), d ∈ L → p d = true → Same H H1 → (∀ H2, Same H1 H2 → Q (f d) H2) → te ((wipe σ vs).set i (some (.int d))) H1 Q)
    (hd : ∀ H', Same H H' → H' D = some (.lst ((L.filter p).map f)) → Qd H') : LcW (Itt K a) (gName i) tt te vs σ H D Qd := by
  refine lc_it (walk_tup (xs := iV L)) (fun n H' => Same H H' ∧ H' D = some (.lst (((L.take n).filter p).map f))) ⟨Same.new hD, upd_same⟩ (fun _ H' _ p => tupSame p.1 ha) (fun n x H1 H2 hn q y => ?_) fun H' q => ?_
  · obtain ⟨rfl, hx⟩ := y
    rw [List.getElem?_map] at hx
    obtain ⟨d, hd1, rfl⟩ := Option.map_eq_some_iff.mp hx
    have hm := List.mem_of_getElem? hd1
    refine ⟨hw _, ht d _ _ hm q.1 fun H2 s2 => ?_⟩
    cases c : p d with
    | true =>
      refine iteT (he d _ _ hm c (q.1.trans s2) fun H3 s3 => ?_)
      have le := List.length_filter_le p (L.take n)
      rw [List.length_take] at le
      refine ⟨((L.take n).filter p).map f, (s2.trans s3) _ _ q.2, small1000 (by rw [List.length_map]; omega), Same.back (q.1.trans (s2.trans s3)) hD, ?_⟩
      rw [upd_same, take_filter hd1, c, if_pos rfl, List.map_append]
      rfl
    | false =>
      refine iteF ⟨q.1.trans s2, ?_⟩
      rw [take_filter hd1, c, if_neg Bool.false_ne_true, List.append_nil]
      exact s2 _ _ q.2
  · refine hd H' q.1 ?_
    rw [q.2, List.length_map, List.take_length]
/-- over a list of ints -/
theorem lc_intsL {K : PySem.W.Frag} {a : Addr} {L : List Int} {i : Nat} {tt : TT} {te : TE} {vs : List Nat} {σ : L2.St} {H : Hp} {D : Addr} {Qd : Hp → Prop} (f : Int → V) (p : Int → Bool) (hD : H D = none) (ha : SqL K H a (iV L)) (ln : L.length ≤ 1000)
    (hw : ∀ x : V, wipe ((wipe σ vs).set i (some x)) vs = wipe σ vs)
    (ht : ∀ (d : Int) (H1 : Hp) (Q : Bool → Hp → Prop), d ∈ L → Same H H1 → (∀ H2, Same H1 H2 → Q (p d) H2) → tt ((wipe σ vs).set i (some (.int d))) H1 Q)
    (he : ∀ (d : Int) (H1 : Hp) (Q : VK), d ∈ L → p d = true → Same H H1 → (∀ H2, Same H1 H2 → Q (f d) H2) → te ((wipe σ vs).set i (some (.int d))) H1 Q)
    (hd : ∀ H', Same H H' → H' D = some (.lst ((L.filter p).map f)) → Qd H') : LcW (Itl K a) (gName i) tt te vs σ H D Qd := by
  refine lc_it (walk_list (xs := iV L)) (fun n H' => Same H H' ∧ H' D = some (.lst (((L.take n).filter p).map f))) ⟨Same.new hD, upd_same⟩ (fun _ H' _ p => p.1.seq ha) (fun n x H1 H2 hn q y => ?_) fun H' q => ?_
  · obtain ⟨rfl, hx⟩ := y
    rw [List.getElem?_map] at hx
    obtain ⟨d, hd1, rfl⟩ := Option.map_eq_some_iff.mp hx
    have hm := List.mem_of_getElem? hd1
    refine ⟨hw _, ht d _ _ hm q.1 fun H2 s2 => ?_⟩
    cases c : p d with
    | true =>
      refine iteT (he d _ _ hm c (q.1.trans s2) fun H3 s3 => ?_)
      have le := List.length_filter_le p (L.take n)
      rw [List.length_take] at le
      refine ⟨((L.take n).filter p).map f, (s2.trans s3) _ _ q.2, small1000 (by rw [List.length_map]; omega), Same.back (q.1.trans (s2.trans s3)) hD, ?_⟩
      rw [upd_same, take_filter hd1, c, if_pos rfl, List.map_append]
      rfl
    | false =>
      refine iteF ⟨q.1.trans s2, ?_⟩
      rw [take_filter hd1, c, if_neg Bool.false_ne_true, List.append_nil]
      exact s2 _ _ q.2
  · refine hd H' q.1 ?_
    rw [q.2, List.length_map, List.take_length]
theorem tv_mono {K : PySem.W.Frag} {H H' : Hp} {xs : List V} {ls : List (List Int)} (h : TupsV K H xs ls) (s : Same H H') : TupsV K H' xs ls := Paired.mapP h fun _ _ ⟨t, e, q⟩ => ⟨t, e, tupSame s q⟩
theorem tv_get {K : PySem.W.Frag} {H : Hp} {x : V} : ∀ {n : Nat} {xs : List V} {ls : List (List Int)}, TupsV K H xs ls → xs[n]? = some x → ∃ t l, x = .ref t ∧ ls[n]? = some l ∧ SqT K H t (iV l)
  | 0, _, _, .cons ⟨t, e, q⟩ _, h => by
    cases h
    exact ⟨t, _, e, rfl, q⟩
  | n + 1, _ :: xs, _, .cons _ r, h => tv_get (n := n) r h
theorem tv_len {K : PySem.W.Frag} {H : Hp} {xs : List V} {ls : List (List Int)} (h : TupsV K H xs ls) : xs.length = ls.length := Paired.length h
/-- over a list of tuples of ints: the ones that pass, as they are led -/
theorem lc_tupsL {K : PySem.W.Frag} {a : Addr} {xs : List V} {ls : List (List Int)} {i : Nat} {tt : TT} {te : TE} {vs : List Nat} {σ : L2.St} {H : Hp} {D : Addr} {Qd : Hp → Prop} (g : List Int → List Int) (p : List Int → Bool) (hD : H D = none) (ha : H a = some (.lst xs)) (hx : TupsV K H xs ls) (ln : ls.length ≤ 1000)
    (hw : ∀ x : V, wipe ((wipe σ vs).set i (some x)) vs = wipe σ vs)
    (ht : ∀ (t : Addr) (l : List Int) (H1 : Hp) (Q : Bool → Hp → Prop), l ∈ ls → SqT K H1 t (iV l) → Same H H1 → (∀ H2, Same H1 H2 → Q (p l) H2) → tt ((wipe σ vs).set i (some (.ref t))) H1 Q)
    (he : ∀ (t : Addr) (l : List Int) (H1 : Hp) (Q : VK), l ∈ ls → SqT K H1 t (iV l) → p l = true → Same H H1 → (∀ H2 t2, Same H1 H2 → SqT K H2 t2 (iV (g l)) → Q (.ref t2) H2) → te ((wipe σ vs).set i (some (.ref t))) H1 Q)
    (hd : ∀ H' ys, Same H H' → H' D = some (.lst ys) → TupsV K H' ys ((ls.filter p).map g) → Qd H') : LcW (Itl K a) (gName i) tt te vs σ H D Qd := by
  have lx := tv_len hx
  refine lc_it (walk_list (xs := xs)) (fun n H' => Same H H' ∧ ∃ ys, H' D = some (.lst ys) ∧ TupsV K H' ys (((ls.take n).filter p).map g)) ⟨Same.new hD, [], upd_same, .nil⟩ (fun _ H' _ p => SqL.of (p.1 _ _ ha)) (fun n x H1 H2 hn q y => ?_) fun H' q => ?_
  · obtain ⟨rfl, hy⟩ := y
    obtain ⟨q1, ys, q2, q3⟩ := q
    obtain ⟨t, l, rfl, hl, hT⟩ := tv_get (tv_mono hx q1) hy
    have hm := List.mem_of_getElem? hl
    refine ⟨hw _, ht t l _ _ hm hT q1 fun H2 s2 => ?_⟩
    cases c : p l with
    | true =>
      refine iteT (he t l _ _ hm (tupSame s2 hT) c (q1.trans s2) fun H3 t2 s3 h3 => ?_)
      have le := List.length_filter_le p (ls.take n)
      rw [List.length_take] at le
      have ly := tv_len q3
      rw [List.length_map] at ly
      have hD3 := (s2.trans s3) _ _ q2
      have st : ∀ b u, b ≠ D → H3 b = some u → upd H3 D (.lst (ys ++ [.ref t2])) b = some u := fun b u nb e => by rw [upd_ne nb]; exact e
      have tk : ∀ {b : Addr} {l : List Int}, SqT K H3 b (iV l) → SqT K (upd H3 D (.lst (ys ++ [.ref t2]))) b (iV l) := fun {b l} h => by
        rcases h with (h | ⟨o, h⟩) | h
        · exact .inl (.inl (st _ _ (ne_of h hD3 (by intro z; cases z)) h))
        · exact .inl (.inr ⟨o, st _ _ (ne_of h hD3 (by intro z; cases z)) h⟩)
        · exact .inr h
      refine ⟨ys, hD3, small1000 (by omega), Same.back (q1.trans (s2.trans s3)) hD, ys ++ [.ref t2], upd_same, ?_⟩
      rw [take_filter hl, c, if_pos rfl, List.map_append]
      exact Paired.snoc (Paired.mapP (tv_mono q3 (s2.trans s3)) fun _ _ ⟨t', e, z⟩ => ⟨t', e, tk z⟩) ⟨t2, rfl, tk h3⟩
    | false =>
      refine iteF ⟨q1.trans s2, ys, s2 _ _ q2, ?_⟩
      rw [take_filter hl, c, if_neg Bool.false_ne_true, List.append_nil]
      exact tv_mono q3 s2
  · obtain ⟨q1, ys, q2, q3⟩ := q
    refine hd H' ys q1 q2 ?_
    rw [lx, List.take_length] at q3
    exact q3
/-- over a tuple of tuples of ints -/
theorem lc_tupsT {K : PySem.W.Frag} {a : Addr} {xs : List V} {ls : List (List Int)} {i : Nat} {tt : TT} {te : TE} {vs : List Nat} {σ : L2.St} {H : Hp} {D : Addr} {Qd : Hp → Prop} (g : List Int → List Int) (p : List Int → Bool) (hD : H D = none) (ha : SqT K H a xs) (hx : TupsV K H xs ls) (ln : ls.length ≤ 1000)
    (hw : ∀ x : V, wipe ((wipe σ vs).set i (some x)) vs = wipe σ vs)
    (ht : ∀ (t : Addr) (l : List Int) (H1 : Hp) (Q : Bool → Hp → Prop), l ∈ ls → SqT K H1 t (iV l) → Same H H1 → (∀ H2, Same H1 H2 → Q (p l) H2) → tt ((wipe σ vs).set i (some (.ref t))) H1 Q)
    (he : ∀ (t : Addr) (l : List Int) (H1 : Hp) (Q : VK), l ∈ ls → SqT K H1 t (iV l) → p l = true → Same H H1 → (∀ H2 t2, Same H1 H2 → SqT K H2 t2 (iV (g l)) → Q (.ref t2) H2) → te ((wipe σ vs).set i (some (.ref t))) H1 Q)
    (hd : ∀ H' ys, Same H H' → H' D = some (.lst ys) → TupsV K H' ys ((ls.filter p).map g) → Qd H') : LcW (Itt K a) (gName i) tt te vs σ H D Qd := by
  have lx := tv_len hx
  refine lc_it (walk_tup (xs := xs)) (fun n H' => Same H H' ∧ ∃ ys, H' D = some (.lst ys) ∧ TupsV K H' ys (((ls.take n).filter p).map g)) ⟨Same.new hD, [], upd_same, .nil⟩ (fun _ H' _ p => tupSame p.1 ha) (fun n x H1 H2 hn q y => ?_) fun H' q => ?_
  · obtain ⟨rfl, hy⟩ := y
    obtain ⟨q1, ys, q2, q3⟩ := q
    obtain ⟨t, l, rfl, hl, hT⟩ := tv_get (tv_mono hx q1) hy
    have hm := List.mem_of_getElem? hl
    refine ⟨hw _, ht t l _ _ hm hT q1 fun H2 s2 => ?_⟩
    cases c : p l with
    | true =>
      refine iteT (he t l _ _ hm (tupSame s2 hT) c (q1.trans s2) fun H3 t2 s3 h3 => ?_)
      have le := List.length_filter_le p (ls.take n)
      rw [List.length_take] at le
      have ly := tv_len q3
      rw [List.length_map] at ly
      have hD3 := (s2.trans s3) _ _ q2
      have st : ∀ b u, b ≠ D → H3 b = some u → upd H3 D (.lst (ys ++ [.ref t2])) b = some u := fun b u nb e => by rw [upd_ne nb]; exact e
      have tk : ∀ {b : Addr} {l : List Int}, SqT K H3 b (iV l) → SqT K (upd H3 D (.lst (ys ++ [.ref t2]))) b (iV l) := fun {b l} h => by
        rcases h with (h | ⟨o, h⟩) | h
        · exact .inl (.inl (st _ _ (ne_of h hD3 (by intro z; cases z)) h))
        · exact .inl (.inr ⟨o, st _ _ (ne_of h hD3 (by intro z; cases z)) h⟩)
        · exact .inr h
      refine ⟨ys, hD3, small1000 (by omega), Same.back (q1.trans (s2.trans s3)) hD, ys ++ [.ref t2], upd_same, ?_⟩
      rw [take_filter hl, c, if_pos rfl, List.map_append]
      exact Paired.snoc (Paired.mapP (tv_mono q3 (s2.trans s3)) fun _ _ ⟨t', e, z⟩ => ⟨t', e, tk z⟩) ⟨t2, rfl, tk h3⟩
    | false =>
      refine iteF ⟨q1.trans s2, ys, s2 _ _ q2, ?_⟩
      rw [take_filter hl, c, if_neg Bool.false_ne_true, List.append_nil]
      exact tv_mono q3 s2
  · obtain ⟨q1, ys, q2, q3⟩ := q
    refine hd H' ys q1 q2 ?_
    rw [lx, List.take_length] at q3
    exact q3
theorem inV_ints {k : Int} : ∀ {L : List Int}, inV (.int k) (iV L) = L.contains k
  | [] => rfl
  | d :: L => by
    have ih := inV_ints (k := k) (L := L)
    show (eqV (.int d) (.int k) || inV (.int k) (iV L)) = _
    rw [ih, List.contains_cons]
    congr 1
    show (d == k) = (k == d)
    exact BEq.comm
theorem flat_ints : ∀ {L : List Int}, (iV L).all flatV = true
  | [] => rfl
  | d :: L => by
    show (flatV (.int d) && (iV L).all flatV) = true
    rw [flat_ints]
    rfl
theorem dInt (a b : Int) : decide (V.int a = V.int b) = decide (a = b) := decide_eq_decide.mpr ⟨fun y => V.int.inj y, fun y => by rw [y]⟩
theorem lstSame {K : PySem.W.Frag} {H H' : Hp} {a : Addr} {xs : List V} (s : Same H H') (h : SqL K H a xs) : SqL K H' a xs := s.seq h
abbrev dI (l : List Int) : PyData := .tuple (l.map PyData.int)
structure Shp (n : Nat) (d : PyData) : Prop where
  can : d.canLay0 = true
  dep : d.depth ≤ n
theorem Shp.shaped {n : Nat} {d : PyData} (h : Shp n d) (hn : n ≤ 64) : SeqAt.shaped d = true := by
  rw [SeqAt.shaped, Bool.and_eq_true]
  exact ⟨h.can, decide_eq_true (Nat.le_trans h.dep hn)⟩
theorem Shp.int (i : Int) : Shp 0 (.int i) := ⟨by rw [PyData.canLay0], by rw [PyData.depth]; exact Nat.le_refl _⟩
theorem Shp.bool (b : Bool) : Shp 0 (.bool b) := ⟨by rw [PyData.canLay0], by rw [PyData.depth]; exact Nat.le_refl _⟩
theorem shp_all {α : Type} {f : α → PyData} {n : Nat} (h : ∀ x, Shp n (f x)) : ∀ l : List α, PyData.canLayAll0 (l.map f) = true ∧ PyData.depthAll (l.map f) ≤ n
  | [] => ⟨rfl, by rw [List.map_nil, PyData.depthAll]; exact Nat.zero_le _⟩
  | a :: l => by
    obtain ⟨h1, h2⟩ := shp_all h l
    refine ⟨?_, ?_⟩
    · rw [List.map_cons, PyData.canLayAll0, (h a).can, h1]
      rfl
    · rw [List.map_cons, PyData.depthAll]
      have := (h a).dep
      omega
theorem Shp.lst {α : Type} {f : α → PyData} {n : Nat} (h : ∀ x, Shp n (f x)) (l : List α) : Shp (n + 1) (.list (l.map f)) := by
  obtain ⟨h1, h2⟩ := shp_all h l
  exact ⟨by rw [PyData.canLay0]; exact h1, by rw [PyData.depth]; omega⟩
theorem Shp.tup {α : Type} {f : α → PyData} {n : Nat} (h : ∀ x, Shp n (f x)) (l : List α) : Shp (n + 1) (.tuple (l.map f)) := by
  obtain ⟨h1, h2⟩ := shp_all h l
  exact ⟨by rw [PyData.canLay0]; exact h1, by rw [PyData.depth]; omega⟩
theorem shp_dI (l : List Int) : Shp 1 (dI l) := .tup .int l
theorem eqv_self {n : Nat} {d : PyData} (h : Shp n d) (hn : n ≤ 64) : PyData.eqv d d = true := SeqAt.eqv_refl d h.can
theorem eqv_empty {ds : List PyData} {n : Nat} (h : Shp n (.list ds)) (hn : n ≤ 64) : PyData.eqv (.list ds) (.list []) = decide (ds = []) := by
  cases ds with
  | nil =>
    rw [eqv_self h hn]
    rfl
  | cons d ds =>
    rw [PyData.eqv, decide_eq_false (fun z => nomatch z)]
    exact SeqAt.eqvAll_other_length (by simp)
section
variable {K : PySem.W.Frag} {H : Hp}
theorem dp_ints : ∀ l : List Int, DpAll K H (iV l) (l.map PyData.int)
  | [] => .nil
  | a :: l => .cons (.int a) (dp_ints l)
theorem dp_bools : ∀ l : List Bool, DpAll K H (l.map V.bl) (l.map PyData.bool)
  | [] => .nil
  | a :: l => .cons (.bl a) (dp_bools l)
theorem dp_tups : ∀ {xs : List V} {ls : List (List Int)}, TupsV K H xs ls → DpAll K H xs (ls.map dI)
  | _, _, .nil => .nil
  | _, _, .cons ⟨t, e, h⟩ r => by
    subst e
    exact .cons (.tup h (dp_ints _)) (dp_tups r)
end
def rowOf (N : Nat) (g : Nat → Int) : List Int := (List.range (N + 1)).map g
theorem rowOf_len {N : Nat} {g : Nat → Int} : (rowOf N g).length = N + 1 := by
  unfold rowOf
  rw [List.length_map, List.length_range]
theorem rowOf_get {N j : Nat} {g : Nat → Int} (h : j ≤ N) : (iV (rowOf N g))[j]? = some (.int (g j)) := by
  unfold rowOf
  rw [List.getElem?_map, List.getElem?_map, List.getElem?_range (by omega)]
  rfl
theorem rowOf_congr {N : Nat} {g h : Nat → Int} (e : ∀ k, k ≤ N → g k = h k) : rowOf N g = rowOf N h := by
  unfold rowOf
  refine List.map_congr_left fun k hk => e k ?_
  have := List.mem_range.mp hk
  omega
theorem rowOf_set {N j : Nat} {g : Nat → Int} {v : Int} : (iV (rowOf N g)).set j (.int v) = iV (rowOf N fun k => if k = j then v else g k) := by
  unfold rowOf
  refine List.ext_getElem? fun k => ?_
  rw [List.getElem?_set, List.getElem?_map, List.getElem?_map, List.getElem?_map, List.getElem?_map]
  by_cases c : j = k
  · subst c
    rw [if_pos rfl]
    by_cases d : j < N + 1
    · rw [List.getElem?_range d, if_pos (by rw [List.length_map, List.length_map, List.length_range]; exact d)]
      show _ = some (V.int (if j = j then v else g j))
      rw [if_pos rfl]
    · rw [if_neg (by rw [List.length_map, List.length_map, List.length_range]; exact d), List.getElem?_eq_none (by rw [List.length_range]; omega)]
      rfl
  · rw [if_neg c]
    by_cases d : k < N + 1
    · rw [List.getElem?_range d]
      show some (V.int (g k)) = some (V.int (if k = j then v else g k))
      rw [if_neg fun z => c z.symm]
    · rw [List.getElem?_eq_none (by rw [List.length_range]; omega)]
      rfl
/-- over range(n), each turn with the dice -/
theorem lc_dice {lo : Int} {N i : Nat} {te : TE} {vs : List Nat} {σ : L2.St} {H : Hp} {d D : Addr} {L : List V} {Qd : Hp → Prop} (Pj : Int → Prop) (hD : H D = none) (hd1 : H d = some (.lst L)) (hL : DiceL L) (ln : N ≤ 900)
    (hw : ∀ x : V, wipe ((wipe σ vs).set i (some x)) vs = wipe σ vs)
    (he : ∀ (n : Nat) (H2 : Hp) (L2 : List V) (Q : VK), n < N → But d H H2 → H2 d = some (.lst L2) → DiceL L2 → (∀ (H3 : Hp) (L3 : List V) (j : Int), But d H2 H3 → H3 d = some (.lst L3) → DiceL L3 → Pj j → Q (.int j) H3) → te ((wipe σ vs).set i (some (.int (lo + n)))) H2 Q)
    (hd : ∀ (H' : Hp) (L' : List V) (M : List Int), But d H H' → H' d = some (.lst L') → DiceL L' → H' D = some (.lst (iV M)) → M.length = N → (∀ j ∈ M, Pj j) → Qd H') : LcW (Itr lo N) (gName i) tYes te vs σ H D Qd := by
  have nD : D ≠ d := fun z => by rw [z, hd1] at hD; cases hD
  refine lc_it (walk_range (lo := lo) (n := N)) (fun n H' => ∃ (M : List Int) (L' : List V), M.length = n ∧ (∀ j ∈ M, Pj j) ∧ DiceL L' ∧ H' d = some (.lst L') ∧ H' D = some (.lst (iV M)) ∧ But d H H') ⟨[], L, rfl, (fun _ h => absurd h List.not_mem_nil), hL, ?_, upd_same, (But.refl d H).back hD⟩ (fun _ _ _ _ => trivial) (fun n x H2 H3 hn p y => ?_) fun H' p => ?_
  · rw [upd_ne nD.symm]
    exact hd1
  · obtain ⟨M, L', lM, tM, hL', hd2, hD2, B2⟩ := p
    obtain ⟨rfl, rfl⟩ := y
    refine ⟨hw _, iteT (B := True) (he n _ L' _ hn B2 hd2 hL' fun H3 L3 j B3 hd3 hL3 pj => ?_)⟩
    have hD3 := B3 _ _ nD hD2
    refine ⟨iV M, hD3, small1000 (by rw [List.length_map]; omega), M ++ [j], L3, by rw [List.length_append, lM]; rfl, ?_, hL3, ?_, ?_, (B2.trans B3).back hD⟩
    · intro e he
      rcases List.mem_append.mp he with z | z
      · exact tM e z
      · rw [List.mem_singleton.mp z]
        exact pj
    · rw [upd_ne nD.symm]
      exact hd3
    · rw [upd_same]
      show _ = some (HO.lst (List.map V.int (M ++ [j])))
      rw [List.map_append]
      rfl
  · obtain ⟨M, L', lM, tM, hL', hd2, hD2, B2⟩ := p
    exact hd H' L' M B2 hd2 hL' hD2 lM tM
theorem bits500 {g : Int} (a : 0 ≤ g) (b : g ≤ 1000) : g.natAbs < 2 ^ 500 := Nat.lt_of_le_of_lt (by omega : g.natAbs ≤ 1000) (by decide)
theorem cat_tup {K : PySem.W.Frag} {H : Hp} {a b : Addr} {xs ys : List V} {Q : VK} (ha : SqT K H a xs) (hb : SqT K H b ys) (n : xs.length + ys.length ≤ 1000) (k : ∀ (H' : Hp) (p : Addr), Same H H' → SqT K H' p (xs ++ ys) → Q (.ref p) H') : rCatA K (.ref a) (.ref b) H Q := by
  refine ⟨a, b, xs, ys, rfl, rfl, ha, hb, Nat.le_of_lt (small1000 n), fun e => ?_, fun _ e => ?_, fun _ _ p hp => k _ p (Same.new hp) (SqT.of upd_same)⟩
  · subst e
    exact k H b (Same.refl _) hb
  · subst e
    refine k H a (Same.refl _) ?_
    rw [List.append_nil]
    exact ha
theorem tv_append {K : PySem.W.Frag} {H : Hp} : ∀ {xs ys : List V} {ls ms : List (List Int)}, TupsV K H xs ls → TupsV K H ys ms → TupsV K H (xs ++ ys) (ls ++ ms)
  | _, _, _, _, .nil, h => h
  | _, _, _, _, .cons a r, h => .cons a (tv_append r h)
theorem tv_tail {K : PySem.W.Frag} {H : Hp} {xs : List V} {ls : List (List Int)} (h : TupsV K H xs ls) : TupsV K H xs.tail ls.tail := by
  cases h with
  | nil => exact .nil
  | cons _ r => exact r
theorem none_of {H H1 : Hp} {p : Addr} (s : Same H H1) (h : H1 p = none) : H p = none := by
  cases z : H p with
  | none => rfl
  | some o =>
    rw [s _ _ z] at h
    cases h
theorem i60_small {i : Int} (h0 : 0 ≤ i) (h1 : i ≤ 1000) : i60 (.int i) = true := by
  show (decide (-(10 ^ 60) < i) && decide (i < 10 ^ 60)) = true
  rw [decide_eq_true (by omega), decide_eq_true (by omega)]
  rfl
theorem betw_small {i a b : Int} (h0 : 0 ≤ i) (h1 : i ≤ 1000) (ha : a ≤ i) (hb : i ≤ b) : betw (.int i) a b = true := by
  show (i60 (.int i) && (decide (a ≤ i) && decide (i ≤ b))) = true
  rw [i60_small h0 h1, decide_eq_true ha, decide_eq_true hb]
  rfl
theorem all_true {α : Type} {L : List α} : ((L.map fun _ => true).all id) = true := by
  rw [List.all_map, List.all_eq_true]
  intro _ _
  rfl
theorem any_false {α : Type} {L : List α} : ((L.map fun _ => false).any id) = false := by
  rw [List.any_map, List.any_eq_false]
  intro _ _
  exact Bool.false_ne_true
theorem filter_yes {L : List Int} : L.filter (fun _ => true) = L := List.filter_eq_self.mpr fun _ _ => rfl
theorem tv_but {K : PySem.W.Frag} {d : Addr} {H H' : Hp} {L : List V} {xs : List V} {ls : List (List Int)} (h : TupsV K H xs ls) (B : But d H H') (hd : H d = some (.lst L)) : TupsV K H' xs ls := Paired.mapP h fun _ _ ⟨t, e, q⟩ => ⟨t, e, B.tup hd q⟩
theorem seqBut {K : PySem.W.Frag} {H H' : Hp} {a d : Addr} {xs : List V} {o : HO} (h : SqL K H a xs) (hd : H d = none) (B : But d (upd H d o) H') : SqL K H' a xs := by
  rcases h with (h | ⟨ob, h⟩) | h
  · have ne := ne_of_none h hd
    exact .inl (.inl (B _ _ ne (by rw [upd_ne ne]; exact h)))
  · have ne := ne_of_none h hd
    exact .inl (.inr ⟨ob, B _ _ ne (by rw [upd_ne ne]; exact h)⟩)
  · exact .inr h
/-- right letters -/
structure Lt (L : List Int) : Prop where
  len : L.length ≤ 24
  lo : ∀ d ∈ L, 1 ≤ d
  hi : ∀ d ∈ L, d ≤ 40
theorem Lt.all {L : List Int} (h : Lt L) : (iV L).all (fun x => betw x 1 40) = true := by
  rw [List.all_eq_true]
  intro x hx
  obtain ⟨d, hd, rfl⟩ := List.mem_map.mp hx
  have a := h.lo d hd
  have b := h.hi d hd
  show (i60 (.int d) && (decide (1 ≤ d) && decide (d ≤ 40))) = true
  rw [decide_eq_true a, decide_eq_true b]
  show ((decide (-(10 ^ 60) < d) && decide (d < 10 ^ 60)) && true) = true
  rw [decide_eq_true (by omega), decide_eq_true (by omega)]
  rfl
theorem iV_vk {K : PySem.W.Frag} {H : Hp} {L : List Int} : ∀ x ∈ iV L, Vk K H x := fun x hx => by
  obtain ⟨d, _, rfl⟩ := List.mem_map.mp hx
  exact .int d
theorem Lt.is {K : PySem.W.Frag} {H : Hp} {a : Addr} {L : List Int} (h : Lt L) (s : SqT K H a (iV L)) : LetIs K H (.ref a) true := by
  have q := LetIs.tup s (by rw [List.length_map]; exact h.len) iV_vk
  rw [h.all] at q
  exact q
end K9
namespace K9
open PySem PySem.Spec PyProof.Rows L2 RZ
def RowAt (H : Hp) (x : V) (N : Nat) (M : List Int) : Prop := ∃ r, x = .ref r ∧ H r = some (.lst (iV (rowOf N fun k => (cnt M k : Int))))
theorem RowAt.mono {H H' : Hp} {x : V} {N : Nat} {M : List Int} (h : RowAt H x N M) (s : Same H H') : RowAt H' x N M := by
  obtain ⟨r, e, q⟩ := h
  exact ⟨r, e, s _ _ q⟩
theorem cnt_step {a : Nat} (ha : 1 ≤ a) (M : List Int) (k : Nat) : cnt ((a : Int) :: M) k = cnt M k + (if a ≤ k then (if a % 2 = 1 then cnt M (k - a) else cnt ((a : Int) :: M) (k - a)) else 0) := by
  rw [cnt_cons, Int.toNat_natCast]
  unfold op
  by_cases o : a % 2 = 1
  · rw [if_pos o, if_pos o]
    rfl
  · rw [if_neg o, if_neg o]
    exact opE_eq ha _ _
theorem atI_nat {α : Type} {xs : List α} {j : Nat} {x : α} (h : xs[j]? = some x) : atI xs ((j : Nat) : Int) = some x := by
  have hl := (List.getElem?_eq_some_iff.mp h).1
  unfold atI ixN
  rw [if_pos (by omega), if_pos (by omega), Int.toNat_natCast]
  exact h
theorem atI_last {α : Type} {xs : List α} {x : α} {n : Nat} (hn : xs.length = n + 1) (h : xs[n]? = some x) : atI xs (-1) = some x := by
  unfold atI ixN
  rw [if_neg (by omega), if_pos (by omega), hn, show (-1 + ((n + 1 : Nat) : Int)).toNat = n by omega]
  exact h
theorem ixN_nat {n j : Nat} (h : j < n) : ixN n ((j : Nat) : Int) = some j := by
  unfold ixN
  rw [if_pos (by omega), if_pos (by omega), Int.toNat_natCast]
def spCntW : Sp := fun vs H Q _ => ∃ (r : Addr) (N a : Nat) (M : List Int), vs = [.ref r, .int (a : Int)] ∧ 1 ≤ a ∧ a ≤ 40 ∧ N ≤ 900 ∧ H r = some (.lst (iV (rowOf N fun k => (cnt M k : Int)))) ∧ ∀ H' p, Same H H' → H p = none → H' p = some (.lst (iV (rowOf N fun k => (cnt ((a : Int) :: M) k : Int)))) → Q (.ref p) H'
theorem scCntW : FnScope ["row", "letter", "found", "degree", "former"] ["row", "letter"] (defScope sCntW) := ⟨rfl, rfl, rfl, by decide +kernel, rfl, by decide +kernel, by decide +kernel⟩
def half (a : Nat) (M : List Int) (i : Nat) : Nat → Int := fun k => if k < a + i then (cnt ((a : Int) :: M) k : Int) else (cnt M k : Int)
/-- the rows of counts, from each index on -/
def Cnts (H : Hp) (c : Addr) (L : List Int) (N : Nat) : Prop := ∃ xs : List V, H c = some (.lst xs) ∧ xs.length = L.length + 1 ∧ ∀ i, i ≤ L.length → ∃ x, xs[i]? = some x ∧ RowAt H x N (L.drop i)
theorem Cnts.mono {H H' : Hp} {c : Addr} {L : List Int} {N : Nat} (h : Cnts H c L N) (s : Same H H') : Cnts H' c L N := by
  obtain ⟨xs, h1, h2, h3⟩ := h
  refine ⟨xs, s _ _ h1, h2, fun i hi => ?_⟩
  obtain ⟨x, e, r⟩ := h3 i hi
  exact ⟨x, e, r.mono s⟩
def spSuf (K : PySem.W.Frag) : Sp := fun vs H Q _ => ∃ (a : Addr) (L : List Int) (N : Nat), vs = [.ref a, .int (N : Int)] ∧ SqT K H a (iV L) ∧ L.length ≤ 24 ∧ (∀ d ∈ L, 1 ≤ d ∧ d ≤ 40) ∧ N ≤ 900 ∧ ∀ H' p, Same H H' → H p = none → Cnts H' p L N → Q (.ref p) H'
theorem scSuf : FnScope ["letters", "most", "rows", "letter"] ["letters", "most"] (defScope sSuffix) := ⟨rfl, rfl, rfl, by decide +kernel, rfl, by decide +kernel, by decide +kernel⟩
section
variable {P : Program} {w : World} {K : PySem.W.Frag} {mg : Str → Option Value} {base : Heap}
theorem ok_cntw {f : Addr} {fd : FuncData} (F : Fun K "_counts_with" "_counts_with" sCntW f fd) (T : Txt K mg) : FnOk P w K mg base CX0 1 f fd ["row", "letter"] spCntW := by
  refine F.ok scCntW (fun vs H Q E h => ?_) (fun cdv A outer s H vs Q E hr h => ?_)
  · obtain ⟨r, N, a, M, rfl, _⟩ := h; rfl
  obtain ⟨r, N, a, M, rfl, h1, h40, hN, hr0, k⟩ := h
  refine ⟨_, pss_cons (ps_set (i := 2) scCntW.nd rfl (.inl rfl) (pe_callTy call_list_of (by rfl) T.list bootList (pa_cons (pv 0) pa_nil)))
    (pss_cons (ps_for PassesOwn.never rfl (pi_range2 rfl T.range (pa_cons (pv 1) (pa_cons (pe_callB call_len_seq (by rfl) T.len PySem.boot_len (pa_cons (pv 0) pa_nil)) pa_nil))) (pg_name (i := 3) scCntW.nd rfl (.inl rfl))
      (pss_cons (ps_set (i := 4) scCntW.nd rfl (.inl rfl) (pe_ifExp (pt_cmpR op_eq (pe_op op_mod (pv 1) pe_int) pe_int (nomark _)) (pv 0) (pv 2)))
      (pss_one (ps_asg (pe_op op_add (pe_ix ix_list (pv 2) (pv 3) (fun _ _ => rfl)) (pe_ix ix_list (pv 4) (pe_op op_sub (pv 3) (pv 1)) (fun _ _ => rfl))) (pg_sub (pv 2) (pv 3) set_list)))))
    (pss_one (ps_ret (pv 2)))), ?_⟩
  refine ⟨_, rfl, r, _, rfl, .inl (SqL.of hr0), fun p hp => ?_⟩
  have s0 := Same.new (o := .lst (iV (rowOf N fun k => (cnt M k : Int)))) hp
  have ne : r ≠ p := fun z => by rw [z, hp] at hr0; cases hr0
  have ll : (iV (rowOf N fun k => (cnt M k : Int))).length = N + 1 := by rw [List.length_map, rowOf_len]
  refine ⟨_, rfl, _, rfl, r, _, rfl, .inl (SqL.of (s0 _ _ hr0)), _, _, rfl, ⟨by omega, by omega, by omega, by rw [ll]; omega⟩, for_it (walk_range (lo := (a : Int)) (n := (((iV (rowOf N fun k => (cnt M k : Int))).length : Int) - (a : Int)).toNat))
    (fun i σ H' => (∃ o3 o4, σ = [some (.ref r), some (.int (a : Int)), some (.ref p), o3, o4]) ∧ H' p = some (.lst (iV (rowOf N (half a M i)))) ∧ Same H H') ⟨⟨_, _, rfl⟩, ?_, s0⟩ (fun _ _ _ _ _ => trivial) (fun i x σ H0 H1 hi q y => ?_) fun σ H1 q => ?_⟩
  · rw [upd_same]
    congr 3
    refine rowOf_congr fun k hk => ?_
    unfold half
    by_cases c : k < a + 0
    · rw [if_pos c, cnt_step h1, if_neg (by omega)]
      rfl
    · rw [if_neg c]
  · obtain ⟨⟨o3, o4, rfl⟩, hp1, s1⟩ := q
    obtain ⟨rfl, rfl⟩ := y
    rw [ll] at hi
    have hd : a + i ≤ N := by omega
    have hr1 := s1 _ _ hr0
    have fin : ∀ v : Int, v = (cnt ((a : Int) :: M) (a + i) : Int) → (iV (rowOf N (half a M i))).set (a + i) (.int v) = iV (rowOf N (half a M (i + 1))) := fun v hv => by
      rw [rowOf_set]
      congr 1
      refine rowOf_congr fun k hk => ?_
      unfold half
      by_cases c : k = a + i
      · rw [if_pos c, if_pos (by omega), c, hv]
      · rw [if_neg c]
        by_cases d : k < a + i
        · rw [if_pos d, if_pos (by omega)]
        · rw [if_neg d, if_neg (by omega)]
    have l1 : (iV (rowOf N (half a M i))).length = N + 1 := by rw [List.length_map, rowOf_len]
    have e1 : (a : Int) + (i : Int) = ((a + i : Nat) : Int) := by omega
    have e2 : (a : Int) + (i : Int) - (a : Int) = ((i : Nat) : Int) := by omega
    have g1 : (iV (rowOf N (half a M i)))[a + i]? = some (.int (cnt M (a + i) : Int)) := by
      rw [rowOf_get hd]
      unfold half
      rw [if_neg (by omega)]
    refine ⟨_, rfl, _, _, rfl, rfl, (by show (0 : Int) < 2; decide), rfl, ?_⟩
    have at1 : atI (iV (rowOf N (half a M i))) ((a : Int) + (i : Int)) = some (.int (cnt M (a + i) : Int)) := by
      rw [e1]
      exact atI_nat g1
    have ix1 : ixN (iV (rowOf N (half a M i))).length ((a : Int) + (i : Int)) = some (a + i) := by
      rw [e1, l1]
      exact ixN_nat (by omega)
    refine ⟨_, rfl, ite2 (fun c => ?_) (fun c => ?_)⟩
    · have c := V.int.inj (of_decide_eq_true c)
      have at2 : atI (iV (rowOf N fun k => (cnt M k : Int))) ((a : Int) + (i : Int) - (a : Int)) = some (.int (cnt M i : Int)) := by
        rw [e2]
        exact atI_nat (rowOf_get (by omega))
      refine ⟨_, rfl, _, rfl, _, rfl, p, _, _, _, rfl, rfl, SqL.of hp1, at1, _, rfl, _, rfl, _, rfl, _, _, rfl, rfl, r, _, _, _, rfl, rfl, SqL.of hr1, at2, _, _, rfl, rfl, _, rfl, _, rfl, p, _, _, a + i, rfl, rfl, hp1, ix1, ⟨_, _, rfl⟩, ?_, Same.back s1 hp⟩
      rw [upd_same, fin]
      rw [cnt_step h1, if_pos (by omega), if_pos (by omega), show a + i - a = i by omega]
      omega
    · have c : ¬ ((a : Int) % 2 = 1) := fun z => c (decide_eq_true (congrArg V.int z))
      have at2 : atI (iV (rowOf N (half a M i))) ((a : Int) + (i : Int) - (a : Int)) = some (.int (cnt ((a : Int) :: M) i : Int)) := by
        rw [e2]
        refine atI_nat ?_
        rw [rowOf_get (by omega)]
        unfold half
        rw [if_pos (by omega)]
      refine ⟨_, rfl, _, rfl, _, rfl, p, _, _, _, rfl, rfl, SqL.of hp1, at1, _, rfl, _, rfl, _, rfl, _, _, rfl, rfl, p, _, _, _, rfl, rfl, SqL.of hp1, at2, _, _, rfl, rfl, _, rfl, _, rfl, p, _, _, a + i, rfl, rfl, hp1, ix1, ⟨_, _, rfl⟩, ?_, Same.back s1 hp⟩
      rw [upd_same, fin]
      rw [cnt_step h1 M (a + i), if_pos (by omega), if_neg (by omega), show a + i - a = i by omega]
      omega
  · obtain ⟨⟨o3, o4, rfl⟩, hp1, s1⟩ := q
    refine ⟨_, rfl, k H1 p s1 hp ?_⟩
    rw [hp1]
    congr 3
    refine rowOf_congr fun k hk => ?_
    unfold half
    rw [ll]
    rw [if_pos (by omega)]
theorem ok_suf {fC : Addr} {dC : FuncData} {f : Addr} {fd : FuncData} (F : Fun K "suffix_counts" "suffix_counts" sSuffix f fd) (T : Txt K mg) (gC : mg "_counts_with" = some (.ref fC)) (kC : PySem.W.keepIn K (.ref fC) = true) (bC : Binds K dC ["row", "letter"] [])
    (FC : FnOk P w K mg base CX0 1 fC dC ["row", "letter"] spCntW) : FnOk P w K mg base CX0 2 f fd ["letters", "most"] (spSuf K) := by
  refine F.ok scSuf (fun vs H Q E h => ?_) (fun cdv A outer s H vs Q E hr h => ?_)
  · obtain ⟨a, L, N, rfl, _⟩ := h; rfl
  obtain ⟨a, L, N, rfl, ha, ln, hL, hN, k⟩ := h
  refine ⟨_, pss_cons (ps_set (i := 2) scSuf.nd rfl (.inl rfl) (pe_lst (pa_cons (pe_op op_cat (pe_lst (pa_cons pe_int pa_nil)) (pe_op op_rep (pe_lst (pa_cons pe_int pa_nil)) (pv 1))) pa_nil)))
    (pss_cons (ps_for PassesOwn.never rfl (RT.pi_revA (by rfl) T.reversed (pv 0)) (pg_name (i := 3) scSuf.nd rfl (.inl rfl))
      (pss_one (ps_expr (pe_bm PySem.F.plainAttrs_list PySem.F.slot_list_append PySem.F.type_list_append mt_append (pv 2) (pa_cons (pe_call FC hr (by rfl) gC kC bC .nil pass0 (pa_cons (pe_ix ix_list (pv 2) (pe_un un_neg pe_int) (fun _ _ => rfl)) (pa_cons (pv 3) pa_nil))) pa_nil)))))
    (pss_one (ps_ret (pe_revL (pv 2))))), ?_⟩
  have big : N + 1 ≤ sizeLine := Nat.le_of_lt (small1000 (by omega))
  refine ⟨(by show 1 ≤ sizeLine; decide), fun p1 hp1 => ⟨(by show 1 ≤ sizeLine; decide), fun p2 hp2 => ⟨_, rfl, p2, N, [.int 0], rfl, rfl, upd_same, by omega, by omega, by show 1 * ((N : Nat) : Int).toNat ≤ sizeLine; omega, fun p3 hp3 => ?_⟩⟩⟩
  have s1 := Same.new (o := .lst [.int 1]) hp1
  have s2 := Same.new (o := .lst [.int 0]) hp2
  have s3 := Same.new (o := .lst (List.replicate ((N : Nat) : Int).toNat [V.int 0]).flatten) hp3
  have e0 : [V.int 1] ++ (List.replicate ((N : Nat) : Int).toNat [V.int 0]).flatten = iV (rowOf N fun k => (cnt [] k : Int)) := by
    rw [Int.toNat_natCast, List.flatten_replicate_singleton]
    unfold rowOf
    rw [List.range_succ_eq_map, List.map_cons, iV, List.map_cons, List.map_map, List.map_map]
    show V.int 1 :: _ = V.int 1 :: _
    congr 1
    rw [show ((V.int ∘ fun k => (cnt [] k : Int)) ∘ Nat.succ) = fun _ => V.int 0 from rfl, List.map_const', List.length_range]
    rfl
  refine ⟨p1, p3, _, _, rfl, rfl, (s2.trans s3) _ _ upd_same, upd_same, ?_, fun p4 hp4 => ?_⟩
  · rw [Int.toNat_natCast, List.flatten_replicate_singleton, List.length_replicate]
    show 1 + N ≤ sizeLine
    omega
  rw [e0]
  have s4 := Same.new (o := .lst (iV (rowOf N fun k => (cnt [] k : Int)))) hp4
  refine ⟨(by show 1 ≤ sizeLine; decide), fun p5 hp5 => ?_⟩
  have s5 := Same.new (o := .lst [.ref p4]) hp5
  have s15 := s1.trans (s2.trans (s3.trans (s4.trans s5)))
  have hq5 : H p5 = none := none_of (s1.trans (s2.trans (s3.trans s4))) hp5
  refine ⟨_, rfl, a, iV L, rfl, .inr ⟨tupSame s15 ha, ?_⟩⟩
  have lL : (iV L).length = L.length := List.length_map _
  refine RT.for_ItvT (fun i σ H' => ∃ (o3 : Option V) (xs : List V), σ = [some (.ref a), some (.int (N : Int)), some (.ref p5), o3] ∧ Same H H' ∧ H' p5 = some (.lst xs) ∧ xs.length = i + 1 ∧ ∀ j, j ≤ i → ∃ x, xs[j]? = some x ∧ RowAt H' x N (L.drop (L.length - j)))
    ⟨none, [.ref p4], rfl, s15, upd_same, rfl, fun j hj => ?_⟩ (fun i σ H' q => ?_) (fun i x σ H' hi hx q => ?_) fun σ H' q => ?_
  · obtain rfl : j = 0 := by omega
    exact ⟨_, rfl, p4, rfl, by rw [Nat.sub_zero, List.drop_length]; exact s5 _ _ upd_same⟩
  · obtain ⟨o3, xs, rfl, s6, _⟩ := q
    exact tupSame s6 ha
  · obtain ⟨o3, xs, rfl, s6, hx5, lx, hr6⟩ := q
    rw [lL] at hi hx
    rw [List.getElem?_map] at hx
    obtain ⟨d, hd, rfl⟩ := Option.map_eq_some_iff.mp hx
    have dr := hL d (List.mem_of_getElem? hd)
    obtain ⟨c, rfl⟩ : ∃ c : Nat, d = (c : Int) := ⟨d.toNat, by omega⟩
    obtain ⟨y, hy, r, rfl, hrow⟩ := hr6 i (Nat.le_refl _)
    have ed : L.drop (L.length - (i + 1)) = (c : Int) :: L.drop (L.length - i) := by
      have z : L.length - (i + 1) = L.length - 1 - i := by omega
      have z2 : L.length - i = L.length - 1 - i + 1 := by omega
      rw [z, z2]
      exact List.drop_eq_getElem?_toList_append.trans (by rw [hd]; rfl)
    refine ⟨_, rfl, .inl ⟨rfl, _, SqL.of hx5⟩, _, rfl, _, rfl, p5, xs, _, _, rfl, rfl, SqL.of hx5, atI_last lx hy, _, rfl, r, N, c, _, rfl, by omega, by omega, hN, hrow, fun H7 q s7 hq h7 => ?_⟩
    refine ⟨p5, xs, .ref q, rfl, rfl, s7 _ _ hx5, Nat.lt_of_le_of_lt (by omega : xs.length ≤ 25) (small1000 (by omega)), _, xs ++ [.ref q], rfl, Same.back (s6.trans s7) hq5, upd_same, by rw [List.length_append, lx]; rfl, fun j hj => ?_⟩
    have keep : ∀ {b : Addr} {M : List Int}, H7 b = some (.lst (iV (rowOf N fun k => (cnt M k : Int)))) → upd H7 p5 (.lst (xs ++ [.ref q])) b = some (.lst (iV (rowOf N fun k => (cnt M k : Int)))) := fun {b M} hb => by
      rw [upd_ne (fun z => ?_)]
      · exact hb
      · rw [z, s7 _ _ hx5] at hb
        have := HO.lst.inj (Option.some.inj hb)
        obtain ⟨y0, hy0, r0, rfl, _⟩ := hr6 0 (Nat.zero_le _)
        rw [this, rowOf_get (Nat.zero_le _)] at hy0
        cases hy0
    by_cases cj : j ≤ i
    · obtain ⟨x, hx, r', rfl, hr'⟩ := hr6 j cj
      exact ⟨_, by rw [List.getElem?_append_left (by omega)]; exact hx, r', rfl, keep (s7 _ _ hr')⟩
    · obtain rfl : j = i + 1 := by omega
      refine ⟨.ref q, by rw [List.getElem?_append_right (by omega), lx, Nat.sub_self]; rfl, q, rfl, ?_⟩
      rw [ed]
      exact keep h7
  · obtain ⟨o3, xs, rfl, s6, hx5, lx, hr6⟩ := q
    rw [lL] at lx hr6
    refine ⟨_, rfl, p5, xs, rfl, SqL.of hx5, fun p6 hp6 => ?_⟩
    have s7 := Same.new (o := .lst xs.reverse) hp6
    refine k _ p6 (s6.trans s7) (none_of s6 hp6) ⟨xs.reverse, upd_same, by rw [List.length_reverse, lx], fun i hi => ?_⟩
    obtain ⟨x, hx, rr⟩ := hr6 (L.length - i) (by omega)
    refine ⟨x, ?_, ?_⟩
    · rw [List.getElem?_reverse (by omega), lx, ← hx]
      congr 1
    · rw [show L.length - (L.length - i) = i by omega] at rr
      exact rr.mono s7
end
end K9
namespace K9
open PySem PySem.Spec PyProof.Rows L2 RZ
theorem Lt.pos {L : List Int} (h : Lt L) : Pos1 L := h.lo
theorem Lt.drop {L : List Int} (h : Lt L) (i : Nat) : Pos1 (L.drop i) := fun y hy => h.lo y (List.mem_of_mem_drop hy)
theorem least_len : ∀ (L : List Int) (d : Nat), (least L d).length = L.length
  | [], _ => rfl
  | h :: L, d => by
    show (least L _).length + 1 = L.length + 1
    rw [least_len L]
theorem fst_spec {h : Int} {M : List Int} {r : Nat} (hp : Pos1 (h :: M)) (c : 0 < cnt (h :: M) r) : fstE h M r * h.toNat ≤ r ∧ 0 < cnt M (r - fstE h M r * h.toNat) ∧ ∀ e, e < fstE h M r → cnt M (r - e * h.toNat) = 0 := by
  have hp' : Pos1 M := fun y hy => hp y (List.mem_cons_of_mem _ hy)
  have h1 := hp h List.mem_cons_self
  cases z : (List.range (mx h r + 1)).find? fun e => decide (0 < cnt M (r - e * h.toNat)) with
  | none =>
    have q := List.find?_eq_none.mp z
    have e : wds (h :: M) r = [] := by
      rw [wds_cons, List.flatMap_eq_nil_iff]
      intro x hx
      have := q x hx
      rw [decide_eq_true_eq] at this
      rw [List.map_eq_nil_iff]
      refine List.eq_nil_of_length_eq_zero ?_
      rw [wds_len M _ hp']
      omega
    rw [← wds_len _ _ hp, e] at c
    cases c
  | some e =>
    have f : fstE h M r = e := by
      unfold fstE
      rw [z]
      rfl
    obtain ⟨q1, q2, q3⟩ := List.find?_range_eq_some.mp z
    have em := List.mem_range.mp q2
    rw [f]
    refine ⟨?_, of_decide_eq_true q1, fun k hk => ?_⟩
    · have : e ≤ r / h.toNat := by
        unfold mx at em
        split at em <;> omega
      exact (Nat.le_div_iff_mul_le (by omega)).mp this
    · have := q3 k hk
      rw [Bool.not_eq_true', decide_eq_false_iff_not] at this
      omega
def spLeast (K : PySem.W.Frag) : Sp := fun vs H Q _ => ∃ (a c : Addr) (L : List Int) (N st r : Nat), vs = [.ref a, .ref c, .int (st : Int), .int (r : Int)] ∧ SqT K H a (iV L) ∧ Cnts H c L N ∧ Lt L ∧ N ≤ 900 ∧ st ≤ L.length ∧ r ≤ N ∧ 0 < cnt (L.drop st) r ∧ ∀ H' p, Same H H' → H p = none → H' p = some (.lst (iV (least (L.drop st) r))) → Q (.ref p) H'
theorem scLeast : FnScope ["letters", "counts", "start", "rest", "found", "index", "exponent"] ["letters", "counts", "start", "rest"] (defScope sLeast) := ⟨rfl, rfl, rfl, by decide +kernel, rfl, by decide +kernel, by decide +kernel⟩
/-- a word, or None -/
def WordIs (K : PySem.W.Frag) (H : Hp) (v : V) : Option (List Int) → Prop
  | none => v = .non
  | some w => ∃ t, v = .ref t ∧ SqT K H t (iV w)
theorem WordIs.mono {K : PySem.W.Frag} {H H' : Hp} {v : V} : ∀ {o : Option (List Int)}, WordIs K H v o → Same H H' → WordIs K H' v o
  | none, h, _ => h
  | some w, ⟨t, e, q⟩, s => ⟨t, e, tupSame s q⟩
def spFirst (K : PySem.W.Frag) : Sp := fun vs H Q _ => ∃ (a c : Addr) (L : List Int) (N d : Nat), vs = [.ref a, .ref c, .int (d : Int)] ∧ SqT K H a (iV L) ∧ Cnts H c L N ∧ Lt L ∧ N ≤ 900 ∧ d ≤ N ∧ ∀ H' v, Same H H' → WordIs K H' v (wds L d).head? → Q v H'
theorem scFirst : FnScope ["letters", "counts", "degree"] ["letters", "counts", "degree"] (defScope sFirst) := ⟨rfl, rfl, rfl, by decide +kernel, rfl, by decide +kernel, by decide +kernel⟩
def riseV (o : Option Nat) : Int := match o with
  | some k => ((k + 1 : Nat) : Int)
  | none => 0
def spRise : Sp := fun vs H Q _ => ∃ (r : Addr) (M : List Int) (N g e d : Nat), vs = [.int (g : Int), .ref r, .int (e : Int), .int (d : Int)] ∧ H r = some (.lst (iV (rowOf N fun k => (cnt M k : Int)))) ∧ N ≤ 900 ∧ d ≤ N ∧ 1 ≤ g ∧ g ≤ 40 ∧ e ≤ 1000 ∧ Q (.int (riseV (rise (g : Int) M (e : Int) d))) H
theorem scRise : FnScope ["letter", "counts", "exponent", "rest", "most", "rise"] ["letter", "counts", "exponent", "rest"] (defScope sRise) := ⟨rfl, rfl, rfl, by decide +kernel, rfl, by decide +kernel, by decide +kernel⟩
section
variable {P : Program} {w : World} {K : PySem.W.Frag} {mg : Str → Option Value} {base : Heap}
theorem ok_least {f : Addr} {fd : FuncData} (F : Fun K "_least_exponents" "_least_exponents" sLeast f fd) (T : Txt K mg) : FnOk P w K mg base CX0 1 f fd ["letters", "counts", "start", "rest"] (spLeast K) := by
  refine F.ok scLeast (fun vs H Q E h => ?_) (fun cdv A outer s H vs Q E hr h => ?_)
  · obtain ⟨a, c, L, N, st, r, rfl, _⟩ := h; rfl
  obtain ⟨a, c, L, N, st, r, rfl, ha, hc, hL, hN, hst, hrN, hpos, k⟩ := h
  refine ⟨_, pss_cons (ps_set (i := 4) scLeast.nd rfl (.inl rfl) (pe_lst pa_nil))
    (pss_cons (ps_for PassesOwn.never rfl (pi_range2 rfl T.range (pa_cons (pv 2) (pa_cons (pe_callB call_len_seq (by rfl) T.len PySem.boot_len (pa_cons (pv 0) pa_nil)) pa_nil))) (pg_name (i := 5) scLeast.nd rfl (.inl rfl))
      (pss_cons (ps_set (i := 6) scLeast.nd rfl (.inl rfl) pe_int)
      (pss_cons (ps_while PassesOwn.never (pt_cmpR op_eq (pe_ix ix_list (pe_ix ix_list (pv 1) (pe_op op_add (pv 5) pe_int) (fun _ _ => rfl)) (pv 3) (fun _ _ => rfl)) pe_int (nomark _))
        (pss_cons (ps_aug (i := 6) scLeast.nd rfl (.inl rfl) pe_int ip_add)
        (pss_one (ps_set (i := 3) scLeast.nd rfl (.inl rfl) (pe_op op_sub (pv 3) (pe_ix ix_tup (pv 0) (pv 5) (fun _ _ => rfl)))))))
      (pss_one (ps_expr (pe_bm PySem.F.plainAttrs_list PySem.F.slot_list_append PySem.F.type_list_append mt_append (pv 4) (pa_cons (pv 6) pa_nil)))))))
    (pss_one (ps_ret (pv 4)))), ?_⟩
  have lL : (iV L).length = L.length := List.length_map _
  have h24 := hL.len
  refine ⟨(by show 0 ≤ sizeLine; decide), fun q hq => ?_⟩
  have s0 := Same.new (o := .lst []) hq
  refine ⟨_, rfl, _, rfl, a, _, rfl, .inr (tupSame s0 ha), _, _, rfl, ⟨by omega, by omega, by omega, by rw [lL]; omega⟩, for_it (walk_range (lo := (st : Int)) (n := (((iV L).length : Int) - (st : Int)).toNat))
    (fun i σ H' => ∃ (o5 o6 : Option V) (r' : Nat) (u : List Int), σ = [some (.ref a), some (.ref c), some (.int (st : Int)), some (.int (r' : Int)), some (.ref q), o5, o6] ∧ Same H H' ∧ H' q = some (.lst (iV u)) ∧ u.length = i ∧ u ++ least (L.drop (st + i)) r' = least (L.drop st) r ∧ r' ≤ N ∧ 0 < cnt (L.drop (st + i)) r')
    ⟨_, _, r, [], rfl, s0, upd_same, rfl, rfl, hrN, hpos⟩ (fun _ _ _ _ _ => trivial) (fun i x σ H0 H1 hi q y => ?_) fun σ H1 q => ?_⟩
  · obtain ⟨o5, o6, r', u, rfl, s1, hu, lu, hl, hr', hc'⟩ := q
    obtain ⟨rfl, rfl⟩ := y
    rw [lL] at hi
    have hj : st + i < L.length := by omega
    have ed : L.drop (st + i) = L[st + i] :: L.drop (st + i + 1) := List.drop_eq_getElem_cons hj
    have hm : L[st + i] ∈ L := List.getElem_mem hj
    have b1 := hL.lo _ hm
    have b2 := hL.hi _ hm
    have gL : (iV L)[st + i]? = some (.int L[st + i]) := by
      rw [List.getElem?_map, List.getElem?_eq_getElem hj]
      rfl
    generalize L[st + i] = hh at *
    obtain ⟨g, rfl⟩ : ∃ g : Nat, hh = (g : Int) := ⟨hh.toNat, by omega⟩
    have hp : Pos1 ((g : Int) :: L.drop (st + i + 1)) := by rw [← ed]; exact hL.drop _
    rw [ed] at hc' hl
    obtain ⟨f1, f2, f3⟩ := fst_spec hp hc'
    have el : least ((g : Int) :: L.drop (st + i + 1)) r' = (fstE (g : Int) (L.drop (st + i + 1)) r' : Int) :: least (L.drop (st + i + 1)) (r' - fstE (g : Int) (L.drop (st + i + 1)) r' * (g : Int).toNat) := rfl
    rw [el] at hl
    rw [Int.toNat_natCast] at f1 f2 f3 hl
    generalize fstE (g : Int) (L.drop (st + i + 1)) r' = E0 at *
    have e1 : (st : Int) + (i : Int) = ((st + i : Nat) : Int) := by omega
    refine ⟨fun m σ H' => H' = H1 ∧ ∃ e : Nat, m + e = E0 ∧ σ = [some (.ref a), some (.ref c), some (.int (st : Int)), some (.int ((r' - e * g : Nat) : Int)), some (.ref q), some (.int ((st : Int) + (i : Int))), some (.int (e : Int))], ⟨E0, rfl, 0, rfl, by rw [Nat.zero_mul]; rfl⟩, fun m σ H' hw => ?_⟩
    obtain ⟨rfl, e, he, rfl⟩ := hw
    obtain ⟨xs, hx, lx, hrow⟩ := hc.mono s1
    obtain ⟨x, gx, rr, rfl, hrr⟩ := hrow (st + i + 1) (by omega)
    have eg : e * g ≤ E0 * g := Nat.mul_le_mul_right g (by omega)
    refine ⟨_, rfl, _, rfl, _, _, rfl, rfl, c, xs, _, _, rfl, rfl, SqL.of hx, ?_, _, rfl, rr, _, _, _, rfl, rfl, SqL.of hrr, atI_nat (rowOf_get (by omega)), rfl, _, rfl, ?_⟩
    · show atI xs ((st : Int) + (i : Int) + 1) = _
      rw [show (st : Int) + (i : Int) + 1 = ((st + i + 1 : Nat) : Int) by omega]
      exact atI_nat gx
    refine ite2 (fun ct => ?_) (fun ct => ?_)
    · have ct := V.int.inj (of_decide_eq_true ct)
      have ne : e < E0 := by
        rcases Nat.lt_or_ge e E0 with z | z
        · exact z
        · obtain rfl : e = E0 := by omega
          omega
      have eg2 : (e + 1) * g ≤ E0 * g := Nat.mul_le_mul_right g (by omega)
      have E1 : ((r' - e * g : Nat) : Int) - (g : Int) = ((r' - (e + 1) * g : Nat) : Int) := by
        rw [Nat.add_mul, Nat.one_mul] at eg2 ⊢
        omega
      refine ⟨fun σ' H'' => H'' = H' ∧ σ' = [some (.ref a), some (.ref c), some (.int (st : Int)), some (.int ((r' - (e + 1) * g : Nat) : Int)), some (.ref q), some (.int ((st : Int) + (i : Int))), some (.int ((e + 1 : Nat) : Int))], fun σ' H'' hh => ⟨m - 1, by omega, hh.1, e + 1, by omega, hh.2⟩, ?_⟩
      refine ⟨_, rfl, _, _, rfl, rfl, _, rfl, _, rfl, _, rfl, a, iV L, _, _, rfl, rfl, tupSame s1 ha, by rw [e1]; exact atI_nat gL, _, _, rfl, rfl, rfl, ?_⟩
      rw [← E1]
      rfl
    · have ct : ¬ ((cnt (L.drop (st + i + 1)) (r' - e * g) : Int) = 0) := fun z => ct (decide_eq_true (congrArg V.int z))
      obtain rfl : e = E0 := by
        rcases Nat.lt_or_ge e E0 with z | z
        · have := f3 e z
          omega
        · omega
      refine ⟨_, rfl, .inl ⟨rfl, _, SqL.of hu⟩, _, rfl, q, _, _, rfl, rfl, hu, ?_, _, _, r' - e * g, u ++ [(e : Int)], rfl, Same.back s1 hq, ?_, ?_, ?_, by omega, f2⟩
      · exact Nat.lt_of_le_of_lt (by rw [List.length_map]; omega : (iV u).length ≤ 24) (small1000 (by omega))
      · rw [upd_same]
        show _ = some (HO.lst (List.map V.int (u ++ [(e : Int)])))
        rw [List.map_append]
        rfl
      · rw [List.length_append, lu]
        rfl
      · rw [← hl, List.append_assoc]
        rfl
  · obtain ⟨o5, o6, r', u, rfl, s1, hu, lu, hl, hr', hc'⟩ := q
    rw [lL] at lu hl
    have z : L.drop (st + ((L.length : Int) - (st : Int)).toNat) = [] := List.drop_eq_nil_of_le (by omega)
    rw [z] at hl
    have hl : u ++ [] = _ := hl
    rw [List.append_nil] at hl
    subst hl
    exact ⟨_, rfl, k H1 q s1 hq hu⟩
theorem ok_first {fE : Addr} {dE : FuncData} {f : Addr} {fd : FuncData} (F : Fun K "first_word" "first_word" sFirst f fd) (T : Txt K mg) (gE : mg "_least_exponents" = some (.ref fE)) (kE : PySem.W.keepIn K (.ref fE) = true) (bE : Binds K dE ["letters", "counts", "start", "rest"] [])
    (FE : FnOk P w K mg base CX0 1 fE dE ["letters", "counts", "start", "rest"] (spLeast K)) : FnOk P w K mg base CX0 2 f fd ["letters", "counts", "degree"] (spFirst K) := by
  refine F.ok scFirst (fun vs H Q E h => ?_) (fun cdv A outer s H vs Q E hr h => ?_)
  · obtain ⟨a, c, L, N, d, rfl, _⟩ := h; rfl
  obtain ⟨a, c, L, N, d, rfl, ha, hc, hL, hN, hd, k⟩ := h
  refine ⟨_, pss_cons (ps_if (pt_cmpR op_eq (pe_ix ix_list (pe_ix ix_list (pv 1) pe_int (fun _ _ => rfl)) (pv 2) (fun _ _ => rfl)) pe_int (nomark _)) (pss_one (ps_ret pe_non)) pss_nil)
    (pss_one (ps_ret (pe_callTy call_tuple_of (by rfl) T.tuple bootTuple (pa_cons (pe_call FE hr (by rfl) gE kE bE .nil pass0 (pa_cons (pv 0) (pa_cons (pv 1) (pa_cons pe_int (pa_cons (pv 2) pa_nil))))) pa_nil)))), ?_⟩
  obtain ⟨xs, hx, lx, hrow⟩ := id hc
  obtain ⟨x, gx, rr, rfl, hrr⟩ := hrow 0 (Nat.zero_le _)
  rw [List.drop_zero] at hrr
  have hh := wds_head (d := d) hL.pos
  refine ⟨_, rfl, c, xs, _, _, rfl, rfl, SqL.of hx, atI_nat gx, _, rfl, rr, _, _, _, rfl, rfl, SqL.of hrr, atI_nat (rowOf_get hd), rfl, _, rfl, ite2 (fun ct => ?_) (fun ct => ?_)⟩
  · have ct := V.int.inj (of_decide_eq_true ct)
    rw [if_neg (by omega)] at hh
    refine k H _ (Same.refl _) ?_
    rw [hh]
    rfl
  · have ct : ¬ ((cnt L d : Int) = 0) := fun z => ct (decide_eq_true (congrArg V.int z))
    rw [if_pos (by omega)] at hh
    refine ⟨_, rfl, _, rfl, _, rfl, a, c, L, N, 0, d, rfl, ha, hc, hL, hN, Nat.zero_le _, hd, by rw [List.drop_zero]; omega, fun H1 p s1 hp h1 => ?_⟩
    rw [List.drop_zero] at h1
    refine ⟨p, _, rfl, .inl ⟨SqL.of h1, fun t ht => ?_⟩⟩
    refine k _ _ (s1.trans (Same.new ht)) ?_
    rw [hh]
    exact ⟨t, rfl, SqT.of upd_same⟩
theorem ok_rise {f : Addr} {fd : FuncData} (F : Fun K "_least_rise" "_least_rise" sRise f fd) (T : Txt K mg) : FnOk P w K mg base CX0 1 f fd ["letter", "counts", "exponent", "rest"] spRise := by
  refine F.ok scRise (fun vs H Q E h => ?_) (fun cdv A outer s H vs Q E hr h => ?_)
  · obtain ⟨r, M, N, g, e, d, rfl, _⟩ := h; rfl
  obtain ⟨r, M, N, g, e, d, rfl, hr0, hN, hd, hg, hg4, he, k⟩ := h
  refine ⟨_, pss_cons (ps_set (i := 4) scRise.nd rfl (.inl rfl) (pe_op op_fdiv (pv 3) (pv 0)))
    (C8.pss_cut (ps_if (pt_cmpR op_eq (pe_op op_mod (pv 0) pe_int) pe_int (nomark _)) (pss_one (ps_set (i := 4) scRise.nd rfl (.inl rfl) (pe_callB (call_min2 rfl) (by rfl) T.min bootMin (pa_cons (pv 4) (pa_cons (pe_op op_sub pe_int (pv 2)) pa_nil))))) pss_nil)
    (pss_cons (ps_for PassesOwn.never rfl (pi_range2 rfl T.range (pa_cons pe_int (pa_cons (pe_op op_add (pv 4) pe_int) pa_nil))) (pg_name (i := 5) scRise.nd rfl (.inl rfl))
      (pss_one (ps_if (pt_cmpR op_gt (pe_ix ix_list (pv 1) (pe_op op_sub (pv 3) (pe_op op_mul (pv 5) (pv 0))) (fun _ _ => rfl)) pe_int (nomark _)) (pss_one (ps_ret (pv 5))) pss_nil)))
    (pss_one (ps_ret pe_int)))), ?_⟩
  have dv : (d : Int) / (g : Int) = ((d / g : Nat) : Int) := rfl
  have dl : d / g ≤ d := Nat.div_le_self _ _
  refine ⟨_, rfl, _, rfl, _, _, rfl, rfl, ⟨by omega, by omega⟩, fun σ' H' => H' = H ∧ ∃ mo : Int, σ' = [some (.int (g : Int)), some (.ref r), some (.int (e : Int)), some (.int (d : Int)), some (.int mo), none] ∧ mo.toNat = mr (g : Int) (e : Int) d ∧ -1000 ≤ mo ∧ mo ≤ 1000, ?_, ?_⟩
  · refine ⟨_, rfl, _, _, rfl, rfl, (by show (0 : Int) < 2; decide), rfl, _, rfl, ite2 (fun ct => ?_) (fun ct => ?_)⟩
    · have ct := V.int.inj (of_decide_eq_true ct)
      refine ⟨_, rfl, _, rfl, _, _, rfl, rfl, _, _, rfl, rfl, _, rfl, ?_⟩
      rw [dv]
      unfold mr
      rw [Int.toNat_natCast, if_pos (show g % 2 = 1 by omega)]
      generalize d / g = z at *
      refine ⟨?_, ?_, ?_⟩
      · split <;> omega
      · split <;> omega
      · split <;> omega
    · have ct : ¬ ((g : Int) % 2 = 1) := fun z => ct (decide_eq_true (congrArg V.int z))
      refine ⟨rfl, _, rfl, ?_⟩
      rw [dv]
      unfold mr
      rw [show ((g : Nat) : Int).toNat = g from rfl, show (((d / g : Nat)) : Int).toNat = d / g from rfl, if_neg (show ¬ g % 2 = 1 by omega)]
      generalize d / g = z at *
      omega
  · rintro σ' H' ⟨rfl, mo, rfl, hm, m1, m2⟩
    have ml : mr (g : Int) (e : Int) d * g ≤ d := by
      have : mr (g : Int) (e : Int) d ≤ d / g := by
        unfold mr
        rw [Int.toNat_natCast]
        split <;> omega
      exact (Nat.le_div_iff_mul_le (by omega)).mp this
    refine ⟨_, rfl, _, _, rfl, rfl, _, _, rfl, ⟨by decide, by decide, by omega, by omega⟩, for_it (walk_range (lo := 1) (n := (mo + 1 - 1).toNat)) (fun i σ H1 => H1 = H' ∧ (∃ o5, σ = [some (.int (g : Int)), some (.ref r), some (.int (e : Int)), some (.int (d : Int)), some (.int mo), o5]) ∧ ∀ k, k < i → cnt M (d - (k + 1) * g) = 0)
      ⟨rfl, ⟨_, rfl⟩, fun k hk => absurd hk (Nat.not_lt_zero _)⟩ (fun _ _ _ _ _ => trivial) (fun i x σ H0 H1 hi q y => ?_) fun σ H1 q => ?_⟩
    · obtain ⟨rfl, ⟨o5, rfl⟩, hz⟩ := q
      obtain ⟨rfl, rfl⟩ := y
      have hi : i < mr (g : Int) (e : Int) d := by
        rw [← hm]
        omega
      have il : (i + 1) * g ≤ d := Nat.le_trans (Nat.mul_le_mul_right g (by omega)) ml
      have ex : (d : Int) - (1 + (i : Int)) * (g : Int) = ((d - (i + 1) * g : Nat) : Int) := by
        have : (1 + (i : Int)) * (g : Int) = (((i + 1) * g : Nat) : Int) := by
          rw [Int.natCast_mul, Int.natCast_add, Int.add_comm]
          rfl
        rw [this]
        omega
      refine ⟨_, rfl, _, rfl, _, rfl, _, rfl, _, _, rfl, rfl, .inr ⟨by omega, by omega⟩, _, _, rfl, rfl, r, _, _, _, rfl, rfl, SqL.of hr0, by rw [ex]; exact atI_nat (rowOf_get (by omega)), _, _, rfl, rfl, _, rfl, ite2 (fun ct => ?_) (fun ct => ?_)⟩
      · have ct := of_decide_eq_true ct
        refine ⟨_, rfl, ?_⟩
        have e1 : rise (g : Int) M (e : Int) d = some i := by
          unfold rise
          rw [List.find?_range_eq_some]
          refine ⟨decide_eq_true ?_, List.mem_range.mpr hi, fun k hk => ?_⟩
          · rw [Int.toNat_natCast]
            omega
          · rw [Int.toNat_natCast, hz k hk]
            rfl
        rw [e1] at k
        have e2 : riseV (some i) = 1 + (i : Int) := by
          show (((i + 1 : Nat)) : Int) = _
          omega
        rw [e2] at k
        exact k
      · have ct : ¬ _ := fun z => ct (decide_eq_true z)
        refine ⟨rfl, ⟨_, rfl⟩, fun k hk => ?_⟩
        rcases Nat.lt_or_ge k i with z | z
        · exact hz k z
        · obtain rfl : k = i := by omega
          omega
    · obtain ⟨rfl, ⟨o5, rfl⟩, hz⟩ := q
      have e1 : rise (g : Int) M (e : Int) d = none := by
        unfold rise
        rw [List.find?_eq_none]
        intro x hx
        have := List.mem_range.mp hx
        rw [Int.toNat_natCast, hz x (by omega)]
        exact Bool.false_ne_true
      rw [e1] at k
      exact k
end
end K9
namespace K9
open PySem PySem.Spec PyProof.Rows L2 RZ
theorem nxt_pre : ∀ (j : Nat) (L w : List Int) {v : List Int}, w.length = L.length → j ≤ L.length → nxt (L.drop j) (w.drop j) = some v → nxt L w = some (w.take j ++ v)
  | 0, L, w, v, _, _, h => h
  | j + 1, h :: L, e :: w, v, hl, hj, q => by
    have ih := nxt_pre j L w (Nat.succ.inj hl) (Nat.le_of_succ_le_succ hj) q
    show (match nxt L w with
      | some v => some (e :: v)
      | none => _) = some (e :: (w.take j ++ v))
    rw [ih]
theorem dg_drop : ∀ (j : Nat) (L w : List Int), Pos1 L → (∀ e ∈ w, 0 ≤ e) → 0 ≤ dg (L.drop j) (w.drop j) ∧ dg (L.drop j) (w.drop j) ≤ dg L w
  | j, [], w, _, _ => by
    rw [List.drop_nil]
    exact ⟨Int.le_refl _, Int.le_refl _⟩
  | 0, h :: L, [], _, _ => ⟨Int.le_refl _, Int.le_refl _⟩
  | j + 1, h :: L, [], _, _ => by
    rw [List.drop_nil]
    show 0 ≤ dg (L.drop j) [] ∧ dg (L.drop j) [] ≤ 0
    cases L.drop j <;> exact ⟨Int.le_refl _, Int.le_refl _⟩
  | 0, h :: L, e :: w, hp, he => by
    have ih := dg_drop 0 L w (fun y hy => hp y (List.mem_cons_of_mem _ hy)) fun y hy => he y (List.mem_cons_of_mem _ hy)
    have h1 := hp h List.mem_cons_self
    have h2 := he e List.mem_cons_self
    refine ⟨?_, Int.le_refl _⟩
    show 0 ≤ h * e + dg L w
    have := Int.mul_nonneg (show 0 ≤ h by omega) h2
    have q : 0 ≤ dg L w := ih.1
    omega
  | j + 1, h :: L, e :: w, hp, he => by
    have ih := dg_drop j L w (fun y hy => hp y (List.mem_cons_of_mem _ hy)) fun y hy => he y (List.mem_cons_of_mem _ hy)
    have h1 := hp h List.mem_cons_self
    have h2 := he e List.mem_cons_self
    have := Int.mul_nonneg (show 0 ≤ h by omega) h2
    refine ⟨ih.1, ?_⟩
    show dg (L.drop j) (w.drop j) ≤ h * e + dg L w
    have := ih.2
    omega
def spNext (K : PySem.W.Frag) : Sp := fun vs H Q _ => ∃ (a c b : Addr) (L w : List Int) (N d : Nat), vs = [.ref a, .ref c, .ref b] ∧ SqT K H a (iV L) ∧ Cnts H c L N ∧ Lt L ∧ N ≤ 900 ∧ SqT K H b (iV w) ∧ Wo L w d ∧ (∀ e ∈ w, 0 ≤ e ∧ e ≤ d) ∧ d ≤ N ∧ ∀ H' v, Same H H' → WordIs K H' v (nxt L w) → Q v H'
theorem scNext : FnScope ["letters", "counts", "word", "rest", "index", "rise", "tail"] ["letters", "counts", "word"] (defScope sNext) := ⟨rfl, rfl, rfl, by decide +kernel, rfl, by decide +kernel, by decide +kernel⟩
section
variable {P : Program} {w : World} {K : PySem.W.Frag} {mg : Str → Option Value} {base : Heap}
theorem ok_next {fE fR : Addr} {dE dR : FuncData} {f : Addr} {fd : FuncData} (F : Fun K "next_word" "next_word" sNext f fd) (T : Txt K mg) (gR : mg "_least_rise" = some (.ref fR)) (kR : PySem.W.keepIn K (.ref fR) = true) (bR : Binds K dR ["letter", "counts", "exponent", "rest"] [])
    (FR : FnOk P w K mg base CX0 1 fR dR ["letter", "counts", "exponent", "rest"] spRise) (gE : mg "_least_exponents" = some (.ref fE)) (kE : PySem.W.keepIn K (.ref fE) = true) (bE : Binds K dE ["letters", "counts", "start", "rest"] [])
    (FE : FnOk P w K mg base CX0 1 fE dE ["letters", "counts", "start", "rest"] (spLeast K)) : FnOk P w K mg base CX0 2 f fd ["letters", "counts", "word"] (spNext K) := by
  refine F.ok scNext (fun vs H Q E h => ?_) (fun cdv A outer s H vs Q E hr h => ?_)
  · obtain ⟨a, c, b, L, w, N, d, rfl, _⟩ := h; rfl
  obtain ⟨a, c, b, L, u, N, d, rfl, ha, hc, hL, hN, hb, hw, hu, hd, k⟩ := h
  refine ⟨_, pss_cons (ps_set (i := 3) scNext.nd rfl (.inl rfl) pe_int)
    (pss_cons (ps_for PassesOwn.never rfl (pi_revR (by rfl) T.reversed (prg_1 (by rfl) T.range (pe_callB call_len_seq (by rfl) T.len PySem.boot_len (pa_cons (pv 0) pa_nil)))) (pg_name (i := 4) scNext.nd rfl (.inl rfl))
      (pss_cons (ps_set (i := 5) scNext.nd rfl (.inl rfl) (pe_call FR hr (by rfl) gR kR bR .nil pass0 (pa_cons (pe_ix ix_tup (pv 0) (pv 4) (fun _ _ => rfl)) (pa_cons (pe_ix ix_list (pv 1) (pe_op op_add (pv 4) pe_int) (fun _ _ => rfl)) (pa_cons (pe_ix ix_tup (pv 2) (pv 4) (fun _ _ => rfl)) (pa_cons (pv 3) pa_nil))))))
      (pss_cons (ps_if (pt_cmpR op_gt (pv 5) pe_int (nomark _))
        (pss_cons (ps_set (i := 3) scNext.nd rfl (.inl rfl) (pe_op op_sub (pv 3) (pe_op op_mul (pv 5) (pe_ix ix_tup (pv 0) (pv 4) (fun _ _ => rfl)))))
        (pss_cons (ps_set (i := 6) scNext.nd rfl (.inl rfl) (pe_call FE hr (by rfl) gE kE bE .nil pass0 (pa_cons (pv 0) (pa_cons (pv 1) (pa_cons (pe_op op_add (pv 4) pe_int) (pa_cons (pv 3) pa_nil))))))
        (pss_one (ps_ret (pe_op op_catA (pe_op op_catA (pe_slice sl_tupA (pv 2) po_none (po_some (pv 4))) (pe_tup (pa_cons (pe_op op_add (pe_ix ix_tup (pv 2) (pv 4) (fun _ _ => rfl)) (pv 5)) pa_nil))) (pe_callTy call_tuple_of (by rfl) T.tuple bootTuple (pa_cons (pv 6) pa_nil)))))))
        pss_nil)
      (pss_one (ps_set (i := 3) scNext.nd rfl (.inl rfl) (pe_op op_add (pv 3) (pe_op op_mul (pe_ix ix_tup (pv 2) (pv 4) (fun _ _ => rfl)) (pe_ix ix_tup (pv 0) (pv 4) (fun _ _ => rfl)))))))))
    (pss_one (ps_ret pe_non))), ?_⟩
  have lL : (iV L).length = L.length := List.length_map _
  have h24 := hL.len
  have hn : ∀ e ∈ u, 0 ≤ e := fun e he => (hu e he).1
  refine ⟨_, rfl, a, _, rfl, .inr ha, _, rfl, by decide, by decide, by omega, by rw [lL]; omega, for_rangeC (c := -1) (fun i σ H' => H' = H ∧ (∃ o4 o5 o6, σ = [some (.ref a), some (.ref c), some (.ref b), some (.int (dg (L.drop (L.length - i)) (u.drop (L.length - i)))), o4, o5, o6]) ∧ nxt (L.drop (L.length - i)) (u.drop (L.length - i)) = none)
    ⟨rfl, ⟨none, none, none, ?_⟩, ?_⟩ (fun i σ H1 hi q => ?_) fun σ H1 q => ?_⟩
  · rw [Nat.sub_zero, List.drop_length]
    rfl
  · rw [Nat.sub_zero, List.drop_length]
    rfl
  · obtain ⟨rfl, ⟨o4, o5, o6, rfl⟩, hz⟩ := q
    rw [lL] at hi
    have ei : (0 + ((((iV L).length : Int) - 0).toNat : Int) - 1) + (i : Int) * (-1) = ((L.length - 1 - i : Nat) : Int) := by
      rw [lL]
      omega
    rw [ei]
    have hjL : L.length - 1 - i < L.length := by omega
    have ez : L.length - i = L.length - 1 - i + 1 := by omega
    have ez1 : L.length - (i + 1) = L.length - 1 - i := by omega
    rw [ez] at hz
    rw [ez, ez1]
    generalize L.length - 1 - i = j at *
    have hju : j < u.length := by rw [hw.len]; exact hjL
    have dL : L.drop j = L[j] :: L.drop (j + 1) := List.drop_eq_getElem_cons hjL
    have du : u.drop j = u[j] :: u.drop (j + 1) := List.drop_eq_getElem_cons hju
    have b1 := hL.lo _ (List.getElem_mem hjL)
    have b2 := hL.hi _ (List.getElem_mem hjL)
    have b3 := hu _ (List.getElem_mem hju)
    have gL : (iV L)[j]? = some (.int L[j]) := by
      rw [List.getElem?_map, List.getElem?_eq_getElem hjL]
      rfl
    have gu : (iV u)[j]? = some (.int u[j]) := by
      rw [List.getElem?_map, List.getElem?_eq_getElem hju]
      rfl
    have dd := dg_drop (j + 1) L u hL.pos hn
    have pre := nxt_pre j L u (v := [] ) hw.len (Nat.le_of_lt hjL)
    have npre : ∀ v, nxt (L.drop j) (u.drop j) = some v → nxt L u = some (u.take j ++ v) := fun v => nxt_pre j L u hw.len (Nat.le_of_lt hjL)
    rw [hw.deg] at dd
    rw [dL, du] at npre ⊢
    generalize L[j] = hh at *
    generalize u[j] = ee at *
    obtain ⟨g, rfl⟩ : ∃ g : Nat, hh = (g : Int) := ⟨hh.toNat, by omega⟩
    obtain ⟨e, rfl⟩ : ∃ e : Nat, ee = (e : Int) := ⟨ee.toNat, by omega⟩
    have nx0 : nxt ((g : Int) :: L.drop (j + 1)) ((e : Int) :: u.drop (j + 1)) = (rise (g : Int) (L.drop (j + 1)) (e : Int) (dg (L.drop (j + 1)) (u.drop (j + 1))).toNat).map fun k => ((e : Int) + (k + 1 : Nat)) :: least (L.drop (j + 1)) ((dg (L.drop (j + 1)) (u.drop (j + 1))).toNat - (k + 1) * (g : Int).toNat) := by
      show (match nxt (L.drop (j + 1)) (u.drop (j + 1)) with
        | some v => some ((e : Int) :: v)
        | none => _) = _
      rw [hz]
    have dg0 : dg ((g : Int) :: L.drop (j + 1)) ((e : Int) :: u.drop (j + 1)) = (g : Int) * (e : Int) + dg (L.drop (j + 1)) (u.drop (j + 1)) := rfl
    rw [nx0] at npre ⊢
    rw [dg0]
    rw [Int.toNat_natCast] at npre ⊢
    generalize dg (L.drop (j + 1)) (u.drop (j + 1)) = rs at *
    obtain ⟨r, rfl⟩ : ∃ r : Nat, rs = (r : Int) := ⟨rs.toNat, by omega⟩
    rw [Int.toNat_natCast] at npre ⊢
    obtain ⟨xs, hx, lx, hrow⟩ := id hc
    obtain ⟨x, gx, rr, rfl, hrr⟩ := hrow (j + 1) (by omega)
    refine ⟨_, rfl, _, rfl, a, iV L, _, _, rfl, rfl, ha, atI_nat gL, _, rfl, _, rfl, _, _, rfl, rfl, c, xs, _, _, rfl, rfl, SqL.of hx, by rw [show ((j : Nat) : Int) + 1 = ((j + 1 : Nat) : Int) from rfl]; exact atI_nat gx, _, rfl, _, rfl, b, iV u, _, _, rfl, rfl, hb, atI_nat gu, _, rfl, rr, _, N, g, e, r, rfl, hrr, hN, by omega, by omega, by omega, by omega, ?_⟩
    refine ⟨_, rfl, _, _, rfl, rfl, _, rfl, ite2 (fun ct => ?_) (fun ct => ?_)⟩
    · have ct := of_decide_eq_true ct
      cases z : rise (g : Int) (L.drop (j + 1)) (e : Int) r with
      | none =>
        rw [z] at ct
        exact absurd ct (by decide)
      | some kk =>
        obtain ⟨q1, q2, q3⟩ := List.find?_range_eq_some.mp z
        have q1 := of_decide_eq_true q1
        rw [Int.toNat_natCast] at q1
        have q2 := List.mem_range.mp q2
        have il : (kk + 1) * g ≤ r := by
          have : kk + 1 ≤ r / g := by
            unfold mr at q2
            rw [Int.toNat_natCast] at q2
            split at q2 <;> omega
          exact (Nat.le_div_iff_mul_le (by omega)).mp this
        have er : riseV (some kk) = ((kk + 1 : Nat) : Int) := rfl
        have ex : (r : Int) - ((kk + 1 : Nat) : Int) * (g : Int) = ((r - (kk + 1) * g : Nat) : Int) := by
          rw [← Int.natCast_mul]
          omega
        rw [z] at npre
        rw [er]
        refine ⟨_, rfl, _, rfl, _, rfl, _, rfl, a, iV L, _, _, rfl, rfl, ha, atI_nat gL, _, _, rfl, rfl, .inr ⟨by omega, by omega⟩, _, _, rfl, rfl, ?_⟩
        refine ⟨_, rfl, _, rfl, _, rfl, _, _, rfl, rfl, _, rfl, a, c, L, N, j + 1, r - (kk + 1) * g, by rw [← ex]; rfl, ha, hc, hL, hN, by omega, by omega, q1, fun H2 p s2 hp h2 => ?_⟩
        have lu : (iV u).length = u.length := List.length_map _
        have cu : cutV (iV u) none (some ((j : Nat) : Int)) = iV (u.take j) := by
          unfold cutV
          have e1 : HT.sIx (iV u).length 0 none = 0 := rfl
          have e2 : HT.sIx (iV u).length (iV u).length (some ((j : Nat) : Int)) = j := by
            rw [HT.sIx_nat]
            omega
          rw [e1, e2, List.drop_zero, Nat.sub_zero]
          exact List.map_take.symm
        refine ⟨_, rfl, _, rfl, _, rfl, b, iV u, rfl, tupSame s2 hb, fun full => ?_, fun _ p2 hp2 => ?_⟩
        · have e2 := full.2
          rw [HT.sIx_nat] at e2
          omega
        · have s3 := Same.new (o := .tup (cutV (iV u) none (some ((j : Nat) : Int)))) hp2
          rw [cu] at s3 ⊢
          refine ⟨_, rfl, _, rfl, b, iV u, _, _, rfl, rfl, tupSame (s2.trans s3) hb, atI_nat gu, _, rfl, _, _, rfl, rfl, (by show 1 ≤ sizeLine; decide), fun p3 hp3 => ?_⟩
          have s4 := Same.new (o := .tup [.int ((e : Int) + ((kk + 1 : Nat) : Int))]) hp3
          have l24 : u.length = L.length := hw.len
          refine cat_tup (xs := iV (u.take j)) (ys := iV [(e : Int) + ((kk + 1 : Nat) : Int)]) (SqT.of (s4 _ _ upd_same)) (SqT.of upd_same) (by rw [List.length_map, List.length_take]; show _ + 1 ≤ 1000; omega) fun H4 p4 s5 h4 => ?_
          refine ⟨_, rfl, p, _, rfl, .inl ⟨SqL.of ((s3.trans (s4.trans s5)) _ _ h2), fun p5 hp5 => ?_⟩⟩
          have s6 := Same.new (o := .tup (iV (least (L.drop (j + 1)) (r - (kk + 1) * g)))) hp5
          refine cat_tup (tupSame s6 h4) (SqT.of upd_same) (by rw [List.length_append, List.length_map, List.length_map, List.length_map, least_len, List.length_take, List.length_drop]; show _ + 1 + _ ≤ 1000; omega) fun H6 p6 s7 h6 => ?_
          refine k H6 _ (s2.trans (s3.trans (s4.trans (s5.trans (s6.trans s7))))) ?_
          rw [npre _ rfl]
          refine ⟨p6, rfl, ?_⟩
          have e3 : iV (u.take j ++ ((e : Int) + ((kk + 1 : Nat) : Int)) :: least (L.drop (j + 1)) (r - (kk + 1) * g)) = iV (u.take j) ++ iV [(e : Int) + ((kk + 1 : Nat) : Int)] ++ iV (least (L.drop (j + 1)) (r - (kk + 1) * g)) := by
            rw [List.append_assoc]
            exact List.map_append
          rw [e3]
          exact h6
    · have ct : ¬ _ := fun z => ct (decide_eq_true z)
      cases z : rise (g : Int) (L.drop (j + 1)) (e : Int) r with
      | some kk =>
        rw [z] at ct
        exact absurd (show (0 : Int) < riseV (some kk) by show (0 : Int) < ((kk + 1 : Nat) : Int); omega) ct
      | none =>
        refine ⟨_, rfl, _, rfl, _, rfl, b, iV u, _, _, rfl, rfl, hb, atI_nat gu, _, rfl, _, rfl, a, iV L, _, _, rfl, rfl, ha, atI_nat gL, _, _, rfl, rfl, .inr ⟨by omega, by omega⟩, _, _, rfl, rfl, rfl, ⟨some (.int ((j : Nat) : Int)), some (.int 0), o6, ?_⟩, rfl⟩
        rw [Int.add_comm, Int.mul_comm]
        rfl
  · obtain ⟨rfl, ⟨o4, o5, o6, rfl⟩, hz⟩ := q
    rw [lL] at hz
    have e0 : L.length - ((L.length : Int) - 0).toNat = 0 := by omega
    rw [e0] at hz
    refine k H1 _ (Same.refl _) ?_
    have hz : nxt L u = none := hz
    rw [hz]
    rfl
end
end K9
namespace K9
open PySem PySem.Spec PyProof.Rows L2 RZ
def par (r : Int) (k : Int) : List Int → List Int
  | [] => []
  | d :: L => if d % 2 = r then k :: par r (k + 1) L else par r (k + 1) L
theorem par_append {r : Int} : ∀ (L M : List Int) (k : Int), par r k (L ++ M) = par r k L ++ par r (k + L.length) M
  | [], M, k => by
    show par r k M = [] ++ par r (k + 0) M
    rw [Int.add_zero, List.nil_append]
  | d :: L, M, k => by
    have ih := par_append (r := r) L M (k + 1)
    have e : k + 1 + (L.length : Int) = k + ((d :: L).length : Int) := by
      rw [List.length_cons]
      omega
    rw [e] at ih
    show (if d % 2 = r then k :: par r (k + 1) (L ++ M) else par r (k + 1) (L ++ M)) = (if d % 2 = r then k :: par r (k + 1) L else par r (k + 1) L) ++ _
    split
    · rw [ih]
      rfl
    · rw [ih]
theorem par_len {r : Int} : ∀ (L : List Int) (k : Int), (par r k L).length ≤ L.length
  | [], _ => Nat.le_refl _
  | d :: L, k => by
    have := par_len (r := r) L (k + 1)
    show (if d % 2 = r then k :: par r (k + 1) L else par r (k + 1) L).length ≤ _
    split
    · rw [List.length_cons, List.length_cons]
      omega
    · rw [List.length_cons]
      omega
/-- the indices of odd letters, over enumerate -/
theorem lc_par {r : Int} {K : PySem.W.Frag} {a : Addr} {L : List Int} {i j : Nat} {tt : TT} {te : TE} {vs : List Nat} {σ : L2.St} {H : Hp} {D : Addr} {Qd : Hp → Prop} (hD : H D = none) (ha : SqT K H a (iV L)) (ln : L.length ≤ 1000)
    (hw : ∀ x y : V, wipe (((wipe σ vs).set i (some x)).set j (some y)) vs = wipe σ vs)
    (ht : ∀ (n : Nat) (d : Int) (H1 : Hp) (Q : Bool → Hp → Prop), Q (decide (d % 2 = r)) H1 → tt (((wipe σ vs).set i (some (.int n))).set j (some (.int d))) H1 Q)
    (he : ∀ (n : Nat) (d : Int) (H1 : Hp) (Q : VK), Q (.int n) H1 → te (((wipe σ vs).set i (some (.int n))).set j (some (.int d))) H1 Q)
    (hd : ∀ H', Same H H' → H' D = some (.lst (iV (par r 0 L))) → Qd H') : LcW (IteT K a) (gTup K 2 (gCons (gName i) (gCons (gName j) gNil))) tt te vs σ H D Qd := by
  refine lc_it (walk_enumT (xs := iV L)) (fun n H' => Same H H' ∧ H' D = some (.lst (iV (par r 0 (L.take n))))) ⟨Same.new hD, upd_same⟩ (fun _ H' _ p => tupSame p.1 ha) (fun n x H1 H2 hn p y => ?_) fun H' p => ?_
  · obtain ⟨T, u, v, rfl, hT, rfl, hu, hv⟩ := y
    have hu : some (V.int (n : Nat)) = some u := hu
    have hv : (iV L)[n]? = some v := hv
    cases hu
    rw [List.getElem?_map] at hv
    obtain ⟨d, hd1, rfl⟩ := Option.map_eq_some_iff.mp hv
    have s1 : Same H1 (upd H1 T (.tup [.int (n : Nat), .int d])) := Same.new hT
    have nl := (List.getElem?_eq_some_iff.mp hd1).1
    have e1 : par r 0 (L.take (n + 1)) = par r 0 (L.take n) ++ (if d % 2 = r then [(n : Int)] else []) := by
      rw [take_more hd1, par_append, List.length_take, Nat.min_eq_left (Nat.le_of_lt nl), Int.zero_add]
      rfl
    refine ⟨T, [.int (n : Nat), .int d], rfl, SqT.of upd_same, rfl, .int (n : Nat), [.int d], rfl, .int d, [], rfl, rfl, hw _ _, ht n d _ _ ?_⟩
    by_cases c : d % 2 = r
    · rw [decide_eq_true c]
      refine iteT (he n d _ _ ?_)
      have ol := par_len (r := r) (L.take n) 0
      rw [List.length_take] at ol
      refine ⟨iV (par r 0 (L.take n)), s1 _ _ p.2, small1000 (by rw [List.length_map]; omega), Same.back (p.1.trans s1) hD, ?_⟩
      rw [upd_same, e1, if_pos c]
      show _ = some (HO.lst (List.map V.int _))
      rw [List.map_append]
      rfl
    · rw [decide_eq_false c]
      refine iteF ⟨p.1.trans s1, ?_⟩
      rw [e1, if_neg c, List.append_nil]
      exact s1 _ _ p.2
  · refine hd H' p.1 ?_
    rw [p.2, List.length_map, List.take_length]
end K9
namespace K9
open PySem PySem.Spec PyProof.Rows L2 RZ
theorem wds_length_pos {L : List Int} (h : Lt L) (d : Nat) : (wds L d).length = cnt L d := wds_len L d h.pos
def spChkL (K : PySem.W.Frag) : Sp := fun vs H Q _ => ∃ (a : Addr) (L : List Int), vs = [.ref a] ∧ SqT K H a (iV L) ∧ Lt L ∧ ∀ H', Same H H' → Q .non H'
def spChkB (K : PySem.W.Frag) : Sp := fun vs H Q _ => ∃ (i a b : Int), vs = [.int i, .int a, .int b] ∧ a ≤ i ∧ i ≤ b ∧ 0 ≤ i ∧ i ≤ 1000 ∧ Q .non H
def spCount (K : PySem.W.Frag) : Sp := fun vs H Q _ => ∃ (a : Addr) (L : List Int) (d : Nat), vs = [.ref a, .int (d : Int)] ∧ SqT K H a (iV L) ∧ Lt L ∧ d ≤ 80 ∧ ∀ H', Same H H' → Q (.int (cnt L d : Int)) H'
def spListed (K : PySem.W.Frag) : Sp := fun vs H Q _ => ∃ (a : Addr) (L : List Int) (d : Nat), vs = [.ref a, .int (d : Int)] ∧ SqT K H a (iV L) ∧ Lt L ∧ d ≤ 80 ∧ cnt L d ≤ 900 ∧ ∀ H' p xs, Same H H' → H p = none → H' p = some (.lst xs) → TupsV K H' xs (wds L d) → Q (.ref p) H'
def spWords (K : PySem.W.Frag) : Sp := fun vs H Q _ => ∃ (a : Addr) (L : List Int) (d : Nat), vs = [.ref a, .int (d : Int)] ∧ SqT K H a (iV L) ∧ Lt L ∧ d ≤ 80 ∧ cnt L d ≤ 400 ∧ ∀ H' p xs, Same H H' → SqT K H' p xs → TupsV K H' xs (wds L d) → Q (.ref p) H'
def spPar (K : PySem.W.Frag) (r : Int) : Sp := fun vs H Q _ => ∃ (a : Addr) (L : List Int), vs = [.ref a] ∧ SqT K H a (iV L) ∧ Lt L ∧ ∀ H' p, Same H H' → SqT K H' p (iV (par r 0 L)) → Q (.ref p) H'
def spTop (K : PySem.W.Frag) : Sp := fun vs H Q _ => ∃ (a : Addr) (L : List Int), vs = [.ref a] ∧ SqT K H a (iV L) ∧ Lt L ∧ (∀ d ∈ L, d % 2 = 1) ∧ ∀ H' p, Same H H' → SqT K H' p (iV (List.replicate L.length 1)) → Q (.ref p) H'
theorem scChkB : FnScope ["value", "least", "most"] ["value", "least", "most"] (defScope sChkB) := ⟨rfl, rfl, rfl, by decide +kernel, rfl, by decide +kernel, by decide +kernel⟩
theorem scCount : FnScope ["letters", "degree"] ["letters", "degree"] (defScope sCount) := ⟨rfl, rfl, rfl, by decide +kernel, rfl, by decide +kernel, by decide +kernel⟩
theorem scListed : FnScope ["letters", "degree", "counts", "found", "word"] ["letters", "degree"] (defScope sListed) := ⟨rfl, rfl, rfl, by decide +kernel, rfl, by decide +kernel, by decide +kernel⟩
theorem par_all {r : Int} : ∀ {L : List Int} {k : Int}, (∀ d ∈ L, d % 2 = r) → (par r k L).length = L.length
  | [], _, _ => rfl
  | d :: L, k, h => by
    show (if d % 2 = r then k :: par r (k + 1) L else par r (k + 1) L).length = _
    rw [if_pos (h d List.mem_cons_self), List.length_cons, List.length_cons, par_all fun y hy => h y (List.mem_cons_of_mem _ hy)]
section
variable {P : Program} {w : World} {K : PySem.W.Frag} {mg : Str → Option Value} {base : Heap} {fB fL fC fS fF fN fO : Addr} {dB dL dC dS dF dN dO : FuncData}
theorem ok_chkb {f : Addr} {fd : FuncData} (F : Fun K "check_between" "check_between" sChkB f fd) (gB : mg "is_between" = some (.ref fB)) (kB : PySem.W.keepIn K (.ref fB) = true) (bB : Binds K dB ["value", "least", "most"] [])
    (B : FnOk P w K mg base CX0 3 fB dB ["value", "least", "most"] (spBetw K)) : FnOk P w K mg base CX0 4 f fd ["value", "least", "most"] (spChkB K) := by
  refine F.ok scChkB (fun vs H Q E h => ?_) (fun cdv A outer s H vs Q E hr h => ?_)
  · obtain ⟨i, a, b, rfl, _⟩ := h; rfl
  obtain ⟨i, a, b, rfl, ha, hb, h0, h1, k⟩ := h
  refine ⟨_, pss_one (ps_if (pt_not (pt_val (pe_call B hr (by rfl) gB kB bB .nil pass0 (pa_cons (pv 0) (pa_cons (pv 1) (pa_cons (pv 2) pa_nil)))))) pss_never pss_nil), ?_⟩
  refine ⟨_, rfl, _, rfl, _, rfl, .int i, a, b, rfl, .int i, _, rfl, ?_⟩
  rw [betw_small h0 h1 ha hb]
  exact iteF k
theorem ok_count {f : Addr} {fd : FuncData} (F : Fun K "count_words" "count_words" sCount f fd) (gS : mg "suffix_counts" = some (.ref fS)) (kS : PySem.W.keepIn K (.ref fS) = true) (bS : Binds K dS ["letters", "most"] [])
    (FS : FnOk P w K mg base CX0 2 fS dS ["letters", "most"] (spSuf K)) : FnOk P w K mg base CX0 3 f fd ["letters", "degree"] (spCount K) := by
  refine F.ok scCount (fun vs H Q E h => ?_) (fun cdv A outer s H vs Q E hr h => ?_)
  · obtain ⟨a, L, d, rfl, _⟩ := h; rfl
  obtain ⟨a, L, d, rfl, ha, hL, hd, k⟩ := h
  refine ⟨_, pss_cons (ps_if (pt_cmpR op_lt (pv 1) pe_int (nomark _)) (pss_one (ps_ret pe_int)) pss_nil)
    (pss_one (ps_ret (pe_ix ix_list (pe_ix ix_list (pe_call FS hr (by rfl) gS kS bS .nil pass0 (pa_cons (pv 0) (pa_cons (pv 1) pa_nil))) pe_int (fun _ _ => rfl)) (pv 1) (fun _ _ => rfl)))), ?_⟩
  refine ⟨_, rfl, _, _, rfl, rfl, _, rfl, ?_⟩
  rw [decide_eq_false (by omega)]
  refine iteF ⟨_, rfl, _, rfl, a, L, d, rfl, ha, hL.len, fun y hy => ⟨hL.lo y hy, hL.hi y hy⟩, by omega, fun H1 p s1 hp hc => ?_⟩
  obtain ⟨xs, hx, lx, hrow⟩ := hc
  obtain ⟨x, gx, rr, rfl, hrr⟩ := hrow 0 (Nat.zero_le _)
  exact ⟨p, xs, _, _, rfl, rfl, SqL.of hx, atI_nat gx, _, rfl, rr, _, _, _, rfl, rfl, SqL.of hrr, atI_nat (rowOf_get (Nat.le_refl _)), k H1 s1⟩
theorem ok_listed {f : Addr} {fd : FuncData} (F : Fun K "listed_words" "listed_words" sListed f fd) (gS : mg "suffix_counts" = some (.ref fS)) (kS : PySem.W.keepIn K (.ref fS) = true) (bS : Binds K dS ["letters", "most"] [])
    (FS : FnOk P w K mg base CX0 2 fS dS ["letters", "most"] (spSuf K)) (gF : mg "first_word" = some (.ref fF)) (kF : PySem.W.keepIn K (.ref fF) = true) (bF : Binds K dF ["letters", "counts", "degree"] [])
    (FF : FnOk P w K mg base CX0 2 fF dF ["letters", "counts", "degree"] (spFirst K)) (gN : mg "next_word" = some (.ref fN)) (kN : PySem.W.keepIn K (.ref fN) = true) (bN : Binds K dN ["letters", "counts", "word"] [])
    (FN : FnOk P w K mg base CX0 2 fN dN ["letters", "counts", "word"] (spNext K)) : FnOk P w K mg base CX0 3 f fd ["letters", "degree"] (spListed K) := by
  refine F.ok scListed (fun vs H Q E h => ?_) (fun cdv A outer s H vs Q E hr h => ?_)
  · obtain ⟨a, L, d, rfl, _⟩ := h; rfl
  obtain ⟨a, L, d, rfl, ha, hL, hd, hcn, k⟩ := h
  refine ⟨_, pss_cons (ps_if (pt_cmpR op_lt (pv 1) pe_int (nomark _)) (pss_one (ps_ret (pe_lst pa_nil))) pss_nil)
    (pss_cons (ps_set (i := 2) scListed.nd rfl (.inl rfl) (pe_call FS hr (by rfl) gS kS bS .nil pass0 (pa_cons (pv 0) (pa_cons (pv 1) pa_nil))))
    (pss_cons (ps_set (i := 3) scListed.nd rfl (.inl rfl) (pe_lst pa_nil))
    (pss_cons (ps_set (i := 4) scListed.nd rfl (.inl rfl) (pe_call FF hr (by rfl) gF kF bF .nil pass0 (pa_cons (pv 0) (pa_cons (pv 2) (pa_cons (pv 1) pa_nil)))))
    (pss_cons (ps_while PassesOwn.never (pt_cmpR op_notN (pv 4) pe_non (nomark _))
      (pss_cons (ps_expr (pe_bm PySem.F.plainAttrs_list PySem.F.slot_list_append PySem.F.type_list_append mt_append (pv 3) (pa_cons (pv 4) pa_nil)))
      (pss_one (ps_set (i := 4) scListed.nd rfl (.inl rfl) (pe_call FN hr (by rfl) gN kN bN .nil pass0 (pa_cons (pv 0) (pa_cons (pv 2) (pa_cons (pv 4) pa_nil))))))))
    (pss_one (ps_ret (pv 3))))))), ?_⟩
  refine ⟨_, rfl, _, _, rfl, rfl, _, rfl, ?_⟩
  rw [decide_eq_false (by omega)]
  refine iteF ⟨_, rfl, _, rfl, a, L, d, rfl, ha, hL.len, fun y hy => ⟨hL.lo y hy, hL.hi y hy⟩, by omega, fun H1 c s1 hc1 hc => ?_⟩
  refine ⟨(by show 0 ≤ sizeLine; decide), fun q hq => ?_⟩
  have s2 := Same.new (o := .lst []) hq
  have hq0 : H q = none := none_of s1 hq
  refine ⟨_, rfl, _, rfl, _, rfl, a, c, L, d, d, rfl, tupSame (s1.trans s2) ha, hc.mono s2, hL, by omega, Nat.le_refl _, fun H2 v s3 hv => ?_⟩
  have lw := wds_length_pos hL d
  refine ⟨fun m σ H' => ∃ (j : Nat) (v : V) (xs : List V), m + j = (wds L d).length ∧ σ = [some (.ref a), some (.int (d : Int)), some (.ref c), some (.ref q), some v] ∧ Same H1 H' ∧ H' q = some (.lst xs) ∧ TupsV K H' xs ((wds L d).take j) ∧ WordIs K H' v (wds L d)[j]?,
    ⟨(wds L d).length, 0, v, [], rfl, rfl, s2.trans s3, s3 _ _ upd_same, .nil, by rw [← List.head?_eq_getElem?]; exact hv⟩, fun m σ H' hw => ?_⟩
  obtain ⟨j, v, xs, hm, rfl, s4, hq4, tv, hv⟩ := hw
  have lx := tv_len tv
  rw [List.length_take] at lx
  refine ⟨_, rfl, rfl, _, rfl, ?_⟩
  cases z : (wds L d)[j]? with
  | none =>
    rw [z] at hv
    have hv : v = .non := hv
    subst hv
    have hj : (wds L d).length ≤ j := List.getElem?_eq_none_iff.mp z
    refine iteF ⟨_, rfl, k H' q xs (s1.trans s4) hq0 hq4 ?_⟩
    rw [List.take_of_length_le hj] at tv
    exact tv
  | some u =>
    rw [z] at hv
    obtain ⟨t, rfl, ht⟩ := hv
    have hj : j < (wds L d).length := (List.getElem?_eq_some_iff.mp z).1
    obtain ⟨wo, we⟩ := wds_mem hL.pos (List.mem_of_getElem? z)
    refine iteT ⟨fun σ' H'' => ∃ (v : V) (xs : List V), σ' = [some (.ref a), some (.int (d : Int)), some (.ref c), some (.ref q), some v] ∧ Same H1 H'' ∧ H'' q = some (.lst xs) ∧ TupsV K H'' xs ((wds L d).take (j + 1)) ∧ WordIs K H'' v (wds L d)[j + 1]?,
      fun σ' H'' ⟨v, xs, e1, e2, e4, e5, e6⟩ => ⟨m - 1, by omega, j + 1, v, xs, by omega, e1, e2, e4, e5, e6⟩, ?_⟩
    refine ⟨_, rfl, .inl ⟨rfl, _, SqL.of hq4⟩, _, rfl, q, xs, _, rfl, rfl, hq4, Nat.lt_of_le_of_lt (by omega : xs.length ≤ 900) (small1000 (by omega)), ?_⟩
    have st : ∀ b o, b ≠ q → H' b = some o → upd H' q (.lst (xs ++ [.ref t])) b = some o := fun b o nb e => by rw [upd_ne nb]; exact e
    have tk : ∀ {b : Addr} {l : List Int}, SqT K H' b (iV l) → SqT K (upd H' q (.lst (xs ++ [.ref t]))) b (iV l) := fun {b l} h => by
      rcases h with (h | ⟨o, h⟩) | h
      · exact .inl (.inl (st _ _ (ne_of h hq4 (by intro z; cases z)) h))
      · exact .inl (.inr ⟨o, st _ _ (ne_of h hq4 (by intro z; cases z)) h⟩)
      · exact .inr h
    have s5 : Same H1 (upd H' q (.lst (xs ++ [.ref t]))) := Same.back s4 hq
    refine ⟨_, rfl, _, rfl, _, rfl, a, c, t, L, u, d, d, rfl, tupSame (s1.trans s5) ha, hc.mono s5, hL, by omega, tk ht, wo, we, Nat.le_refl _, fun H5 v5 s6 hv5 => ?_⟩
    refine ⟨v5, xs ++ [.ref t], rfl, s5.trans s6, s6 _ _ upd_same, ?_, ?_⟩
    · rw [take_more z]
      exact Paired.snoc (Paired.mapP tv fun _ _ ⟨t', e, y⟩ => ⟨t', e, tupSame s6 (tk y)⟩) ⟨t, rfl, tupSame s6 (tk ht)⟩
    · have g := nxt_good L d hL.pos j u z
      rw [Option.or_none] at g
      rw [← g]
      exact hv5
end
end K9
namespace K9X
open PySem PySem.W PySem.Calls PyProof.Rows PySem.HandSPX PySem.Builtin PySem.Builtin.ObjectAttr
/-! ### InvalidNumber(given), a class over IndexError with an __init__ of its own -/
abbrev ieB : List Value := [.type "IndexError", .type "LookupError", .type "Exception", .type "BaseException", .type "object"]
def nuA (r1 r2 : Pos) : Arguments :=
  { posonlyargs := [], args := [{ arg := "self", annotation := none, pos := r1 }, { arg := "given", annotation := none, pos := r2 }], vararg := none, kwonlyargs := [], kw_defaults := [], kwarg := none, defaults := [] }
def nuB (r1 r2 r3 r4 : Pos) : List Stmt := [.Assign [.Attribute (.Name "self" r1) "given" r2] (.Name "given" r3) r4]
def nuS : Scope :=
  { kind := .function, names := [(PySem.Str.ofString "self", .local), (PySem.Str.ofString "given", .local)], isGenerator := false, isCoroutine := false, more := [] }
/-- what the written part says of the class at C and of its __init__ at i0 -/
structure NumTxt (K : Frag) (mg : Str → Option Value) (C i0 : Addr) : Prop where
  named : mg "InvalidNumber" = some (.ref C)
  made : excInitIn K C ieB "IndexError.__new__" = true
  over : excOver K C ieB = true
  dict : hasDictIn K C = true
  stores : findIn K (.ref C) "__setattr__" = some (some (.builtin "object.__setattr__"))
  reads : findIn K (.ref C) "__getattribute__" = some (some (.builtin "BaseException.__getattribute__"))
  reads2 : findIn K (.ref C) "__getattr__" = some none
  noGiven : findIn K (.ref C) "given" = some none
  inits : findIn K (.ref C) "__init__" = some (some (.ref i0))
  isdef : typeIn K (.ref i0) = some (.type "function")
  keepC : keepIn K (.ref C) = true
  isExc : subIn K (.ref C) (.type "BaseException") = some true
  isCls : typeIn K (.ref C) = some (.type "type")
  self1 : exmOne K (.ref C) (.ref C) = some true
  text : ∃ (oc : Value) (od : Option Addr) (doc pm : Value) (an : Option Addr) (cdv ct : Value) (osl : Array (Option Value)) (r1 r2 r3 r4 r5 r6 : Pos),
    K.lookup i0 = some ⟨oc, od, .func (fnOf "__init__" "InvalidNumber.__init__" (nuA r1 r2) (nuB r3 r4 r5 r6) nuS .none .none doc pm an cdv ct), osl⟩ ∧ codeIn K cdv "InvalidNumber.__init__" = true
/-- the object of an exception that holds its arguments alone -/
abbrev bareX (C t : Addr) : Obj := { cls := .ref C, data := .fields #[.ref t, .none, .none, .none, .bool false, .none] }
abbrev withX (C t dx : Addr) : Obj := { cls := .ref C, dict := some dx, data := .fields #[.ref t, .none, .none, .none, .bool false, .none] }
theorem one_fits (v : Value) : [v].length ≤ sizeLine := by
  rw [sizeLine_eq]
  show 1 ≤ 16777216
  decide
section
variable {prog : Program} {w : World} {A : Around} {E : Value → Shared → Prop} {R : Result → Shared → Prop} {K : Frag} {mg : Str → Option Value} {C i0 : Addr}
/-- object.__setattr__ on such an object that has no dict yet -/
theorem num_store {hp : Heap} {g : Array GenState} {d : Drawn} {t : Nat} {os : OsState} {name : Str} {tk : Tok} {v : Value} {x t0 : Addr} (X : K.In hp) (gx : hp.get? x = some (bareX C t0)) (ov : excOver K C ieB = true) (hh : hasDictIn K C = true)
    (nn : findIn K (.ref C) name = some none)
    (go : ∀ h' tk' dx, (∀ b o, b ≠ x → hp.get? b = some o → h'.get? b = some o) → hp.objs.size ≤ dx → dx ≠ x → h'.get? x = some (withX C t0 dx) → h'.Ns1 dx (fun y => if y = name then some v else none) → R (.ok (.ret .none)) ⟨h', g, d, tk', os⟩) :
    codeAny (model prog w) A (.call (.builtin "object.__setattr__") ⟨[.ref x, .str name tk, v], []⟩) R ⟨hp, g, d, t, os⟩ := by
  refine osa_openX (s := ⟨hp, g, d, t, os⟩) (ox := bareX C t0) (od := none) PySem.F.store_IndexError X ⟨gx, rfl, rfl, trivial⟩ ov (L2.NoAttr.taker nn) fun b => ?_
  obtain ⟨cd, hc, hd'⟩ := any_some hh
  have nx : x ≠ hp.objs.size := Nat.ne_of_lt (Heap.lt_size gx)
  refine wpAny_bind (wpAny_pure (wpAny_bind (instanceDict_exc (s := ⟨hp, g, d, t, os⟩) (c2 := .none) (t := t0) gx (looks_clsIn X hc) hd' ?_)))
  show wpAny _ _ (storeInDict hp.objs.size (.str name tk) name v) _ _ _
  refine store_in_new (hp := (hp.push (dictOf [] 0)).update x fun o => { o with dict := some hp.objs.size }) ?_ fun h' tk' hn' hs => ?_
  · exact ⟨_, #[], _, (Heap.get?_update_ne _ _ _ _ nx.symm).trans (Heap.get?_push_at rfl rfl), rfl, fun e he => absurd he (by simp), fun _ => rfl⟩
  · have gx1 : (hp.push (dictOf [] 0)).get? x = some (bareX C t0) := Heap.get?_push_of_some _ gx
    refine go h' tk' hp.objs.size (fun b o hb ho => ?_) (Nat.le_refl _) nx.symm ?_ hn'
    · exact (hs.2 b (Nat.ne_of_lt (Heap.lt_size ho))).trans ((Heap.get?_update_ne _ _ _ _ hb).trans (Heap.get?_push_of_some _ ho))
    · exact (hs.2 x nx).trans (Heap.get?_update_self _ gx1 rfl)
theorem localC {M : Model} {s : Shared} {name : Str} {scope : Scope} {L a : Addr} {cd : Value} {m : Str → Option Value} {x : Str} {pos : Pos} {v : Value} {Q : Value → Shared → Prop} (ns : s.heap.Ns L m) (e : m x = some v) (q : Q v s)
    (k1 : scope.kind = .function := by rfl) (k2 : (envOfC name scope L a cd).kindOf x = some .local := by rfl) (k3 : (x == ("__debug__" : Str)) = false := by decide) :
    wpAny M A (eval (.Name x pos) (envOfC name scope L a cd)) Q E s :=
  wpAny_Name (wpAny_loadName_local k1 k2 ns e q) k3
/-- __init__ on a fresh object at x -/
theorem num_init {s : Shared} (T : NumTxt K mg C i0) {x t0 : Addr} {v : Value} (X : K.In s.heap) (lim : s.heap.NoLimit) (gx : s.heap.get? x = some (bareX C t0)) (room : A.depth < recursionLimit)
    (go : ∀ h' tk dx, (∀ b o, b ≠ x → s.heap.get? b = some o → h'.get? b = some o) → h'.get? x = some (withX C t0 dx) → s.heap.objs.size ≤ dx → dx ≠ x → h'.Ns1 dx (fun y => if y = "given" then some v else none) →
      R (.ok (.ret .none)) { s with heap := h', toks := tk }) :
    codeAny (model prog w) A (.call (.ref i0) ⟨[.ref x, v], []⟩) R s := by
  obtain ⟨oc, od, doc, pm, an, cdv, ct, osl, r1, r2, r3, r4, r5, r6, lk, cdk⟩ := T.text
  refine Att.call_fn (binds := [("self", .ref x), ("given", v)]) X lim lk cdk room (BindsTo.of_eq (by first | rfl | with_unfolding_all rfl)) (by first | rfl | decide | with_unfolding_all rfl) (fun s1 IC => ?_) rfl rfl rfl
  obtain ⟨h1, tk1, rfl⟩ := IC.toInCall.same
  have kp : ∀ b o, s.heap.get? b = some o → h1.get? b = some o := IC.toInCall.keep
  have ns := IC.toInCall.ns
  have X1 : K.In h1 := X.keeps kp
  have gx1 := kp _ _ gx
  show wpAny _ _ (execs _ _) _ _ _
  refine wpAny_execs_cons (plainObj_wpAny_Assign_Attribute ?_)
  refine localC (v := v) ns (by first | rfl | with_unfolding_all rfl | kernel_rfl) (localC (v := .ref x) ns (by first | rfl | with_unfolding_all rfl | kernel_rfl) ?_)
  refine set_plain X1 (ox := bareX C t0) (od := none) ⟨gx1, rfl, rfl, trivial⟩ T.stores ?_
  refine num_store X1 gx1 T.over T.dict T.noGiven (fun h3 tk3 dx k3 dn dne gx3 ns3 => ?_)
  show wpAny _ _ (execs _ _) _ _ _
  have z : s.heap.objs.size < h1.objs.size := ns.lt
  exact wpAny_execs_nil (go h3 tk3 dx (fun b o hb e => k3 b o hb (kp b o e)) gx3 (Nat.le_of_lt (Nat.lt_of_lt_of_le z dn)) dne ns3)
/-- InvalidNumber(v) -/
theorem num_call {s : Shared} (T : NumTxt K mg C i0) {v : Value} (X : K.In s.heap) (lim : s.heap.NoLimit) (room : A.depth + 1 < recursionLimit)
    (go : ∀ h' tk e d oe, (∀ b o, s.heap.get? b = some o → h'.get? b = some o) → s.heap.objs.size ≤ e → h'.get? e = some oe → (∃ t0, oe = withX C t0 d) → s.heap.objs.size ≤ d → d ≠ e →
      h'.Ns1 d (fun y => if y = "given" then some v else none) → R (.ok (.ret (.ref e))) { s with heap := h', toks := tk }) :
    codeAny (model prog w) A (.call (.ref C) ⟨[v], []⟩) R s := by
  obtain ⟨nm, N', qn, bs, bm, hdct, sn, sub, ab, col, dd, k0, k1, k2, k3, k5, hC, hT⟩ := excInit_of X T.made
  obtain ⟨hp, g, dr, tk, os⟩ := s
  have kp : ∀ b o, hp.get? b = some o → ((hp.push (kdv_tup [v])).push (excO C hp.objs.size)).get? b = some o := fun b o e => Heap.get?_push_of_some _ (Heap.get?_push_of_some _ e)
  have get1 : ((hp.push (kdv_tup [v])).push (excO C hp.objs.size)).get? (hp.objs.size + 1) = some (bareX C hp.objs.size) := by heap_get
  refine call_own F.excBase_IndexError hT hC (looks_findIn X T.inits) (fun self => bind_fn X self T.isdef) (one_fits v) ?_
  refine num_init (s := ⟨(hp.push (kdv_tup [v])).push (excO C hp.objs.size), g, dr, tk, os⟩) T (X.keeps kp) (lim.keeps kp) get1 ?_ fun h' tk' dx k' gx dn dne ns => ?_
  · show A.depth + 1 < recursionLimit
    exact room
  · have old : ∀ b o, hp.get? b = some o → h'.get? b = some o := fun b o e => k' b o (Nat.ne_of_lt (Nat.lt_succ_of_lt (Heap.lt_size e))) (kp b o e)
    have z : hp.objs.size + 1 + 1 ≤ dx := by
      have q := dn
      rw [Heap.size_push, Heap.size_push] at q
      exact q
    exact ⟨rfl, go h' tk' (hp.objs.size + 1) dx _ old (Nat.le_succ _) gx ⟨_, rfl⟩ (Nat.le_trans (Nat.le_trans (Nat.le_succ _) (Nat.le_succ _)) z) dne ns⟩
end
end K9X
namespace K9
open PySem PySem.Spec PyProof.Rows L2
theorem relO_given {v : V} {u : Value} (r : RelV v u) (f : Str) : RelO (List.lookup f [(("given" : Str), v)]) (if f = "given" then some u else none) := by
  by_cases hf : f = "given"
  · subst hf
    rw [if_pos rfl, show List.lookup ("given" : Str) [(("given" : Str), v)] = some v by simp [List.lookup]]
    exact r
  · have e : (f == ("given" : Str)) = false := by simpa using hf
    rw [if_neg hf, show List.lookup f [(("given" : Str), v)] = none by simp [List.lookup, e]]
    trivial
section
variable {X : Cx} {C i0 : Addr}
/-- what is asked of InvalidNumber(e) -/
def tMkNum (C : Addr) (ta : TA) : L2.St → Hp → XK → Prop := fun σ H Q => ta σ H fun vs H1 => ∃ v, vs = [v] ∧ ∀ d, H1 d = none → Q (.ref C) (some d) (upd H1 d (.xd [(("given" : Str), v)]))
theorem pmk_num {a : Expr} {ta : TA} {p pos : Pos} {k : Nat} (T : K9X.NumTxt X.K X.mg C i0) (hr : Room k X.A) (ha : PA X [a] ta) (hg : Gl X "InvalidNumber" := by rfl)
    (he : starEach (a :: []) X.env = (false, eval a X.env) :: starEach [] X.env := by rfl) (hpl : (backTo pos (starEach [] X.env)).any (·.1) = false := by rfl) :
    PMk X (.Call (.Name "InvalidNumber" p) [a] [] pos) (tMkNum C ta) := by
  intro pins s σ H Q I h
  refine wpAny_Call_Name_kw (ld_glob I hg T.named ?_)
  refine PySem.W.callWith_K (h₀ := X.base) I.ok.mod.kin T.keepC (thn (ha.run pos pins s σ H _ I h) fun us s1 hh => ?_) he hpl
  obtain ⟨vs, H1, I1, r1, v, rfl, q1⟩ := hh
  refine ⟨I1.kIn, ?_⟩
  obtain ⟨v', rfl, rv⟩ := Vals.one r1
  show wpAny _ _ (call (.ref C) [v']) _ _ _
  have lim := I1.nolimit
  obtain ⟨hp, g, dr, tk, os⟩ := s1
  refine wpAny_call (K9X.num_call T I1.kIn lim (by have := hr.dp; omega) fun h' tk' e d oe kp en ge ho dn de ns => ?_)
  show MkP X pins σ Q (.ref e) ⟨h', g, dr, tk', os⟩
  obtain ⟨t0, rfl⟩ := ho
  obtain ⟨G, g1, g2⟩ := restrict h' fun b => decide (b ≠ e)
  have gk : ∀ b, b ≠ e → G.get? b = h'.get? b := fun b hb => g1 b (decide_eq_true hb)
  have g0 : G.get? e = none := g2 e (by simp)
  have old : ∀ b o, hp.get? b = some o → G.get? b = some o := fun b o q => (gk b (Nat.ne_of_lt (Nat.lt_of_lt_of_le (Heap.lt_size q) en))).trans (kp b o q)
  have ob : ObjOk X.prog X.w (upd H1 d (.xd [(("given" : Str), v)])) G d (.xd [(("given" : Str), v)]) := ⟨_, ns.at (fun o q => (gk d de).trans q), fun f => relO_given rv f⟩
  have J : Inv X pins σ (upd H1 d (.xd [(("given" : Str), v)])) ⟨G, g, dr, tk', os⟩ := I1.laid (t' := tk') old dn ob
  refine ⟨e, _, _, ⟨G, g, dr, tk', os⟩, _, .ref C, some d, rfl, J, fun b o q => ?_, g0, ge, ⟨rfl, rfl⟩, rfl, rfl, ?_, rfl, I1.bare, raises_own T.isExc T.isCls, q1 d (I1.hok.fresh dn)⟩
  · by_cases hb : b = e
    · have q' : G.get? b = some o := q
      rw [hb, g0] at q'; cases q'
    · exact (gk b hb).symm.trans q
  · rw [upd_ne (Ne.symm de)]
    exact I1.hok.fresh en
/-- raise InvalidNumber(e) -/
theorem ps_raiseNum {a : Expr} {ta : TA} {W : WX} {p pos pos2 : Pos} {k : Nat} (hc : X.calm = true) (T : K9X.NumTxt X.K X.mg C i0) (hr : Room k X.A) (tk : Takes X W) (ha : PA X [a] ta) (hg : Gl X "InvalidNumber" := by rfl)
    (he : starEach (a :: []) X.env = (false, eval a X.env) :: starEach [] X.env := by rfl) (hpl : (backTo pos (starEach [] X.env)).any (·.1) = false := by rfl) :
    PS X (.Raise (some (.Call (.Name "InvalidNumber" p) [a] [] pos)) none pos2) (fun _ σ H => tMkNum C ta σ H fun cls d H' => W cls d σ H') := ps_raise hc tk (pmk_num T hr ha hg he hpl)
/-- error.given, within the suite of the error at a -/
def tGiven (C a : Addr) (cls : Value) (d : Option Addr) (te : TE) : TE := fun σ H Q => te σ H fun x H1 => x = .ref a ∧ cls = .ref C ∧ ∃ (dd : Addr) (v : V), d = some dd ∧ H1 dd = some (.xd [(("given" : Str), v)]) ∧ Q v H1
theorem pe_given {a : Addr} {oe : Obj} {cls : Value} {d : Option Addr} {pn : List (Addr × Obj)} {e : Expr} {te : TE} {pos : Pos} (T : K9X.NumTxt X.K X.mg C i0) (hz : Zc cls d oe) (hf : ∃ vs, oe.data = .fields vs) (he : PE (X.suite a ((a, oe) :: pn)) e te)
    (hb : attributeBase e "given" X.env (eval e X.env) = eval e X.env := by rfl) : PE (X.suite a ((a, oe) :: pn)) (.Attribute e "given" pos) (tGiven C a cls d te) := by
  refine ⟨fun pins s σ H Q I h => ?_⟩
  refine attr_of hb (thn (he.run pins s σ H _ I h) fun u s1 hh => ?_)
  obtain ⟨x, H1, I1, rx, rfl, rfl, dd, v, rfl, ea, q⟩ := hh
  obtain rfl : u = Value.ref a := rx
  obtain ⟨ga, _⟩ := I1.pin (a, oe) (List.mem_append_left _ List.mem_cons_self)
  obtain ⟨vs, hd⟩ := hf
  obtain ⟨mA, hns, rel⟩ := (show ObjOk X.prog X.w H1 s1.heap dd (.xd [(("given" : Str), v)]) from I1.hok dd _ ea)
  obtain ⟨od, ho, hl⟩ := lookIn_ns hns
  have l : List.lookup ("given" : Str) [(("given" : Str), v)] = some v := by simp [List.lookup]
  obtain ⟨u, hu, ru⟩ := RelO.some_of (v := v) (o := mA "given") (by rw [← l]; exact rel "given")
  have J : PySem.W.InstAt s1.heap a oe C (some od) := ⟨ga, hz.1, by unfold PySem.W.notCls; rw [hd] <;> rfl, by rw [hz.2]; exact ho⟩
  exact HandSPX.exc_get I1.kIn J T.reads T.reads2 T.isExc (PySem.W.findObj_own T.dict T.noGiven rfl (by rw [hl, hu])) (handed_of ru) ⟨v, H1, I1.tok _, ru, q⟩
end
end K9
namespace K9M
open PySem PySem.W PySem.Calls PyProof.Rows PySem.HandSPX PySem.Builtin PySem.Builtin.ObjectAttr
/-! ### TooMany(given), a class over OverflowError with an __init__ of its own -/
abbrev ieB : List Value := [.type "OverflowError", .type "ArithmeticError", .type "Exception", .type "BaseException", .type "object"]
def nuA (r1 r2 : Pos) : Arguments :=
  { posonlyargs := [], args := [{ arg := "self", annotation := none, pos := r1 }, { arg := "limit", annotation := none, pos := r2 }], vararg := none, kwonlyargs := [], kw_defaults := [], kwarg := none, defaults := [] }
def nuB (r1 r2 r3 r4 : Pos) : List Stmt := [.Assign [.Attribute (.Name "self" r1) "limit" r2] (.Name "limit" r3) r4]
def nuS : Scope :=
  { kind := .function, names := [(PySem.Str.ofString "self", .local), (PySem.Str.ofString "limit", .local)], isGenerator := false, isCoroutine := false, more := [] }
/-- what the written part says of the class at C and of its __init__ at i0 -/
structure NumTxt (K : Frag) (mg : Str → Option Value) (C i0 : Addr) : Prop where
  named : mg "TooMany" = some (.ref C)
  made : excInitIn K C ieB "OverflowError.__new__" = true
  over : excOver K C ieB = true
  dict : hasDictIn K C = true
  stores : findIn K (.ref C) "__setattr__" = some (some (.builtin "object.__setattr__"))
  reads : findIn K (.ref C) "__getattribute__" = some (some (.builtin "BaseException.__getattribute__"))
  reads2 : findIn K (.ref C) "__getattr__" = some none
  noGiven : findIn K (.ref C) "limit" = some none
  inits : findIn K (.ref C) "__init__" = some (some (.ref i0))
  isdef : typeIn K (.ref i0) = some (.type "function")
  keepC : keepIn K (.ref C) = true
  isExc : subIn K (.ref C) (.type "BaseException") = some true
  isCls : typeIn K (.ref C) = some (.type "type")
  self1 : exmOne K (.ref C) (.ref C) = some true
  text : ∃ (oc : Value) (od : Option Addr) (doc pm : Value) (an : Option Addr) (cdv ct : Value) (osl : Array (Option Value)) (r1 r2 r3 r4 r5 r6 : Pos),
    K.lookup i0 = some ⟨oc, od, .func (fnOf "__init__" "TooMany.__init__" (nuA r1 r2) (nuB r3 r4 r5 r6) nuS .none .none doc pm an cdv ct), osl⟩ ∧ codeIn K cdv "TooMany.__init__" = true
/-- the object of an exception that holds its arguments alone -/
abbrev bareX (C t : Addr) : Obj := { cls := .ref C, data := .fields #[.ref t, .none, .none, .none, .bool false, .none] }
abbrev withX (C t dx : Addr) : Obj := { cls := .ref C, dict := some dx, data := .fields #[.ref t, .none, .none, .none, .bool false, .none] }
theorem one_fits (v : Value) : [v].length ≤ sizeLine := by
  rw [sizeLine_eq]
  show 1 ≤ 16777216
  decide
section
variable {prog : Program} {w : World} {A : Around} {E : Value → Shared → Prop} {R : Result → Shared → Prop} {K : Frag} {mg : Str → Option Value} {C i0 : Addr}
/-- object.__setattr__ on such an object that has no dict yet -/
theorem num_store {hp : Heap} {g : Array GenState} {d : Drawn} {t : Nat} {os : OsState} {name : Str} {tk : Tok} {v : Value} {x t0 : Addr} (X : K.In hp) (gx : hp.get? x = some (bareX C t0)) (ov : excOver K C ieB = true) (hh : hasDictIn K C = true)
    (nn : findIn K (.ref C) name = some none)
    (go : ∀ h' tk' dx, (∀ b o, b ≠ x → hp.get? b = some o → h'.get? b = some o) → hp.objs.size ≤ dx → dx ≠ x → h'.get? x = some (withX C t0 dx) → h'.Ns1 dx (fun y => if y = name then some v else none) → R (.ok (.ret .none)) ⟨h', g, d, tk', os⟩) :
    codeAny (model prog w) A (.call (.builtin "object.__setattr__") ⟨[.ref x, .str name tk, v], []⟩) R ⟨hp, g, d, t, os⟩ := by
  refine osa_openX (s := ⟨hp, g, d, t, os⟩) (ox := bareX C t0) (od := none) PySem.F.store_OverflowError X ⟨gx, rfl, rfl, trivial⟩ ov (L2.NoAttr.taker nn) fun b => ?_
  obtain ⟨cd, hc, hd'⟩ := any_some hh
  have nx : x ≠ hp.objs.size := Nat.ne_of_lt (Heap.lt_size gx)
  refine wpAny_bind (wpAny_pure (wpAny_bind (instanceDict_exc (s := ⟨hp, g, d, t, os⟩) (c2 := .none) (t := t0) gx (looks_clsIn X hc) hd' ?_)))
  show wpAny _ _ (storeInDict hp.objs.size (.str name tk) name v) _ _ _
  refine store_in_new (hp := (hp.push (dictOf [] 0)).update x fun o => { o with dict := some hp.objs.size }) ?_ fun h' tk' hn' hs => ?_
  · exact ⟨_, #[], _, (Heap.get?_update_ne _ _ _ _ nx.symm).trans (Heap.get?_push_at rfl rfl), rfl, fun e he => absurd he (by simp), fun _ => rfl⟩
  · have gx1 : (hp.push (dictOf [] 0)).get? x = some (bareX C t0) := Heap.get?_push_of_some _ gx
    refine go h' tk' hp.objs.size (fun b o hb ho => ?_) (Nat.le_refl _) nx.symm ?_ hn'
    · exact (hs.2 b (Nat.ne_of_lt (Heap.lt_size ho))).trans ((Heap.get?_update_ne _ _ _ _ hb).trans (Heap.get?_push_of_some _ ho))
    · exact (hs.2 x nx).trans (Heap.get?_update_self _ gx1 rfl)
theorem localC {M : Model} {s : Shared} {name : Str} {scope : Scope} {L a : Addr} {cd : Value} {m : Str → Option Value} {x : Str} {pos : Pos} {v : Value} {Q : Value → Shared → Prop} (ns : s.heap.Ns L m) (e : m x = some v) (q : Q v s)
    (k1 : scope.kind = .function := by rfl) (k2 : (envOfC name scope L a cd).kindOf x = some .local := by rfl) (k3 : (x == ("__debug__" : Str)) = false := by decide) :
    wpAny M A (eval (.Name x pos) (envOfC name scope L a cd)) Q E s :=
  wpAny_Name (wpAny_loadName_local k1 k2 ns e q) k3
/-- __init__ on a fresh object at x -/
theorem num_init {s : Shared} (T : NumTxt K mg C i0) {x t0 : Addr} {v : Value} (X : K.In s.heap) (lim : s.heap.NoLimit) (gx : s.heap.get? x = some (bareX C t0)) (room : A.depth < recursionLimit)
    (go : ∀ h' tk dx, (∀ b o, b ≠ x → s.heap.get? b = some o → h'.get? b = some o) → h'.get? x = some (withX C t0 dx) → s.heap.objs.size ≤ dx → dx ≠ x → h'.Ns1 dx (fun y => if y = "limit" then some v else none) →
      R (.ok (.ret .none)) { s with heap := h', toks := tk }) :
    codeAny (model prog w) A (.call (.ref i0) ⟨[.ref x, v], []⟩) R s := by
  obtain ⟨oc, od, doc, pm, an, cdv, ct, osl, r1, r2, r3, r4, r5, r6, lk, cdk⟩ := T.text
  refine Att.call_fn (binds := [("self", .ref x), ("limit", v)]) X lim lk cdk room (BindsTo.of_eq (by first | rfl | with_unfolding_all rfl)) (by first | rfl | decide | with_unfolding_all rfl) (fun s1 IC => ?_) rfl rfl rfl
  obtain ⟨h1, tk1, rfl⟩ := IC.toInCall.same
  have kp : ∀ b o, s.heap.get? b = some o → h1.get? b = some o := IC.toInCall.keep
  have ns := IC.toInCall.ns
  have X1 : K.In h1 := X.keeps kp
  have gx1 := kp _ _ gx
  show wpAny _ _ (execs _ _) _ _ _
  refine wpAny_execs_cons (plainObj_wpAny_Assign_Attribute ?_)
  refine localC (v := v) ns (by first | rfl | with_unfolding_all rfl | kernel_rfl) (localC (v := .ref x) ns (by first | rfl | with_unfolding_all rfl | kernel_rfl) ?_)
  refine set_plain X1 (ox := bareX C t0) (od := none) ⟨gx1, rfl, rfl, trivial⟩ T.stores ?_
  refine num_store X1 gx1 T.over T.dict T.noGiven (fun h3 tk3 dx k3 dn dne gx3 ns3 => ?_)
  show wpAny _ _ (execs _ _) _ _ _
  have z : s.heap.objs.size < h1.objs.size := ns.lt
  exact wpAny_execs_nil (go h3 tk3 dx (fun b o hb e => k3 b o hb (kp b o e)) gx3 (Nat.le_of_lt (Nat.lt_of_lt_of_le z dn)) dne ns3)
/-- TooMany(v) -/
theorem num_call {s : Shared} (T : NumTxt K mg C i0) {v : Value} (X : K.In s.heap) (lim : s.heap.NoLimit) (room : A.depth + 1 < recursionLimit)
    (go : ∀ h' tk e d oe, (∀ b o, s.heap.get? b = some o → h'.get? b = some o) → s.heap.objs.size ≤ e → h'.get? e = some oe → (∃ t0, oe = withX C t0 d) → s.heap.objs.size ≤ d → d ≠ e →
      h'.Ns1 d (fun y => if y = "limit" then some v else none) → R (.ok (.ret (.ref e))) { s with heap := h', toks := tk }) :
    codeAny (model prog w) A (.call (.ref C) ⟨[v], []⟩) R s := by
  obtain ⟨nm, N', qn, bs, bm, hdct, sn, sub, ab, col, dd, k0, k1, k2, k3, k5, hC, hT⟩ := excInit_of X T.made
  obtain ⟨hp, g, dr, tk, os⟩ := s
  have kp : ∀ b o, hp.get? b = some o → ((hp.push (kdv_tup [v])).push (excO C hp.objs.size)).get? b = some o := fun b o e => Heap.get?_push_of_some _ (Heap.get?_push_of_some _ e)
  have get1 : ((hp.push (kdv_tup [v])).push (excO C hp.objs.size)).get? (hp.objs.size + 1) = some (bareX C hp.objs.size) := by heap_get
  refine call_own F.excBase_OverflowError hT hC (looks_findIn X T.inits) (fun self => bind_fn X self T.isdef) (one_fits v) ?_
  refine num_init (s := ⟨(hp.push (kdv_tup [v])).push (excO C hp.objs.size), g, dr, tk, os⟩) T (X.keeps kp) (lim.keeps kp) get1 ?_ fun h' tk' dx k' gx dn dne ns => ?_
  · show A.depth + 1 < recursionLimit
    exact room
  · have old : ∀ b o, hp.get? b = some o → h'.get? b = some o := fun b o e => k' b o (Nat.ne_of_lt (Nat.lt_succ_of_lt (Heap.lt_size e))) (kp b o e)
    have z : hp.objs.size + 1 + 1 ≤ dx := by
      have q := dn
      rw [Heap.size_push, Heap.size_push] at q
      exact q
    exact ⟨rfl, go h' tk' (hp.objs.size + 1) dx _ old (Nat.le_succ _) gx ⟨_, rfl⟩ (Nat.le_trans (Nat.le_trans (Nat.le_succ _) (Nat.le_succ _)) z) dne ns⟩
end
end K9M
namespace K9
open PySem PySem.Spec PyProof.Rows L2
theorem relO_limit {v : V} {u : Value} (r : RelV v u) (f : Str) : RelO (List.lookup f [(("limit" : Str), v)]) (if f = "limit" then some u else none) := by
  by_cases hf : f = "limit"
  · subst hf
    rw [if_pos rfl, show List.lookup ("limit" : Str) [(("limit" : Str), v)] = some v by simp [List.lookup]]
    exact r
  · have e : (f == ("limit" : Str)) = false := by simpa using hf
    rw [if_neg hf, show List.lookup f [(("limit" : Str), v)] = none by simp [List.lookup, e]]
    trivial
section
variable {X : Cx} {C i0 : Addr}
/-- what is asked of TooMany(e) -/
def tMkMany (C : Addr) (ta : TA) : L2.St → Hp → XK → Prop := fun σ H Q => ta σ H fun vs H1 => ∃ v, vs = [v] ∧ ∀ d, H1 d = none → Q (.ref C) (some d) (upd H1 d (.xd [(("limit" : Str), v)]))
theorem pmk_many {a : Expr} {ta : TA} {p pos : Pos} {k : Nat} (T : K9M.NumTxt X.K X.mg C i0) (hr : Room k X.A) (ha : PA X [a] ta) (hg : Gl X "TooMany" := by rfl)
    (he : starEach (a :: []) X.env = (false, eval a X.env) :: starEach [] X.env := by rfl) (hpl : (backTo pos (starEach [] X.env)).any (·.1) = false := by rfl) :
    PMk X (.Call (.Name "TooMany" p) [a] [] pos) (tMkMany C ta) := by
  intro pins s σ H Q I h
  refine wpAny_Call_Name_kw (ld_glob I hg T.named ?_)
  refine PySem.W.callWith_K (h₀ := X.base) I.ok.mod.kin T.keepC (thn (ha.run pos pins s σ H _ I h) fun us s1 hh => ?_) he hpl
  obtain ⟨vs, H1, I1, r1, v, rfl, q1⟩ := hh
  refine ⟨I1.kIn, ?_⟩
  obtain ⟨v', rfl, rv⟩ := Vals.one r1
  show wpAny _ _ (call (.ref C) [v']) _ _ _
  have lim := I1.nolimit
  obtain ⟨hp, g, dr, tk, os⟩ := s1
  refine wpAny_call (K9M.num_call T I1.kIn lim (by have := hr.dp; omega) fun h' tk' e d oe kp en ge ho dn de ns => ?_)
  show MkP X pins σ Q (.ref e) ⟨h', g, dr, tk', os⟩
  obtain ⟨t0, rfl⟩ := ho
  obtain ⟨G, g1, g2⟩ := restrict h' fun b => decide (b ≠ e)
  have gk : ∀ b, b ≠ e → G.get? b = h'.get? b := fun b hb => g1 b (decide_eq_true hb)
  have g0 : G.get? e = none := g2 e (by simp)
  have old : ∀ b o, hp.get? b = some o → G.get? b = some o := fun b o q => (gk b (Nat.ne_of_lt (Nat.lt_of_lt_of_le (Heap.lt_size q) en))).trans (kp b o q)
  have ob : ObjOk X.prog X.w (upd H1 d (.xd [(("limit" : Str), v)])) G d (.xd [(("limit" : Str), v)]) := ⟨_, ns.at (fun o q => (gk d de).trans q), fun f => relO_limit rv f⟩
  have J : Inv X pins σ (upd H1 d (.xd [(("limit" : Str), v)])) ⟨G, g, dr, tk', os⟩ := I1.laid (t' := tk') old dn ob
  refine ⟨e, _, _, ⟨G, g, dr, tk', os⟩, _, .ref C, some d, rfl, J, fun b o q => ?_, g0, ge, ⟨rfl, rfl⟩, rfl, rfl, ?_, rfl, I1.bare, raises_own T.isExc T.isCls, q1 d (I1.hok.fresh dn)⟩
  · by_cases hb : b = e
    · have q' : G.get? b = some o := q
      rw [hb, g0] at q'; cases q'
    · exact (gk b hb).symm.trans q
  · rw [upd_ne (Ne.symm de)]
    exact I1.hok.fresh en
/-- raise TooMany(e) -/
theorem ps_raiseMany {a : Expr} {ta : TA} {W : WX} {p pos pos2 : Pos} {k : Nat} (hc : X.calm = true) (T : K9M.NumTxt X.K X.mg C i0) (hr : Room k X.A) (tk : Takes X W) (ha : PA X [a] ta) (hg : Gl X "TooMany" := by rfl)
    (he : starEach (a :: []) X.env = (false, eval a X.env) :: starEach [] X.env := by rfl) (hpl : (backTo pos (starEach [] X.env)).any (·.1) = false := by rfl) :
    PS X (.Raise (some (.Call (.Name "TooMany" p) [a] [] pos)) none pos2) (fun _ σ H => tMkMany C ta σ H fun cls d H' => W cls d σ H') := ps_raise hc tk (pmk_many T hr ha hg he hpl)
/-- error.limit, within the suite of the error at a -/
def tLimit (C a : Addr) (cls : Value) (d : Option Addr) (te : TE) : TE := fun σ H Q => te σ H fun x H1 => x = .ref a ∧ cls = .ref C ∧ ∃ (dd : Addr) (v : V), d = some dd ∧ H1 dd = some (.xd [(("limit" : Str), v)]) ∧ Q v H1
theorem pe_limit {a : Addr} {oe : Obj} {cls : Value} {d : Option Addr} {pn : List (Addr × Obj)} {e : Expr} {te : TE} {pos : Pos} (T : K9M.NumTxt X.K X.mg C i0) (hz : Zc cls d oe) (hf : ∃ vs, oe.data = .fields vs) (he : PE (X.suite a ((a, oe) :: pn)) e te)
    (hb : attributeBase e "limit" X.env (eval e X.env) = eval e X.env := by rfl) : PE (X.suite a ((a, oe) :: pn)) (.Attribute e "limit" pos) (tLimit C a cls d te) := by
  refine ⟨fun pins s σ H Q I h => ?_⟩
  refine attr_of hb (thn (he.run pins s σ H _ I h) fun u s1 hh => ?_)
  obtain ⟨x, H1, I1, rx, rfl, rfl, dd, v, rfl, ea, q⟩ := hh
  obtain rfl : u = Value.ref a := rx
  obtain ⟨ga, _⟩ := I1.pin (a, oe) (List.mem_append_left _ List.mem_cons_self)
  obtain ⟨vs, hd⟩ := hf
  obtain ⟨mA, hns, rel⟩ := (show ObjOk X.prog X.w H1 s1.heap dd (.xd [(("limit" : Str), v)]) from I1.hok dd _ ea)
  obtain ⟨od, ho, hl⟩ := lookIn_ns hns
  have l : List.lookup ("limit" : Str) [(("limit" : Str), v)] = some v := by simp [List.lookup]
  obtain ⟨u, hu, ru⟩ := RelO.some_of (v := v) (o := mA "limit") (by rw [← l]; exact rel "limit")
  have J : PySem.W.InstAt s1.heap a oe C (some od) := ⟨ga, hz.1, by unfold PySem.W.notCls; rw [hd] <;> rfl, by rw [hz.2]; exact ho⟩
  exact HandSPX.exc_get I1.kIn J T.reads T.reads2 T.isExc (PySem.W.findObj_own T.dict T.noGiven rfl (by rw [hl, hu])) (handed_of ru) ⟨v, H1, I1.tok _, ru, q⟩
end
end K9
namespace K9
open PySem PySem.Spec PyProof.Rows L2 RZ
/-- a class of errors without anything of its own -/
structure ErrTxt (K : PySem.W.Frag) (mg : Str → Option Value) (x : Str) (C : Addr) : Prop where
  named : mg x = some (.ref C)
  made : PySem.W.excIn K C PySem.HandSPX.veTail "ValueError.__new__" = true
  keepC : PySem.W.keepIn K (.ref C) = true
  isExc : PySem.W.subIn K (.ref C) (.type "BaseException") = some true
  isCls : PySem.W.typeIn K (.ref C) = some (.type "type")
/-- the error that keeps a number -/
def NumE (E : XK) (N : Addr) (x : V) (H : Hp) : Prop := ∀ H' d, Same H H' → H' d = none → E (.ref N) (some d) (upd H' d (.xd [(("given" : Str), x)]))
def NilE (E : XK) (C : Addr) (H : Hp) : Prop := ∀ H', Same H H' → E (.ref C) none H'
theorem NumE.mono {E : XK} {N : Addr} {x : V} {H H1 : Hp} (h : NumE E N x H) (s : Same H H1) : NumE E N x H1 := fun H' d s' => h H' d (s.trans s')
theorem NilE.mono {E : XK} {C : Addr} {H H1 : Hp} (h : NilE E C H) (s : Same H H1) : NilE E C H1 := fun H' s' => h H' (s.trans s')
theorem LetIs.mono {K : PySem.W.Frag} {H H' : Hp} {x : V} {b : Bool} (h : LetIs K H x b) (s : Same H H') : LetIs K H' x b := by
  cases h with
  | non => exact .non
  | bl b => exact .bl b
  | int i => exact .int i
  | str z => exact .str z
  | lst h => exact .lst (s _ _ h)
  | dic h => exact .dic (s _ _ h)
  | long h n => exact .long (tupSame s h) n
  | tup h n v => exact .tup (tupSame s h) n fun y hy => (v y hy).mono s
def spChkLE (K : PySem.W.Frag) (C : Addr) : Sp := fun vs H Q E => ∃ (x : V) (b : Bool), vs = [x] ∧ LetIs K H x b ∧ (b = false → NilE E C H) ∧ (b = true → ∀ H', Same H H' → Q .non H')
def spChkBE (K : PySem.W.Frag) (N : Addr) : Sp := fun vs H Q E => ∃ (x : V) (a b : Int), vs = [x, .int a, .int b] ∧ Vk K H x ∧ (betw x a b = false → NumE E N x H) ∧ (betw x a b = true → Q .non H)
/-- letters and a degree, one of them wrong -/
def spBadLD (K : PySem.W.Frag) (C N : Addr) : Sp := fun vs H _ E => ∃ (x y : V) (b : Bool), vs = [x, y] ∧ LetIs K H x b ∧ Vk K H y ∧ (b = false → NilE E C H) ∧ (b = true → betw y 0 80 = false ∧ NumE E N y H)
/-- letters that are none -/
def spBadL (K : PySem.W.Frag) (C : Addr) : Sp := fun vs H _ E => ∃ x : V, vs = [x] ∧ LetIs K H x false ∧ NilE E C H
section
variable {P : Program} {w : World} {K : PySem.W.Frag} {mg : Str → Option Value} {base : Heap} {C N i0 fB fL : Addr} {dB dL : FuncData}
theorem ok_chkbE {f : Addr} {fd : FuncData} (F : Fun K "check_between" "check_between" sChkB f fd) (EN : K9X.NumTxt K mg N i0) (gB : mg "is_between" = some (.ref fB)) (kB : PySem.W.keepIn K (.ref fB) = true) (bB : Binds K dB ["value", "least", "most"] [])
    (B : FnOk P w K mg base CX0 3 fB dB ["value", "least", "most"] (spBetw K)) : FnOk P w K mg base (L2.CX P w) 4 f fd ["value", "least", "most"] (spChkBE K N) := by
  refine F.okX scChkB (fun vs H Q E h => ?_) (fun cdv A outer s H vs Q E hr h => ?_)
  · obtain ⟨x, a, b, rfl, _⟩ := h; rfl
  obtain ⟨x, a, b, rfl, hx, k0, k1⟩ := h
  refine ⟨_, pss_one (ps_if (pt_not (pt_val (pe_call B hr (by rfl) gB kB bB .nil pass0 (pa_cons (pv 0) (pa_cons (pv 1) (pa_cons (pv 2) pa_nil))))))
      (pss_one (ps_raiseNum (W := fun cls d _ H => E cls d H) rfl EN hr (takes_of rfl rfl rfl rfl) (by exact (pa_cons (pv 0) pa_nil)))) pss_nil), ?_⟩
  refine ⟨_, rfl, _, rfl, _, rfl, x, a, b, rfl, hx, _, rfl, ?_⟩
  cases e : betw x a b with
  | false => exact iteT ⟨_, rfl, _, rfl, fun d hd => k0 e H d (Same.refl _) hd⟩
  | true => exact iteF (k1 e)
end
end K9
namespace K9
open PySem PySem.Spec PyProof.Rows L2
/-! ### the text -/
/-! ### the dice -/
section
variable {P : Program} {w : World} {K : PySem.W.Frag} {mg : Str → Option Value} {base : Heap}
end

/-! ### making, picking, near -/
section
variable {P : Program} {w : World} {K : PySem.W.Frag} {mg : Str → Option Value} {base : Heap}
end
end K9
namespace K9
open PySem PySem.Spec PyProof.Rows L2
/-! ### sorted of tuples of ints, of any lengths -/
section
variable {prog : Program} {w : World} {A : Around} {E : Value → Shared → Prop} {s : Shared}
theorem swo_ltL {α : Type} (k : α → List Int) : SrtO.Swo fun v u => ltL (k v) (k u) := ⟨fun x y h => ltL_asym _ _ h, fun x y z h1 h2 => ltL_tr _ _ _ h1 h2⟩
theorem oneLt_anyI {f : Bool} {a b : Int} {t u : Tok} {Q : Bool → Shared → Prop} (h : Q (decide (a < b)) s) : wpAny (model prog w) A (oneLt' f (.int a t) (.int b u)) Q E s := by
  cases f with
  | true => exact oneLt_int h
  | false => exact PySem.W.kat_one _ _ (PyProof.Rows.lt_int h)
theorem ints_at : ∀ {vs : List Value} {ns : List Int}, IntsAre vs ns → ∀ {j : Nat} (h : j < vs.length), ∃ x t, vs[j] = Value.int x t ∧ ns[j]? = some x
  | _, _, .cons n t r, 0, _ => ⟨n, t, rfl, rfl⟩
  | _, _, .cons n t r, j + 1, h => ints_at r (j := j) (by rw [List.length_cons] at h; omega)
theorem kat_ints {b fin : Bool} {Q : Bool → Shared → Prop} : ∀ {ps qs : List Value} {ns ms : List Int} {i : Nat}, IntsAre ps ns → IntsAre qs ms → fin = decide (ps.length < qs.length) → Q (ltL ns ms) s → PySem.W.KatLex prog w A b fin Q (ps.zip qs) i s
  | _, _, _, _, _, .nil, .nil, hf, h => by
    have e : fin = false := by rw [hf]; rfl
    subst e
    exact PySem.W.kat_nil h
  | _, _, _, _, _, .nil, .cons m u r, hf, h => by
    have e : fin = true := by rw [hf]; exact decide_eq_true (Nat.succ_pos _)
    subst e
    exact PySem.W.kat_nil h
  | _, _, _, _, _, .cons n t l, .nil, hf, h => by
    have e : fin = false := by rw [hf]; rfl
    subst e
    exact PySem.W.kat_nil h
  | _, _, _, _, i, .cons (vs := ps) (ns := ns) n t l, .cons (vs := qs) (ns := ms) m u r, hf, h => by
    have hf' : fin = decide (ps.length < qs.length) := by
      rw [hf]
      exact decide_eq_decide.mpr (by rw [List.length_cons, List.length_cons]; omega)
    have e : ltL (n :: ns) (m :: ms) = if n = m then ltL ns ms else decide (n < m) := rfl
    rw [e] at h
    refine PySem.W.kat_cons (SeqAt.EqAt.int_int n t m u prog w _ _ ?_)
    refine PySem.W.kat_go (fun e1 => ?_) (fun e1 => ?_)
    · have ex : n = m := by simpa using e1
      rw [if_pos ex] at h
      exact PySem.W.kat_yes (kat_ints l r hf' h)
    · have ex : ¬ n = m := by simpa using e1
      rw [if_neg ex] at h
      exact PySem.W.kat_no (oneLt_anyI h)
theorem lexAt_ltL {e r : Nat → Bool} {z : Bool} : ∀ {ns ms : List Int} {i : Nat}, (∀ j a b, ns[j]? = some a → ms[j]? = some b → e (i + j) = decide (a = b) ∧ r (i + j) = decide (a < b)) → z = decide (ns.length < ms.length) → Ob.lexAt e r z i (min ns.length ms.length) = ltL ns ms
  | [], [], i, _, h => by rw [h]; rfl
  | [], m :: ms, i, _, h => by
    rw [h]
    show Ob.lexAt e r _ i (min 0 _) = true
    rw [Nat.zero_min]
    exact decide_eq_true (Nat.succ_pos _)
  | n :: ns, [], i, _, h => by
    rw [h]
    show Ob.lexAt e r _ i (min _ 0) = false
    rw [Nat.min_zero]
    rfl
  | n :: ns, m :: ms, i, hj, h => by
    have e0 := hj 0 n m rfl rfl
    rw [Nat.add_zero] at e0
    have ih := lexAt_ltL (e := e) (r := r) (z := z) (ns := ns) (ms := ms) (i := i + 1) (fun j a b ha hb => by
      have q := hj (j + 1) a b ha hb
      rw [show i + (j + 1) = i + 1 + j by omega] at q
      exact q) (by rw [h]; exact decide_eq_decide.mpr (by rw [List.length_cons, List.length_cons]; omega))
    have em : min (n :: ns).length (m :: ms).length = min ns.length ms.length + 1 := by
      rw [List.length_cons, List.length_cons]
      omega
    rw [em, Ob.lexAt_succ, ih, e0.1, e0.2]
    show _ = if n = m then ltL ns ms else decide (n < m)
    by_cases c : n = m
    · rw [if_pos c, decide_eq_true c, if_pos rfl]
    · rw [if_neg c, decide_eq_false c, if_neg Bool.false_ne_true]
theorem tups_cmp1 {vs : List Value} {k : Value → List Int} (hp : ∀ v ∈ vs, TS.TupInts s.heap v (k v)) : SrtO.Cmp prog w A s (tuples' true) (fun p => p.1 ∈ vs) (SrtO.lt2 fun v u => ltL (k v) (k u)) := by
  intro p q hm hm'
  obtain ⟨a, xs, e, ⟨o, ho, hc, n, hd⟩, hi⟩ := hp _ hm
  obtain ⟨a', xs', e', ⟨o', ho', hc', n', hd'⟩, hi'⟩ := hp _ hm'
  show wpAny (model prog w) A (keyLt' (tuples' true) p.1 q.1) (fun r s' => s' = s ∧ r = ltL (k p.1) (k q.1)) (fun _ _ => False) s
  generalize k p.1 = kp at hi ⊢
  generalize k q.1 = kq at hi' ⊢
  rw [e, e']
  refine PySem.W.kat_lt ho hd ho' hd' ?_
  exact kat_ints hi hi' (by rw [Array.length_toList, Array.length_toList]) ⟨rfl, rfl⟩
theorem tups_cmp0 {vs : List Value} {k : Value → List Int} (hu : A.units + 1 < cLine) (hp : ∀ v ∈ vs, TS.TupInts s.heap v (k v)) : SrtO.Cmp prog w A s oneType' (fun p => p.1 ∈ vs) (SrtO.lt2 fun v u => ltL (k v) (k u)) := by
  intro p q hm hm'
  obtain ⟨a, xs, e, ⟨⟨cls, dd, data, sl⟩, ho, hc, n, hd⟩, hi⟩ := hp _ hm
  obtain ⟨a', xs', e', ⟨⟨cls2, dd2, data2, sl2⟩, ho', hc', n', hd'⟩, hi'⟩ := hp _ hm'
  show wpAny (model prog w) A (keyLt' oneType' p.1 q.1) (fun r s' => s' = s ∧ r = ltL (k p.1) (k q.1)) (fun _ _ => False) s
  generalize k p.1 = kp at hi ⊢
  generalize k q.1 = kq at hi' ⊢
  simp only at hc hd hc' hd'
  subst hc hd hc' hd'
  rw [e, e', keyLt'_oneType, oneLt'_eq]
  simp only [if_true]
  refine wpAny_bind (wpAny_cRoomFor (by omega) ?_)
  have li := hi.length
  have li' := hi'.length
  have g1 : ∀ j (h1 : j < xs.size) (h2 : j < xs'.size), SeqAt.EqAt A.in1 s xs[j] xs'[j] (decide (kp.getD j 0 = kq.getD j 0)) ∧ Ob.RcOp .Lt A.in1 s xs[j] xs'[j] (decide (kp.getD j 0 < kq.getD j 0)) := fun j h1 h2 => by
    obtain ⟨x, t, e1, f1⟩ := ints_at hi (j := j) (by rw [Array.length_toList]; exact h1)
    obtain ⟨y, u, e2, f2⟩ := ints_at hi' (j := j) (by rw [Array.length_toList]; exact h2)
    rw [Array.getElem_toList] at e1 e2
    rw [e1, e2, List.getD_eq_getElem?_getD, List.getD_eq_getElem?_getD, f1, f2]
    exact ⟨SeqAt.EqAt.int_int x t y u, Ob.RcOp.lt_int x y t u⟩
  refine wpAny_bind (wpAny_callSpecialIfBound?_slot ⟨_, ho, rfl⟩ F.slot_tuple_lt (call_meets F.slot_tuple_lt ⟨_, ho, rfl⟩ F.entry_tuple_lt (F.args_tuple_lt_2 _ _) (Ob.tuple_ltAt a a' xs xs' n n' dd dd2 sl sl2 (fun j => decide (kp.getD j 0 = kq.getD j 0)) (fun j => decide (kp.getD j 0 < kq.getD j 0)))
    ⟨ho, ho', fun j h1 h2 => (g1 j h1 h2).1, fun j h1 h2 _ => (g1 j h1 h2).2, ?_⟩))
  have ex : Ob.lexAt (fun j => decide (kp.getD j 0 = kq.getD j 0)) (fun j => decide (kp.getD j 0 < kq.getD j 0)) (decide (xs.size < xs'.size)) 0 (min xs.size xs'.size) = ltL kp kq := by
    rw [Array.length_toList] at li li'
    rw [li, li']
    refine lexAt_ltL (fun j x y hx hy => ?_) rfl
    rw [Nat.zero_add, List.getD_eq_getElem?_getD, List.getD_eq_getElem?_getD, hx, hy]
    exact ⟨rfl, rfl⟩
  rw [ex]
  exact wpAny_truthy_bool ⟨rfl, rfl⟩
theorem kat_tups : ∀ {vs : List Value} {k : Value → List Int}, (∀ v ∈ vs, TS.TupInts s.heap v (k v)) → (∀ v ∈ vs, k v ≠ []) → ∃ fs : List Value, PySem.W.KatTups s.heap vs fs ∧ fs.length = vs.length ∧ ∀ f ∈ fs, ∃ x t, f = Value.int x t
  | [], _, _, _ => ⟨[], .nil, rfl, fun _ h => absurd h List.not_mem_nil⟩
  | v :: vs, k, hp, hn => by
    obtain ⟨fs, h1, h2, h3⟩ := kat_tups (vs := vs) (k := k) (fun u hu => hp u (List.mem_cons_of_mem _ hu)) fun u hu => hn u (List.mem_cons_of_mem _ hu)
    obtain ⟨a, xs, e, ⟨o, ho, hc, n, hd⟩, hi⟩ := hp v List.mem_cons_self
    have hne := hn v List.mem_cons_self
    have hl : 0 < xs.toList.length := by
      rw [hi.length]
      exact List.length_pos_iff.mpr hne
    obtain ⟨x, t, e1, _⟩ := ints_at hi hl
    rw [Array.getElem_toList] at e1
    rw [Array.length_toList] at hl
    refine ⟨Value.int x t :: fs, ?_, by rw [List.length_cons, List.length_cons, h2], fun f hf => ?_⟩
    · rw [e]
      refine .cons ho hc hd ?_ h1
      rw [Array.getElem?_eq_getElem hl, e1]
    · rcases List.mem_cons.mp hf with q | q
      · exact ⟨x, t, q⟩
      · exact h3 f q
theorem firsts_any {M : Model} {A : Around} {E : Value → Shared → Prop} : ∀ {vs : List Value} {Q : List (Option Value) → Shared → Prop}, (∀ v ∈ vs, ∃ ns, TS.TupInts s.heap v ns) → (∀ fs, Q fs s) → wpAny M A (vs.mapM firstOfTuple') Q E s
  | [], _, _, h => by
    rw [List.mapM_nil]
    exact wpAny_pure (h [])
  | v :: vs, Q, hp, h => by
    obtain ⟨ns, a, xs, rfl, ⟨o, ho, hc, n, hd⟩, hi⟩ := hp v List.mem_cons_self
    rw [List.mapM_cons]
    refine wpAny_bind ?_
    rw [PySem.W.kas_first_eq]
    refine wpAny_bind (PySem.W.Looks.here (show PySem.W.Looks M s.heap (typeOf (.ref a)) o.cls from (PySem.W.Looks.ld ho).andThen .now) ?_)
    rw [hc, if_neg (by first | decide | simp)]
    refine wpAny_bind (listItems_at ho hd (wpAny_pure ?_))
    exact wpAny_bind (firsts_any (vs := vs) (Q := fun bs s' => wpAny M A (pure (xs[0]? :: bs)) Q E s') (fun u hu => hp u (List.mem_cons_of_mem _ hu)) fun fs => wpAny_pure (h _))
theorem kind_empty {M : Model} {A : Around} {E : Value → Shared → Prop} {v : Value} {vs : List Value} {Q : SortKind → Shared → Prop} (h0 : TS.TupInts s.heap v []) (hp : ∀ u ∈ vs, ∃ ns, TS.TupInts s.heap u ns) (h : Q oneType' s) : wpAny M A (keyKind' (v :: vs).toArray) Q E s := by
  rw [kat_kind_eq, List.mapM_toArray, map_eq_pure_bind, List.mapM_cons]
  obtain ⟨a, xs, e, ⟨o, ho, hc, n, hd⟩, hi⟩ := id h0
  have hl : xs[0]? = none := by
    have l := hi.length
    rw [Array.length_toList] at l
    rw [Array.getElem?_eq_none]
    rw [l]
    exact Nat.le_refl 0
  have hty : ∀ u ∈ v :: vs, PySem.W.Looks M s.heap (typeOf u) (Value.type "tuple") := fun u hu => by
    have q : ∃ ns, TS.TupInts s.heap u ns := by
      rcases List.mem_cons.mp hu with e | e
      · rw [e]
        exact ⟨_, h0⟩
      · exact hp u e
    obtain ⟨_, b, ys, rfl, ⟨o2, ho2, hc2, _⟩, _⟩ := q
    rw [← hc2]
    exact (PySem.W.Looks.ld ho2).andThen .now
  refine wpAny_bind (wpAny_bind (wpAny_bind ?_))
  rw [PySem.W.kas_first_eq]
  refine wpAny_bind ((hty v List.mem_cons_self).here ?_)
  rw [if_neg (by first | decide | simp), e]
  refine wpAny_bind (listItems_at ho hd (wpAny_pure ?_))
  rw [hl]
  refine wpAny_bind (firsts_any hp fun fs => wpAny_pure (wpAny_pure ?_))
  rw [if_neg (by simp), if_neg (by simp)]
  rw [oneTypeOnly'_eq, List.mapM_toArray, map_eq_pure_bind]
  refine wpAny_bind (wpAny_bind (wpAny_bind (PySem.W.kas_mapM (r := Value.type "tuple") _ (fun u hu Q' hq => (hty u (by rw [e]; exact hu)).here hq) (wpAny_pure ?_))))
  have hall2 : ((List.map (fun _ => Value.type "tuple") (Value.ref a :: vs)).toArray.all fun x => x == Value.type "tuple") = true := by
    simp only [List.all_toArray, List.all_map, List.all_eq_true]
    intro _ _
    rfl
  have h0' : (List.map (fun _ => Value.type "tuple") (Value.ref a :: vs)).toArray[0]? = some (Value.type "tuple") := by simp
  rw [h0']
  simp only [hall2, if_true]
  exact wpAny_pure (wpAny_pure h)
/-- all have items, or the first one has none -/
def HeadOk (k : Value → List Int) (vs : List Value) : Prop := (∀ v ∈ vs, k v ≠ []) ∨ ∃ v r, vs = v :: r ∧ k v = []
theorem tups_sortable {a : Addr} {vs : List Value} {k : Value → List Int} (hu : A.units + 1 < cLine) (h0 : 0 < vs.length) (hp : ∀ v ∈ vs, TS.TupInts s.heap v (k v)) (hk : HeadOk k vs) (ha : ∀ o, s.heap.get? a = some o → o.cls ≠ .type "tuple") : SrtO.SortableO prog w A s a vs fun v u => ltL (k v) (k u) := by
  intro h' keep
  have hp' : ∀ v ∈ vs, TS.TupInts h' v (k v) := fun v hm => (hp v hm).keeps fun b o e c => keep b o (fun z => by subst z; exact ha o e c) e
  rcases hk with hk | ⟨v, r, rfl, hv⟩
  · obtain ⟨fs, h1, h2, h3⟩ := kat_tups (s := { s with heap := h' }) hp' hk
    refine ⟨tuples' true, fun Q E hq => ?_, tups_cmp1 hp'⟩
    refine PySem.W.kat_kind (T := .type "int") h1 (by omega) (fun f hm => ?_) (by rfl) ?_
    · obtain ⟨x, t, rfl⟩ := h3 f hm
      exact PySem.W.Looks.now
    · have e : (Value.type "int" != Value.type "tuple") = true := by first | decide +kernel | rfl | decide
      rw [e]
      exact hq
  · refine ⟨oneType', fun Q E hq => ?_, tups_cmp0 hu hp'⟩
    have hv0 := hp' v List.mem_cons_self
    rw [hv] at hv0
    exact kind_empty (s := { s with heap := h' }) hv0 (fun u hu => ⟨_, hp' u (List.mem_cons_of_mem _ hu)⟩) hq
end
end K9
namespace L2
open PySem PySem.Spec PyProof.Rows
theorem TupsV.mem {K : PySem.W.Frag} {H : Hp} {x : V} : ∀ {xs : List V} {ls : List (List Int)}, TupsV K H xs ls → x ∈ xs → ∃ t l, x = V.ref t ∧ l ∈ ls ∧ SqT K H t (l.map V.int)
  | _, _, .cons ⟨t, e, h⟩ r, m => by
    rcases List.mem_cons.mp m with q | q
    · exact ⟨t, _, q.trans e, List.mem_cons_self, h⟩
    · obtain ⟨t', l, e', hl, h'⟩ := TupsV.mem r q
      exact ⟨t', l, e', List.mem_cons_of_mem _ hl, h'⟩
/-- sorted(xs), xs a list of tuples of ints of any lengths: either none is empty or the first one is -/
def rSortedTL (K : PySem.W.Frag) : List V → Hp → VK → Prop := fun vs H Q => ∃ (a : Addr) (xs : List V) (ls : List (List Int)), vs = [V.ref a] ∧ SqL K H a xs ∧ TupsV K H xs ls ∧ ((∀ l ∈ ls, l ≠ []) ∨ ∃ r, ls = [] :: r) ∧
  ∀ ys p, TupsV K H ys (K9.srt ls) → H p = none → Q (.ref p) (upd H p (.lst ys))
section
variable {X : Cx} {pins : List (Addr × Obj)} {σ : St} {H : Hp} {s : Shared}
theorem raw_tup (I : Inv X pins σ H s) {t : Addr} {ns : List Int} (h : SqT X.K H t (ns.map V.int)) : TS.TupInts s.heap (.ref t) ns := by
  obtain ⟨its, rv, hT, _⟩ := I.tuple h
  exact ⟨t, its.toArray, rfl, hT, by simpa using rv.ints⟩
theorem raw_tups (I : Inv X pins σ H s) : ∀ {xs : List V} {ls : List (List Int)} {us : List Value}, TupsV X.K H xs ls → Vals xs us → us.map (TS.intsOf s.heap) = ls ∧ (∀ u ∈ us, TS.TupInts s.heap u (TS.intsOf s.heap u)) ∧ ∀ u ∈ us, ∃ a, u = Value.ref a ∧ SqT X.K H a ((TS.intsOf s.heap u).map V.int)
  | _, _, _, .nil, .nil => ⟨rfl, fun _ h => absurd h List.not_mem_nil, fun _ h => absurd h List.not_mem_nil⟩
  | _, _, _, .cons (b := l) ⟨t, e, h⟩ r, .cons rv rvs => by
    subst e
    obtain ⟨h1, h2, h3⟩ := raw_tups I r rvs
    cases rv
    have ti := raw_tup I h
    have ei := ti.ints
    refine ⟨by rw [List.map_cons, h1, ei], fun u hu => ?_, fun u hu => ?_⟩
    · rcases List.mem_cons.mp hu with q | q
      · rw [q, ei]
        exact ti
      · exact h2 u q
    · rcases List.mem_cons.mp hu with q | q
      · rw [q, ei]
        exact ⟨t, rfl, h⟩
      · exact h3 u q
theorem tups_back {K : PySem.W.Frag} {h : Heap} : ∀ {us : List Value}, (∀ u ∈ us, ∃ a, u = Value.ref a ∧ SqT K H a ((TS.intsOf h u).map V.int)) → TupsV K H (us.map backV) (us.map (TS.intsOf h))
  | [], _ => .nil
  | u :: us, hp => by
    obtain ⟨a, e, hs⟩ := hp u List.mem_cons_self
    refine .cons ⟨a, ?_, hs⟩ (tups_back fun v hv => hp v (List.mem_cons_of_mem _ hv))
    rw [e]
    rfl
theorem cr_sortedTL (hu : X.A.units + 64 < cLine) : CallR X (.builtin "sorted") (rSortedTL X.K) := by
  intro pins s σ H vs us Q I r h
  obtain ⟨a, xs, ls, rfl, hs, hx, hk, q⟩ := h
  obtain ⟨its, rv, hl, hz⟩ := I.list hs
  obtain ⟨u, rfl, ru⟩ := vals1 r
  obtain rfl : u = Value.ref a := ru
  obtain ⟨e1, e2, e3⟩ := raw_tups I hx rv
  have hk' : K9.HeadOk (TS.intsOf s.heap) its := by
    rcases hk with hk | ⟨r, hk⟩
    · refine .inl fun v hv => hk _ ?_
      rw [← e1]
      exact List.mem_map.mpr ⟨v, hv, rfl⟩
    · rw [hk] at e1
      cases its with
      | nil => cases e1
      | cons v its => exact .inr ⟨v, its, rfl, (List.cons.inj e1).1⟩
  refine SrtO.sorted_ord (K9.swo_ltL (TS.intsOf s.heap)) hl.isList (by rw [← rv.length]; exact hz) (fun h2 h₁ a' ha kk => ?_) fun out h1 h2 => ?_
  · refine K9.tups_sortable (s := { s with heap := h₁ }) ?_ (by omega) (fun v hv => (e2 v hv).keeps fun b o e _ => (kk b o e).2) hk' fun o e => ?_
    · show X.A.units + 2 + 1 < cLine
      omega
    · have e' : some o = some (seqObj "list" its.toArray 0) := e.symm.trans ha
      cases e'
      intro c
      exact absurd (Value.type.inj c) (by decide)
  · have h3 : ∀ u ∈ out, ∃ a, u = Value.ref a ∧ SqT X.K H a ((TS.intsOf s.heap u).map V.int) := fun u hu => e3 u (h2.perm.mem_iff.mp hu)
    obtain ⟨ep, he'⟩ := PyProof.Rows.sortedAll_at s.heap its out.toArray
    have hlen : (out.map backV).length ≤ sizeLine := by
      rw [List.length_map, h2.perm.length_eq, ← rv.length]
      exact hz
    have hu2 : out.map (TS.intsOf s.heap) = K9.srt ls := by
      refine K9.srt_uniq (List.pairwise_map.mpr h1) ?_
      rw [← e1]
      exact h2.perm.map _
    have tb := tups_back (K := X.K) (H := H) (h := s.heap) h3
    rw [hu2] at tb
    exact ⟨.ref _, upd H (s.heap.objs.size + 1) (.lst (out.map backV)), I.laid (t' := s.toks) (fun _ _ => PyProof.Rows.sortedAll_old) (Nat.le_succ _) ⟨hlen, out, ep, vals_back fun u hu => (h3 u hu).imp fun _ z => z.1, he'⟩, rfl, q _ _ tb (I.hok.fresh (Nat.le_succ _))⟩
end
end L2
namespace K9
open PySem PySem.Spec PyProof.Rows L2 SrtO
/-! ### sorted of a tuple of ints -/
section
variable {prog : Program} {w : World} {A : Around} {E : Value → Shared → Prop} {s : Shared}
theorem collect_tup {l : Addr} {vs : List Value} {Q : List Value → Shared → Prop} (hl : s.heap.IsTuple l vs.toArray)
    (h : Q vs { s with heap := (s.heap.push (seqObj "list" #[] 0)).update s.heap.objs.size (Obj.mapSeq (· ++ vs.toArray)) }) (hsz : vs.length ≤ sizeLine) :
    wpAny (model prog w) A (collect (.ref l)) Q E s := by
  obtain ⟨o, ho, hc, n, hd⟩ := id hl
  unfold collect
  refine wpAny_bind (wpAny_runValue (codeAny_builtin entry_proto_collect' ?_))
  show wpAny _ _ (do again (.builtin "list.__iadd__" ⟨[← newList [], .ref l], []⟩)) _ _ s
  refine wpAny_bind (wpAny_newList (wpAny_pure ⟨Code.quiet_builtin _ (by decide +kernel), codeAny_builtin entry_list_iadd' ?_⟩))
  show wpAny _ _ (Builtin.List.listExtendWith (.ref s.heap.objs.size) (.ref l) (.ref s.heap.objs.size)) _ _ { s with heap := s.heap.push (seqObj "list" #[] 0) }
  unfold Builtin.List.listExtendWith
  have ho' : (s.heap.push (seqObj "list" #[] 0)).get? l = some o := Heap.get?_push_of_some _ ho
  refine wpAny_bind (wpAny_typeOf (T := "tuple") ⟨o, ho', hc⟩ ?_)
  have ht : (Value.type "tuple" == Value.type "tuple") = true := by rfl
  rw [if_pos (by rw [ht]; simp)]
  refine wpAny_bind (listItems_at ho' hd ?_)
  refine wpAny_bind (listItems_at (xs := #[]) (n := 0) (Heap.get?_push_size _ rfl) rfl ?_)
  rw [if_neg (by simp)]
  refine wpAny_bind (listUpdate_at (xs := #[]) (n := 0) (Heap.get?_push_size _ rfl) rfl ?_ (Nat.zero_le _) (by show (#[] ++ vs.toArray).size ≤ sizeLine + 1; simp only [Array.size_append, List.size_toArray, List.length_nil]; omega))
  refine wpAny_pure ?_
  show wpAny (model prog w) A (do
      let o ← load s.heap.objs.size
      match o.data with
      | .seq xs _ => pure xs.toList
      | _ => unsupported "internal:collect") Q E { s with heap := (s.heap.push (seqObj "list" #[] 0)).update s.heap.objs.size (Obj.mapSeq (· ++ vs.toArray)) }
  refine wpAny_bind (wpAny_load (get?_update_seq (Heap.get?_push_size _ rfl) _) ?_)
  show wpAny _ _ (pure ((#[] : Array Value) ++ vs.toArray).toList) Q E _
  rw [show ((#[] : Array Value) ++ vs.toArray).toList = vs by simp]
  exact wpAny_pure h
theorem sorted_ordT {l : Addr} {vs : List Value} {ltv : Value → Value → Bool} {Q : Value → Shared → Prop} (O : Swo ltv) (hl : s.heap.IsTuple l vs.toArray) (hz : vs.length ≤ sizeLine)
    (hS : 2 ≤ vs.length → ∀ (h₁ : Heap) (a : Addr), h₁.get? a = some (seqObj "list" vs.toArray 0) → (∀ b o, s.heap.get? b = some o → b ≠ a ∧ h₁.get? b = some o) → SortableO prog w A.in1.in1 { s with heap := h₁ } a vs ltv)
    (h : ∀ out : List Value, Srtd ltv out → Stb ltv out vs → Q (.ref (s.heap.objs.size + 1)) { s with heap := sortedAll s.heap vs out.toArray }) :
    wpAny (model prog w) A (call (.builtin "sorted") [.ref l]) Q E s := by
  refine Calls.call_function_entry kind_sorted plain_sorted entry_sorted (args_sorted1 _) ?_
  unfold Builtin.«sorted»
  refine wpAny_bind (m := checkCount "sorted" 1 1 _) (wpAny_pure ?_)
  refine wpAny_bind (collect_tup hl ?_ hz)
  refine wpAny_bind (wpAny_newList ?_ hz)
  have hsz : ((s.heap.push (seqObj "list" #[] 0)).update s.heap.objs.size (Obj.mapSeq (· ++ vs.toArray))).objs.size = s.heap.objs.size + 1 := by
    rw [Heap.size_update, size_push']
  have hoL : (((s.heap.push (seqObj "list" #[] 0)).update s.heap.objs.size (Obj.mapSeq (· ++ vs.toArray))).push (seqObj "list" vs.toArray 0)).get? (s.heap.objs.size + 1) = some (seqObj "list" vs.toArray 0) := by
    rw [← hsz]; exact Heap.get?_push_size _ rfl
  have keep : ∀ b o, s.heap.get? b = some o → b ≠ s.heap.objs.size + 1 ∧ (((s.heap.push (seqObj "list" #[] 0)).update s.heap.objs.size (Obj.mapSeq (· ++ vs.toArray))).push (seqObj "list" vs.toArray 0)).get? b = some o := fun b o q => by
    have hlt : b < s.heap.objs.size := Heap.lt_size q
    refine ⟨Nat.ne_of_lt (Nat.lt_succ_of_lt hlt), Heap.get?_push_of_some _ ?_⟩
    rw [Heap.get?_update_ne _ _ _ _ (Nat.ne_of_lt hlt)]
    exact Heap.get?_push_of_some _ q
  show wpAny _ _ _ _ _ { s with heap := ((s.heap.push (seqObj "list" #[] 0)).update s.heap.objs.size (Obj.mapSeq (· ++ vs.toArray))).push (seqObj "list" vs.toArray 0) }
  rw [hsz]
  refine wpAny_bind (wpAny_holding (wpAny_call_entry slot_list_sort ⟨_, hoL, rfl⟩ entry_list_sort (list_sort_ord O hoL hz (fun h2 => hS h2 _ _ hoL keep) fun out hs hb => ⟨_, rfl, ?_⟩) (args_list_sort _)))
  exact wpAny_pure ⟨_, rfl, h out hs hb⟩
end
end K9
namespace L2
open PySem PySem.Spec PyProof.Rows
/-- sorted(t), t a tuple of ints -/
def rSortedTu (K : PySem.W.Frag) : List V → Hp → VK → Prop := fun vs H Q => ∃ (a : Addr) (ns : List Int), vs = [V.ref a] ∧ SqT K H a (ns.map V.int) ∧
  ∀ (ns' : List Int) (p : Addr), ns'.Perm ns → ns'.Pairwise (· ≤ ·) → H p = none → Q (.ref p) (upd H p (.lst (ns'.map V.int)))
section
variable {X : Cx}
theorem cr_sortedTu : CallR X (.builtin "sorted") (rSortedTu X.K) := by
  intro pins s σ H vs us Q I r h
  obtain ⟨a, ns, rfl, hs, q⟩ := h
  obtain ⟨its, rv, hl, hz⟩ := I.tuple hs
  rw [Vals.ref1 r]
  have hi := rv.ints
  refine K9.sorted_ordT SrtO.swo_int hl (by rw [← rv.length]; exact hz) (fun h2 h₁ a' _ _ => SrtO.ints_sortable hi h2) fun out h1 h2 => ?_
  obtain ⟨k1, k2, k3⟩ := SrtO.ints_out hi h1 h2
  obtain ⟨ep, he'⟩ := PyProof.Rows.sortedAll_at s.heap its out.toArray
  have hlen : ((out.map SrtO.iv).map V.int).length ≤ sizeLine := by
    rw [List.length_map, k2.length_eq]
    rw [List.length_map] at hz
    exact hz
  exact ⟨.ref _, upd H (s.heap.objs.size + 1) (.lst ((out.map SrtO.iv).map V.int)), I.laid (t' := s.toks) (fun _ _ => PyProof.Rows.sortedAll_old) (Nat.le_succ _) ⟨hlen, out, ep, vals_of_ints k1, he'⟩, rfl, q _ _ k2 k3 (I.hok.fresh (Nat.le_succ _))⟩
end
end L2
namespace K9
open PySem PySem.Spec PyProof.Rows L2 RZ
end K9
namespace K9
open PySem PySem.Spec PyProof.Rows L2 RZ
theorem bootAny : bootBuiltins "any" = some (.builtin "any") := by decide +kernel
theorem bootSorted : bootBuiltins "sorted" = some (.builtin "sorted") := by decide +kernel
end K9
namespace K9
open PySem PySem.Spec PyProof.Rows L2 RZ
/-! ### the program: checks -/
def spIsDeg (K : PySem.W.Frag) : Sp := fun vs H Q _ => ∃ (a : Addr) (L : List Int) (n lo hi : Int), vs = [.ref a, .int n, .int lo, .int hi] ∧ SqT K H a (iV L) ∧ (L.length : Int) ≤ n ∧ L.length ≤ 100 ∧ 0 ≤ lo ∧ hi ≤ 1000 ∧ (∀ d ∈ L, lo ≤ d ∧ d ≤ hi) ∧ ∀ H', Same H H' → Q (.bl true) H'
/-- right degrees: even ones, odd ones -/
structure Ev (E : List Int) : Prop where
  len : E.length ≤ 6
  inn : ∀ e ∈ E, 2 ≤ e ∧ e ≤ 40
  par : ∀ e ∈ E, e % 2 = 0
structure Od (O : List Int) : Prop where
  len : O.length ≤ 10
  inn : ∀ e ∈ O, 3 ≤ e ∧ e ≤ 40
  par : ∀ e ∈ O, e % 2 = 1
def spChkD (K : PySem.W.Frag) : Sp := fun vs H Q _ => ∃ (a b : Addr) (E O : List Int), vs = [.ref a, .ref b] ∧ SqT K H a (iV E) ∧ Ev E ∧ SqT K H b (iV O) ∧ Od O ∧ ∀ H', Same H H' → Q .non H'
theorem scIsDeg : FnScope ["value", "many", "least", "most", "degree"] ["value", "many", "least", "most"] (defScope sIsDeg) := ⟨rfl, rfl, rfl, by decide +kernel, rfl, by decide +kernel, by decide +kernel⟩
theorem scChkD : FnScope ["evens", "odds", "degree"] ["evens", "odds"] (defScope sChkD) := ⟨rfl, rfl, rfl, by decide +kernel, rfl, by decide +kernel, by decide +kernel⟩
section
variable {P : Program} {w : World} {K : PySem.W.Frag} {mg : Str → Option Value} {base : Heap} {fB fD : Addr} {dB dD : FuncData}
theorem ok_isdeg {f : Addr} {fd : FuncData} (F : Fun K "_is_degrees" "_is_degrees" sIsDeg f fd) (T : Txt K mg) (gB : mg "is_between" = some (.ref fB)) (kB : PySem.W.keepIn K (.ref fB) = true) (bB : Binds K dB ["value", "least", "most"] [])
    (B : FnOk P w K mg base CX0 3 fB dB ["value", "least", "most"] (spBetw K)) : FnOk P w K mg base CX0 4 f fd ["value", "many", "least", "most"] (spIsDeg K) := by
  refine F.ok scIsDeg (fun vs H Q E h => ?_) (fun cdv A outer s H vs Q E hr h => ?_)
  · obtain ⟨a, L, n, lo, hi, rfl, _⟩ := h; rfl
  obtain ⟨a, L, n, lo, hi, rfl, ha, hn, ln, h0, h1, hL, k⟩ := h
  refine ⟨_, pss_cons (ps_if (PW.pt (pw_or (pt_not (pt_val (pe_callB call_isi (by rfl) T.isi bootIsi (pa_cons (pv 0) (pa_cons (pe_bltn (v := .ty "tuple") (by rfl) T.tuple bootTuple rfl) pa_nil)))))
        (pw_or1 (pt_cmpR op_gt (pe_callB call_len_seq (by rfl) T.len PySem.boot_len (pa_cons (pv 0) pa_nil)) (pv 1) (nomark _))))) (pss_one (ps_ret pe_bl)) pss_nil)
    (pss_one (ps_ret (pe_callB (cr_all rfl) (by rfl) T.all bootAll (pa_cons (pe_lc (own := [("degree", 4)]) (g := gName 4) rfl scIsDeg.nd (pi_tup (pv 0)) (blkOk_by (N := ["value", "many", "least", "most", "degree"]) (sc := defScope sIsDeg) (by decide +kernel)) (fun _ _ _ _ _ => pg_name (i := 4) scIsDeg.nd rfl (Or.inl rfl)) (fun _ _ _ _ _ => pts_nil)
      (fun _ _ _ _ _ => pe_call B hr (by rfl) gB kB bB .nil pass0 (by exact (pa_cons (pv 4) (pa_cons (pv 2) (pa_cons (pv 3) pa_nil)))))) pa_nil)))), ?_⟩
  refine ⟨_, rfl, _, _, _, _, true, rfl, .ty "tuple", tyT ha, kit_ty (by decide +kernel), _, rfl, iteF ⟨_, rfl, _, _, rfl, .inr ha, _, rfl, _, _, rfl, rfl, _, rfl, ?_⟩⟩
  rw [decide_eq_false (by rw [List.length_map]; omega)]
  refine iteF ⟨_, rfl, a, rfl, ⟨_, ha⟩, fun D hD => lc_ints (K := K) (a := a) (L := L) (fun _ => .bl true) (fun _ => true) hD ha (by omega) (fun _ => rfl) (fun d H1 Q hm s q => q H1 (Same.refl _)) (fun d H1 Q hm _ s q => ?_) fun H' s hD' => ?_⟩
  · have hd := hL d hm
    refine ⟨_, rfl, _, rfl, _, rfl, .int d, lo, hi, rfl, .int d, ?_⟩
    rw [betw_small (by omega) (by omega) hd.1 hd.2]
    exact q H1 (Same.refl _)
  · refine ⟨D, L.map fun _ => true, rfl, SqL.of ?_, ?_⟩
    · rw [hD', filter_yes, List.map_map]
      rfl
    · rw [all_true]
      exact k H' s
theorem ok_chkd {f : Addr} {fd : FuncData} (F : Fun K "_check_degrees" "_check_degrees" sChkD f fd) (T : Txt K mg) (gD : mg "_is_degrees" = some (.ref fD)) (kD : PySem.W.keepIn K (.ref fD) = true) (bD : Binds K dD ["value", "many", "least", "most"] [])
    (FD : FnOk P w K mg base CX0 4 fD dD ["value", "many", "least", "most"] (spIsDeg K)) : FnOk P w K mg base CX0 5 f fd ["evens", "odds"] (spChkD K) := by
  refine F.ok scChkD (fun vs H Q E h => ?_) (fun cdv A outer s H vs Q E hr h => ?_)
  · obtain ⟨a, b, E', O, rfl, _⟩ := h; rfl
  obtain ⟨a, b, EV, OD, rfl, ha, hE, hb, hO, k⟩ := h
  obtain ⟨t1, m1⟩ := T.cMAXEVENS
  obtain ⟨t2, m2⟩ := T.cMAXLETTER
  obtain ⟨t3, m3⟩ := T.cMAXODDS
  refine ⟨_, pss_cons (ps_if (PW.pt (pw_or (pt_not (pt_val (pe_call FD hr (by rfl) gD kD bD .nil pass0 (pa_cons (pv 0) (pa_cons (pe_glob (v := .int 6) (by rfl) m1 ⟨_, rfl⟩) (pa_cons pe_int (pa_cons (pe_glob (v := .int 40) (by rfl) m2 ⟨_, rfl⟩) pa_nil)))))))
        (pw_or1 (pt_val (pe_callB (cr_any rfl) (by rfl) T.any bootAny (pa_cons (pe_lc (own := [("degree", 2)]) (g := gName 2) rfl scChkD.nd (pi_tup (pv 0)) (blkOk_by (N := ["evens", "odds", "degree"]) (sc := defScope sChkD) (by decide +kernel)) (fun _ _ _ _ _ => pg_name (i := 2) scChkD.nd rfl (Or.inl rfl)) (fun _ _ _ _ _ => pts_nil)
          (fun _ _ _ _ _ => pe_cmpR op_eq (pe_op op_mod (pv 2) pe_int) pe_int (nomark _))) pa_nil)))))) pss_never pss_nil)
    (pss_one (ps_if (PW.pt (pw_or (pt_not (pt_val (pe_call FD hr (by rfl) gD kD bD .nil pass0 (pa_cons (pv 1) (pa_cons (pe_glob (v := .int 10) (by rfl) m3 ⟨_, rfl⟩) (pa_cons pe_int (pa_cons (pe_glob (v := .int 40) (by rfl) m2 ⟨_, rfl⟩) pa_nil)))))))
        (pw_or1 (pt_val (pe_callB (cr_any rfl) (by rfl) T.any bootAny (pa_cons (pe_lc (own := [("degree", 2)]) (g := gName 2) rfl scChkD.nd (pi_tup (pv 1)) (blkOk_by (N := ["evens", "odds", "degree"]) (sc := defScope sChkD) (by decide +kernel)) (fun _ _ _ _ _ => pg_name (i := 2) scChkD.nd rfl (Or.inl rfl)) (fun _ _ _ _ _ => pts_nil)
          (fun _ _ _ _ _ => pe_cmpR op_eq (pe_op op_mod (pv 2) pe_int) pe_int (nomark _))) pa_nil)))))) pss_never pss_nil)), ?_⟩
  have hl := hE.len
  have hl2 := hO.len
  refine ⟨_, rfl, a, EV, 6, 2, 40, rfl, ha, by omega, by omega, by decide, by decide, hE.inn, fun H1 s1 => ⟨_, rfl, iteF ⟨_, rfl, a, rfl, ⟨_, tupSame s1 ha⟩, fun D hD => lc_ints (K := K) (a := a) (L := EV) (fun _ => .bl false) (fun _ => true) hD (tupSame s1 ha) (by omega) (fun _ => rfl) (fun d H2 Q hm s q => q H2 (Same.refl _)) (fun d H2 Q hm _ s q => ?_) fun H2 s2 hD2 => ?_⟩⟩⟩
  · refine ⟨_, rfl, _, _, rfl, rfl, (by show (0 : Int) < 2; decide), rfl, ?_⟩
    have e := hE.par d hm
    rw [dInt, decide_eq_false (by omega)]
    exact q H2 (Same.refl _)
  refine ⟨D, EV.map fun _ => false, rfl, SqL.of (by rw [hD2, filter_yes, List.map_map]; rfl), _, rfl, ?_⟩
  rw [any_false]
  have s12 := s1.trans s2
  refine iteF ⟨_, rfl, b, OD, 10, 3, 40, rfl, tupSame s12 hb, by omega, by omega, by decide, by decide, hO.inn, fun H3 s3 => ⟨_, rfl, iteF ⟨_, rfl, b, rfl, ⟨_, tupSame (s12.trans s3) hb⟩, fun D' hD' => lc_ints (K := K) (a := b) (L := OD) (fun _ => .bl false) (fun _ => true) hD' (tupSame (s12.trans s3) hb) (by omega) (fun _ => rfl) (fun d H2 Q hm s q => q H2 (Same.refl _)) (fun d H2 Q hm _ s q => ?_) fun H4 s4 hD4 => ?_⟩⟩⟩
  · refine ⟨_, rfl, _, _, rfl, rfl, (by show (0 : Int) < 2; decide), rfl, ?_⟩
    have e := hO.par d hm
    rw [dInt, decide_eq_false (by omega)]
    exact q H2 (Same.refl _)
  refine ⟨D', OD.map fun _ => false, rfl, SqL.of (by rw [hD4, filter_yes, List.map_map]; rfl), _, rfl, ?_⟩
  rw [any_false]
  exact iteF (k H4 (s12.trans (s3.trans s4)))
end
end K9
namespace K9
open PySem PySem.Spec PyProof.Rows L2 RZ
def sumsL (D : List Int) (N i : Nat) : List V := (tab D i ++ List.replicate (N + 1 - i) false).map V.bl
theorem sumsL_len {D : List Int} {N i : Nat} (h : i ≤ N + 1) : (sumsL D N i).length = N + 1 := by
  unfold sumsL
  rw [List.length_map, List.length_append, tab_len, List.length_replicate]
  omega
theorem sumsL_get {D : List Int} {N i j : Nat} (h : j < i) : (sumsL D N i)[j]? = some (.bl (rchD D j)) := by
  unfold sumsL
  rw [List.getElem?_map, List.getElem?_append_left (by rw [tab_len]; exact h), tab_get D h]
  rfl
theorem sumsL_set {D : List Int} {N i : Nat} (h : i ≤ N) : (sumsL D N i).set i (.bl (rchD D i)) = sumsL D N (i + 1) := by
  unfold sumsL
  obtain ⟨m, hm⟩ : ∃ m, N + 1 - i = m + 1 := ⟨N - i, by omega⟩
  have e : tab D (i + 1) = tab D i ++ [rchD D i] := rfl
  rw [hm, show N + 1 - (i + 1) = m by omega, e, List.replicate_succ, List.map_append, List.set_append_right _ _ (by rw [List.length_map, tab_len]; exact Nat.le_refl _), List.length_map, tab_len, Nat.sub_self, List.append_assoc, List.map_append]
  rfl
theorem made_any {D : List Int} {k : Nat} (h1 : ∀ d ∈ D, 1 ≤ d) : (((D.filter fun d => decide (d < (k : Int))).map fun d => rchD D ((k : Int) - d).toNat).any id) = made D k := by
  rw [Bool.eq_iff_iff, made_iff h1, List.any_map, List.any_eq_true]
  refine ⟨fun ⟨d, hd, q⟩ => ?_, fun ⟨d, hd, h2, q⟩ => ⟨d, List.mem_filter.mpr ⟨hd, decide_eq_true h2⟩, q⟩⟩
  obtain ⟨a, b⟩ := List.mem_filter.mp hd
  exact ⟨d, a, of_decide_eq_true b, q⟩
def spSumTwo (K : PySem.W.Frag) : Sp := fun vs H Q _ => ∃ (a : Addr) (D : List Int) (n : Int), vs = [.int n, .ref a] ∧ SqT K H a (iV D) ∧ D.length ≤ 100 ∧ (∀ d ∈ D, 1 ≤ d ∧ d ≤ 1000) ∧ 0 ≤ n ∧ n ≤ 1000 ∧ ∀ H', Same H H' → Q (.bl (made D n.toNat)) H'
theorem scSumTwo : FnScope ["number", "degrees", "sums", "at", "degree"] ["number", "degrees"] (defScope sSumTwo) := ⟨rfl, rfl, rfl, by decide +kernel, rfl, by decide +kernel, by decide +kernel⟩
section
variable {P : Program} {w : World} {K : PySem.W.Frag} {mg : Str → Option Value} {base : Heap} {fB fD : Addr} {dB dD : FuncData}
theorem ok_sumtwo {f : Addr} {fd : FuncData} (F : Fun K "_is_sum_of_two" "_is_sum_of_two" sSumTwo f fd) (T : Txt K mg) : FnOk P w K mg base CX0 1 f fd ["number", "degrees"] (spSumTwo K) := by
  refine F.ok scSumTwo (fun vs H Q E h => ?_) (fun cdv A outer s H vs Q E hr h => ?_)
  · obtain ⟨a, D, n, rfl, _⟩ := h; rfl
  obtain ⟨a, D, n, rfl, ha, ln, hD, h0, h1, k⟩ := h
  refine ⟨_, pss_cons (ps_set (i := 2) scSumTwo.nd rfl (.inr rfl) (pe_op op_rep (pe_lst (pa_cons pe_bl pa_nil)) (pe_op op_add (pv 0) pe_int)))
    (pss_cons (ps_for PassesOwn.never rfl (pi_range1 rfl T.range (pa_cons (pv 0) pa_nil)) (pg_name (i := 3) scSumTwo.nd rfl (.inr rfl))
      (pss_one (ps_asg (pe_or (pe_cmpR op_in_seq (pv 3) (pv 1) (by rfl)) (pe_one (pe_callB (cr_any rfl) (by rfl) T.any bootAny (pa_cons (pe_lc (te := tOp (rIxL K) (tVar 2) (tOp (rI0 fun i j => .int (i - j)) (tVar 3) (tVar 4))) (own := [("degree", 4)]) (g := gName 4) rfl scSumTwo.nd (pi_tup (pv 1)) (blkOk_by (N := ["number", "degrees", "sums", "at", "degree"]) (sc := defScope sSumTwo) (by decide +kernel))
          (fun _ _ _ _ _ => pg_name (i := 4) scSumTwo.nd rfl (Or.inl rfl)) (fun _ _ _ _ _ => pts_one (pt_cmpR op_lt (pv 4) (pv 3) (nomark _))) (fun _ _ _ _ _ => pe_ix ix_list (pv 2) (pe_op op_sub (pv 3) (pv 4)) (fun _ _ => rfl))) pa_nil)))) (pg_sub (pv 2) (pv 3) set_list))))
    (pss_one (ps_ret (pe_callB (cr_any rfl) (by rfl) T.any bootAny (pa_cons (pe_lc (te := tOp (rIxL K) (tVar 2) (tOp (rI0 fun i j => .int (i - j)) (tVar 0) (tVar 4))) (own := [("degree", 4)]) (g := gName 4) rfl scSumTwo.nd (pi_tup (pv 1)) (blkOk_by (N := ["number", "degrees", "sums", "at", "degree"]) (sc := defScope sSumTwo) (by decide +kernel))
          (fun _ _ _ _ _ => pg_name (i := 4) scSumTwo.nd rfl (Or.inl rfl)) (fun _ _ _ _ _ => pts_one (pt_cmpR op_lt (pv 4) (pv 0) (nomark _))) (fun _ _ _ _ _ => pe_ix ix_list (pv 2) (pe_op op_sub (pv 0) (pv 4)) (fun _ _ => rfl))) pa_nil))))), ?_⟩
  obtain ⟨N, rfl⟩ : ∃ N : Nat, n = (N : Int) := ⟨n.toNat, by omega⟩
  rw [show ((N : Int)).toNat = N by omega] at k
  refine ⟨(by show 1 ≤ sizeLine; decide), fun l hl => ⟨_, rfl, _, _, rfl, rfl, l, (N : Int) + 1, [.bl false], rfl, rfl, upd_same, by omega, by omega, ?_, fun q hq => ?_⟩⟩
  · have : N + 1 ≤ sizeLine := by rw [sizeLine_eq]; omega
    show 1 * ((N : Int) + 1).toNat ≤ sizeLine
    omega
  have e0 : (List.replicate ((N : Int) + 1).toNat [V.bl false]).flatten = sumsL D N 0 := by
    unfold sumsL
    rw [show ((N : Int) + 1).toNat = N + 1 by omega]
    show _ = (([] : List Bool) ++ List.replicate (N + 1 - 0) false).map V.bl
    rw [List.nil_append, Nat.sub_zero, List.map_replicate, List.flatten_replicate_singleton]
  rw [e0]
  have s0 : Same H (upd H l (.lst [.bl false])) := Same.new hl
  have hHq : H q = none := by
    cases z : H q with
    | none => rfl
    | some o =>
      rw [s0 _ _ z] at hq
      cases hq
  refine ⟨_, rfl, (N : Int), rfl, by omega, by omega, for_it (walk_range (lo := 0) (n := (N : Int).toNat)) (fun i σ H' => (∃ o3 o4, σ = [some (.int N), some (.ref a), some (.ref q), o3, o4]) ∧ Same H H' ∧ H' q = some (.lst (sumsL D N i))) ⟨⟨_, _, rfl⟩, Same.back s0 hHq, upd_same⟩ (fun _ _ _ _ _ => trivial) (fun i x σ H0 H1 hi p y => ?_) fun σ H1 p => ?_⟩
  · obtain ⟨⟨o3, o4, rfl⟩, s1, h1q⟩ := p
    obtain ⟨rfl, rfl⟩ := y
    have hi' : i < N := by omega
    have ha1 := tupSame s1 ha
    refine ⟨_, rfl, _, rfl, a, iV D, rfl, .inr ha1, rfl, flat_ints, _, rfl, ?_⟩
    have ec : (if (false : Bool) = true then !inV (.int (0 + (i : Int))) (iV D) else inV (.int (0 + (i : Int))) (iV D)) = D.contains (i : Int) := by
      rw [if_neg Bool.false_ne_true, inV_ints, Int.zero_add]
    rw [ec]
    have fin : ∀ (c : Bool) (H3 : Hp), Same H1 H3 → c = rchD D i → (∃ o3' o4', ([some (.int (N : Int)), some (.ref a), some (.ref q), some (.int (0 + (i : Int))), o4] : L2.St) = [some (.int (N : Int)), some (.ref a), some (.ref q), o3', o4']) ∧ Same H (upd H3 q (.lst ((sumsL D N i).set i (.bl c)))) ∧ upd H3 q (.lst ((sumsL D N i).set i (.bl c))) q = some (.lst (sumsL D N (i + 1))) := fun c H3 s3 e => by
      refine ⟨⟨_, _, rfl⟩, Same.back (s1.trans s3) hHq, ?_⟩
      rw [upd_same, e, sumsL_set (by omega)]
    have ix : ixN (sumsL D N i).length (0 + (i : Int)) = some i := by
      rw [sumsL_len (by omega)]
      unfold ixN
      rw [if_pos (by omega), if_pos (by omega)]
      congr 1
      omega
    cases c : D.contains (i : Int) with
    | true =>
      refine iteT ⟨_, rfl, _, rfl, q, _, _, i, rfl, rfl, h1q, ix, ?_⟩
      refine fin true H1 (Same.refl _) ?_
      unfold rchD
      rw [c]
      rfl
    | false =>
      refine iteF ⟨_, rfl, a, rfl, ⟨_, ha1⟩, fun D' hD' => lc_ints (K := K) (a := a) (L := D) (fun d => .bl (rchD D ((i : Int) - d).toNat)) (fun d => decide (d < (i : Int))) hD' ha1 (by omega) (fun _ => rfl) (fun d H2 Q hm s g => ?_) (fun d H2 Q hm hp s g => ?_) fun H2 s2 hD2 => ?_⟩
      · refine ⟨_, rfl, _, rfl, _, _, rfl, rfl, _, rfl, ?_⟩
        rw [Int.zero_add]
        exact g H2 (Same.refl _)
      · have hd := hD d hm
        have hp := of_decide_eq_true hp
        refine ⟨_, rfl, _, rfl, _, rfl, _, _, rfl, rfl, q, _, _, _, rfl, rfl, SqL.of (s _ _ h1q), at_of (by omega) (sumsL_get (j := (0 + (i : Int) - d).toNat) (by omega)), ?_⟩
        rw [Int.zero_add]
        exact g H2 (Same.refl _)
      · refine ⟨D', (D.filter fun d => decide (d < (i : Int))).map fun d => rchD D ((i : Int) - d).toNat, rfl, SqL.of (by rw [hD2, List.map_map]; rfl), ?_⟩
        rw [made_any fun d hd => (hD d hd).1]
        refine ⟨_, rfl, _, rfl, q, _, _, i, rfl, rfl, s2 _ _ h1q, ix, ?_⟩
        refine fin _ H2 s2 ?_
        unfold rchD
        rw [c]
        rfl
  · obtain ⟨⟨o3, o4, rfl⟩, s1, h1q⟩ := p
    rw [show (N : Int).toNat = N by omega] at h1q
    have ha1 := tupSame s1 ha
    refine ⟨_, rfl, a, rfl, ⟨_, ha1⟩, fun D' hD' => lc_ints (K := K) (a := a) (L := D) (fun d => .bl (rchD D ((N : Int) - d).toNat)) (fun d => decide (d < (N : Int))) hD' ha1 (by omega) (fun _ => rfl) (fun d H2 Q hm s g => ?_) (fun d H2 Q hm hp s g => ?_) fun H2 s2 hD2 => ?_⟩
    · exact ⟨_, rfl, _, rfl, _, _, rfl, rfl, _, rfl, g H2 (Same.refl _)⟩
    · have hd := hD d hm
      have hp := of_decide_eq_true hp
      exact ⟨_, rfl, _, rfl, _, rfl, _, _, rfl, rfl, q, _, _, _, rfl, rfl, SqL.of (s _ _ h1q), at_of (by omega) (sumsL_get (j := ((N : Int) - d).toNat) (by omega)), g H2 (Same.refl _)⟩
    · refine ⟨D', (D.filter fun d => decide (d < (N : Int))).map fun d => rchD D ((N : Int) - d).toNat, rfl, SqL.of (by rw [hD2, List.map_map]; rfl), ?_⟩
      rw [made_any fun d hd => (hD d hd).1]
      exact k H2 (s1.trans s2)
end
end K9
namespace K9
open PySem PySem.Spec PyProof.Rows L2 RZ
theorem cutV_one {xs : List V} : cutV xs (some 1) none = xs.tail := by
  unfold cutV
  cases xs with
  | nil => rfl
  | cons x r =>
    have e1 : HT.sIx (x :: r).length 0 (some 1) = 1 := by
      simp only [HT.sIx, List.length_cons]
      rw [if_neg (by omega)]
      omega
    have e2 : HT.sIx (x :: r).length (x :: r).length none = (x :: r).length := rfl
    rw [e1, e2]
    show List.take _ r = r
    exact List.take_of_length_le (by rw [List.length_cons]; omega)
theorem lot_pos {n : Nat} {l : List Int} (h : l ∈ (pow n).tail) : l ≠ [] := by
  intro e
  have nd := pow_nodup n
  rw [pow_cons n] at nd
  subst e
  exact (List.nodup_cons.mp nd).1 h
theorem asc_len : ∀ {n : Nat} {l : List Int}, Asc n l → l.length ≤ n
  | n, [], _ => Nat.zero_le _
  | 0, x :: l, h => by
    have := h.inn x List.mem_cons_self
    omega
  | n + 1, x :: l, h => by
    have ih := asc_len (n := n) (l := l.map (· - 1)) ⟨List.pairwise_map.mpr ((List.pairwise_cons.mp h.up).2.imp fun q => by omega), fun i hi => by
      obtain ⟨j, hj, rfl⟩ := List.mem_map.mp hi
      have a := (List.pairwise_cons.mp h.up).1 j hj
      have b := h.inn j (List.mem_cons_of_mem _ hj)
      have c := h.inn x List.mem_cons_self
      omega⟩
    rw [List.length_map] at ih
    rw [List.length_cons]
    omega
def spLots (K : PySem.W.Frag) : Sp := fun vs H Q _ => ∃ n : Int, vs = [.int n] ∧ 0 ≤ n ∧ n ≤ 6 ∧ ∀ (H' : Hp) (p : Addr) (ys : List V), Same H H' → H p = none → H' p = some (.lst ys) → TupsV K H' ys (lotsOf n.toNat) → Q (.ref p) H'
theorem scLots : FnScope ["size", "found", "index", "lot"] ["size"] (defScope sLots) := ⟨rfl, rfl, rfl, by decide +kernel, rfl, by decide +kernel, by decide +kernel⟩
section
variable {P : Program} {w : World} {K : PySem.W.Frag} {mg : Str → Option Value} {base : Heap} {fB fD : Addr} {dB dD : FuncData}
theorem ok_lots {f : Addr} {fd : FuncData} (F : Fun K "_lots" "_lots" sLots f fd) (T : Txt K mg) : FnOk P w K mg base CX0 1 f fd ["size"] (spLots K) := by
  refine F.ok scLots (fun vs H Q E h => ?_) (fun cdv A outer s H vs Q E hr h => ?_)
  · obtain ⟨n, rfl, _⟩ := h; rfl
  obtain ⟨n, rfl, h0, h1, k⟩ := h
  refine ⟨_, pss_cons (ps_set (i := 1) scLots.nd rfl (.inl rfl) (pe_lst (pa_cons (pe_tup pa_nil) pa_nil)))
    (pss_cons (ps_for PassesOwn.never rfl (pi_range1 rfl T.range (pa_cons (pv 0) pa_nil)) (pg_name (i := 2) scLots.nd rfl (.inr rfl))
      (pss_one (ps_set (i := 1) scLots.nd rfl (.inl rfl) (pe_op op_cat (pv 1) (pe_lc (te := tOp (rCatA K) (tVar 3) (tTup (tCons (tVar 2) tNil))) (own := [("lot", 3)]) (g := gName 3) rfl scLots.nd (pi_list (pv 1)) (blkOk_by (N := ["size", "found", "index", "lot"]) (sc := defScope sLots) (by decide +kernel))
        (fun _ _ _ _ _ => pg_name (i := 3) scLots.nd rfl (Or.inl rfl)) (fun _ _ _ _ _ => pts_nil) (fun _ _ _ _ _ => pe_op op_catA (pv 3) (pe_tup (pa_cons (pv 2) pa_nil))))))))
    (pss_one (ps_ret (pe_callB (cr_sortedTL hr.units) (by rfl) T.sorted bootSorted (pa_cons (pe_slice sl_list (pv 1) (po_some pe_int) po_none) pa_nil))))), ?_⟩
  refine ⟨(by show 0 ≤ sizeLine; decide), fun t ht => ⟨(by show 1 ≤ sizeLine; decide), fun q hq => ?_⟩⟩
  have s0 : Same H (upd H t (.tup [])) := Same.new ht
  have s1 : Same (upd H t (.tup [])) (upd (upd H t (.tup [])) q (.lst [.ref t])) := Same.new hq
  refine ⟨_, rfl, n, rfl, by omega, by omega, for_it (walk_range (lo := 0) (n := n.toNat)) (fun i σ H' => (∃ q o2, σ = [some (.int n), some (.ref q), o2, none] ∧ ∃ xs, H' q = some (.lst xs) ∧ TupsV K H' xs (pow i)) ∧ Same H H') ⟨⟨q, _, rfl, _, upd_same, .cons ⟨t, rfl, SqT.of (s1 _ _ upd_same)⟩ .nil⟩, s0.trans s1⟩ (fun _ _ _ _ _ => trivial) (fun i x σ H0 H1 hi p y => ?_) fun σ H1 p => ?_⟩
  · obtain ⟨⟨q, o2, rfl, xs, hx, tv⟩, s2⟩ := p
    obtain ⟨rfl, rfl⟩ := y
    have lx := tv_len tv
    rw [pow_len] at lx
    have i6 : i ≤ 5 := by omega
    have p6 : 2 ^ i ≤ 2 ^ 5 := Nat.pow_le_pow_right (by decide) i6
    refine ⟨_, rfl, _, rfl, q, rfl, ⟨_, SqL.of hx⟩, fun D hD => lc_tupsL (K := K) (a := q) (g := fun l => l ++ [(i : Int)]) (p := fun _ => true) hD hx tv (by rw [pow_len]; omega) (fun _ => rfl) (fun t' l H2 Q2 _ _ s g => g H2 (Same.refl _)) (fun t' l H2 Q2 hm hT _ s g => ?_) fun H2 ys s3 hD2 tv2 => ?_⟩
    · refine ⟨_, rfl, _, rfl, (by show 1 ≤ sizeLine; decide), fun t2 ht2 => ?_⟩
      have st := Same.new (o := .tup [.int (0 + (i : Int))]) ht2
      have hl : l.length ≤ i := asc_len (mem_pow.mp hm)
      refine cat_tup (tupSame st hT) (SqT.of upd_same) (by rw [List.length_map]; show l.length + 1 ≤ 1000; omega) fun H3 p3 s4 h3 => g H3 p3 (st.trans s4) ?_
      have h3 : SqT K H3 p3 (iV l ++ [.int (0 + (i : Int))]) := h3
      rw [Int.zero_add] at h3
      show SqT K H3 p3 (List.map V.int (l ++ [(i : Int)]))
      rw [List.map_append]
      exact h3
    · have e : (pow i).filter (fun _ => true) = pow i := List.filter_eq_self.mpr fun _ _ => rfl
      rw [e] at tv2
      have ly := tv_len tv2
      rw [List.length_map, pow_len] at ly
      refine ⟨q, D, xs, ys, rfl, rfl, s3 _ _ hx, hD2, Nat.le_of_lt (small1000 (by omega)), fun p hp => ?_⟩
      have s4 := Same.new (o := .lst (xs ++ ys)) hp
      exact ⟨⟨p, _, rfl, _, upd_same, tv_append (tv_mono tv (s3.trans s4)) (tv_mono tv2 s4)⟩, s2.trans (s3.trans s4)⟩
  · obtain ⟨⟨q, o2, rfl, xs, hx, tv⟩, s2⟩ := p
    refine ⟨_, rfl, _, rfl, q, xs, rfl, SqL.of hx, fun p hp => ?_⟩
    rw [cutV_one]
    have s3 := Same.new (o := .lst xs.tail) hp
    refine ⟨p, xs.tail, (pow n.toNat).tail, rfl, SqL.of upd_same, tv_mono (tv_tail tv) s3, .inl fun l => lot_pos, fun ys p' tv' hp' => ?_⟩
    have s4 := Same.new (o := .lst ys) hp'
    exact k _ p' ys (s2.trans (s3.trans s4)) (none_of (s2.trans s3) hp') upd_same (tv_mono tv' s4)
end
end K9
namespace K9
open PySem PySem.Spec PyProof.Rows L2 RZ
/-! ### data -/
section
variable {K : PySem.W.Frag} {H : Hp}
end
/-! ### the program: lots that bar -/
def spBar (K : PySem.W.Frag) : Sp := fun vs H Q _ => ∃ (a b c : Addr) (E O l : List Int), vs = [.ref a, .ref b, .ref c] ∧ SqT K H a (iV E) ∧ Ev E ∧ SqT K H b (iV O) ∧ Od O ∧ SqT K H c (iV l) ∧ Asc E.length l ∧ ∀ H', Same H H' → Q (.bl (bars E O l)) H'
def spBarring (K : PySem.W.Frag) : Sp := fun vs H Q _ => ∃ (a b : Addr) (E O : List Int), vs = [.ref a, .ref b] ∧ SqT K H a (iV E) ∧ Ev E ∧ SqT K H b (iV O) ∧ Od O ∧ ∀ (H' : Hp) (p : Addr) (ys : List V), Same H H' → H' p = some (.tup ys) → TupsV K H' ys (barring E O) → Q (.ref p) H'
def spCanEnd (K : PySem.W.Frag) : Sp := fun vs H Q _ => ∃ (a b : Addr) (E O : List Int), vs = [.ref a, .ref b] ∧ SqT K H a (iV E) ∧ Ev E ∧ SqT K H b (iV O) ∧ Od O ∧ ∀ H', Same H H' → Q (.bl (decide (barring E O = []))) H'
def spMade (K : PySem.W.Frag) : Sp := fun vs H Q _ => ∃ (a : Addr) (D : List Int) (n : Int), vs = [.int n, .ref a] ∧ SqT K H a (iV D) ∧ D.length ≤ 6 ∧ (∀ d ∈ D, 1 ≤ d ∧ d ≤ 40) ∧ 0 ≤ n ∧ n ≤ 1000 ∧ ∀ H', Same H H' → Q (.bl (made D n.toNat)) H'
theorem scDoesBar : FnScope ["evens", "odds", "lot", "degrees", "index", "odd"] ["evens", "odds", "lot"] (defScope sDoesBar) := ⟨rfl, rfl, rfl, by decide +kernel, rfl, by decide +kernel, by decide +kernel⟩
theorem scBarring : FnScope ["evens", "odds", "lot"] ["evens", "odds"] (defScope sBarring) := ⟨rfl, rfl, rfl, by decide +kernel, rfl, by decide +kernel, by decide +kernel⟩
theorem scBarLots : FnScope ["evens", "odds"] ["evens", "odds"] (defScope sBarLots) := ⟨rfl, rfl, rfl, by decide +kernel, rfl, by decide +kernel, by decide +kernel⟩
theorem scCanEnd : FnScope ["evens", "odds"] ["evens", "odds"] (defScope sCanEnd) := ⟨rfl, rfl, rfl, by decide +kernel, rfl, by decide +kernel, by decide +kernel⟩
theorem scIsMade : FnScope ["number", "degrees"] ["number", "degrees"] (defScope sIsMade) := ⟨rfl, rfl, rfl, by decide +kernel, rfl, by decide +kernel, by decide +kernel⟩
theorem pick_get {E : List Int} {i : Int} (h0 : 0 ≤ i) (h1 : i < E.length) : (iV E)[i.toNat]? = some (.int (E.getD i.toNat 0)) ∧ E.getD i.toNat 0 ∈ E := by
  have hl : i.toNat < E.length := by omega
  rw [List.getElem?_map, List.getD_eq_getElem?_getD, List.getElem?_eq_getElem hl]
  exact ⟨rfl, List.getElem_mem hl⟩
theorem pick_mem {E l : List Int} {n : Int} (h : Asc E.length l) {d : Int} (hd : d ∈ pick E l) : d ∈ E := by
  obtain ⟨i, hi, rfl⟩ := List.mem_map.mp hd
  have := h.inn i hi
  exact (pick_get this.1 this.2).2
section
variable {P : Program} {w : World} {K : PySem.W.Frag} {mg : Str → Option Value} {base : Heap} {fS fL fB fC fD fM : Addr} {dS dL dB dC dD dM : FuncData}
theorem ok_doesbar {f : Addr} {fd : FuncData} (F : Fun K "_does_bar" "_does_bar" sDoesBar f fd) (T : Txt K mg) (gS : mg "_is_sum_of_two" = some (.ref fS)) (kS : PySem.W.keepIn K (.ref fS) = true) (bS : Binds K dS ["number", "degrees"] [])
    (S : FnOk P w K mg base CX0 1 fS dS ["number", "degrees"] (spSumTwo K)) : FnOk P w K mg base CX0 2 f fd ["evens", "odds", "lot"] (spBar K) := by
  refine F.ok scDoesBar (fun vs H Q E h => ?_) (fun cdv A outer s H vs Q E hr h => ?_)
  · obtain ⟨a, b, c, E', O, l, rfl, _⟩ := h; rfl
  obtain ⟨a, b, c, EV, OD, l, rfl, ha, hE, hb, hO, hc, hl, k⟩ := h
  refine ⟨_, pss_cons (ps_set (i := 3) scDoesBar.nd rfl (.inr rfl) (pe_callTy call_tuple_of (by rfl) T.tuple bootTuple (pa_cons (pe_lc (te := tOp (rIxT K) (tVar 0) (tVar 4)) (own := [("index", 4)]) (g := gName 4) rfl scDoesBar.nd (pi_tup (pv 2)) (blkOk_by (N := ["evens", "odds", "lot", "degrees", "index", "odd"]) (sc := defScope sDoesBar) (by decide +kernel))
        (fun _ _ _ _ _ => pg_name (i := 4) scDoesBar.nd rfl (Or.inl rfl)) (fun _ _ _ _ _ => pts_nil) (fun _ _ _ _ _ => pe_ix ix_tup (pv 0) (pv 4) (fun _ _ => rfl))) pa_nil)))
    (pss_one (ps_ret (pe_cmpR op_lt (pe_callB call_len_seq (by rfl) T.len PySem.boot_len (pa_cons (pe_lc (own := [("odd", 5)]) (g := gName 5) rfl scDoesBar.nd (pi_tup (pv 1)) (blkOk_by (N := ["evens", "odds", "lot", "degrees", "index", "odd"]) (sc := defScope sDoesBar) (by decide +kernel))
        (fun _ _ _ _ _ => pg_name (i := 5) scDoesBar.nd rfl (Or.inl rfl)) (fun _ _ _ _ _ => pts_one (pt_val (pe_call S hr (by rfl) gS kS bS .nil pass0 (by exact (pa_cons (pe_op op_add (pv 5) pe_int) (pa_cons (pv 3) pa_nil)))))) (fun _ _ _ _ _ => pv 5)) pa_nil))
      (pe_callB call_len_seq (by rfl) T.len PySem.boot_len (pa_cons (pv 2) pa_nil)) (nomark _)))), ?_⟩
  have ll := asc_len hl
  have le := hE.len
  have lo := hO.len
  refine ⟨_, rfl, c, rfl, ⟨_, hc⟩, fun D hD => lc_ints (K := K) (a := c) (L := l) (fun i => .int (EV.getD i.toNat 0)) (fun _ => true) hD hc (by omega) (fun _ => rfl) (fun d H1 Q1 hm s q => q H1 (Same.refl _)) (fun d H1 Q1 hm _ s q => ?_) fun H1 s1 hD1 => ?_⟩
  · have hi := hl.inn d hm
    exact ⟨_, rfl, _, rfl, a, _, _, _, rfl, rfl, tupSame s ha, at_of (j := d.toNat) (by omega) (pick_get hi.1 hi.2).1, q H1 (Same.refl _)⟩
  rw [filter_yes] at hD1
  have hp : l.map (fun i => V.int (EV.getD i.toNat 0)) = iV (pick EV l) := by
    show _ = List.map V.int (List.map (fun i => EV.getD i.toNat 0) l)
    rw [List.map_map]
    rfl
  rw [hp] at hD1
  refine ⟨D, _, rfl, .inl ⟨SqL.of hD1, fun t ht => ?_⟩⟩
  have s2 := Same.new (o := .tup (iV (pick EV l))) ht
  have s12 := s1.trans s2
  have hq : SqT K (upd H1 t (.tup (iV (pick EV l)))) t (iV (pick EV l)) := SqT.of upd_same
  have lp : (pick EV l).length = l.length := List.length_map _
  generalize upd H1 t (.tup (iV (pick EV l))) = H2 at *
  refine ⟨_, rfl, b, rfl, ⟨_, tupSame s12 hb⟩, fun D2 hD2 => lc_ints (K := K) (a := b) (L := OD) (fun o => .int o) (fun o => made (pick EV l) (o + 1).toNat) hD2 (tupSame s12 hb) (by omega) (fun _ => rfl) (fun o H3 Q3 hm s q => ?_) (fun o H3 Q3 hm _ s q => ⟨_, rfl, q H3 (Same.refl _)⟩) fun H3 s3 hD3 => ?_⟩
  · have ho := hO.inn o hm
    refine ⟨_, rfl, _, _, rfl, rfl, _, rfl, t, pick EV l, o + 1, rfl, tupSame s hq, by omega, fun d hd => ?_, by omega, by omega, fun H4 s4 => ⟨_, rfl, q H4 s4⟩⟩
    have := hE.inn d (pick_mem (n := 0) hl hd)
    omega
  · refine ⟨D2, _, rfl, .inl (SqL.of hD3), _, rfl, c, _, rfl, .inr (tupSame (s12.trans s3) hc), _, _, rfl, rfl, ?_⟩
    have q := k H3 (s12.trans s3)
    unfold bars at q
    rw [List.length_map, List.length_map]
    show Q (.bl (decide (((OD.filter fun o => made (pick EV l) (o + 1).toNat).length : Int) < (l.length : Int)))) H3
    rw [show decide (((OD.filter fun o => made (pick EV l) (o + 1).toNat).length : Int) < (l.length : Int)) = decide ((OD.filter fun o => made (pick EV l) (o + 1).toNat).length < l.length) from decide_eq_decide.mpr (by omega)]
    exact q
theorem ok_barring {f : Addr} {fd : FuncData} (F : Fun K "_barring" "_barring" sBarring f fd) (T : Txt K mg) (gL : mg "_lots" = some (.ref fL)) (kL : PySem.W.keepIn K (.ref fL) = true) (bL : Binds K dL ["size"] []) (FL : FnOk P w K mg base CX0 1 fL dL ["size"] (spLots K))
    (gB : mg "_does_bar" = some (.ref fB)) (kB : PySem.W.keepIn K (.ref fB) = true) (bB : Binds K dB ["evens", "odds", "lot"] []) (B : FnOk P w K mg base CX0 2 fB dB ["evens", "odds", "lot"] (spBar K)) : FnOk P w K mg base CX0 3 f fd ["evens", "odds"] (spBarring K) := by
  refine F.ok scBarring (fun vs H Q E h => ?_) (fun cdv A outer s H vs Q E hr h => ?_)
  · obtain ⟨a, b, E', O, rfl, _⟩ := h; rfl
  obtain ⟨a, b, EV, OD, rfl, ha, hE, hb, hO, k⟩ := h
  have hr1 : Room 1 _ := hr.mono (by decide)
  refine ⟨_, pss_one (ps_ret (pe_callTy call_tuple_of (by rfl) T.tuple bootTuple (pa_cons (pe_lc (own := [("lot", 2)]) (g := gName 2) rfl scBarring.nd (pi_list (pe_call FL hr1 (by rfl) gL kL bL .nil pass0 (pa_cons (pe_callB call_len_seq (by rfl) T.len PySem.boot_len (pa_cons (pv 0) pa_nil)) pa_nil))) (blkOk_by (N := ["evens", "odds", "lot"]) (sc := defScope sBarring) (by decide +kernel))
        (fun _ _ _ _ _ => pg_name (i := 2) scBarring.nd rfl (Or.inl rfl)) (fun _ _ _ _ _ => pts_one (pt_val (pe_call B hr (by rfl) gB kB bB .nil pass0 (by exact (pa_cons (pv 0) (pa_cons (pv 1) (pa_cons (pv 2) pa_nil))))))) (fun _ _ _ _ _ => pv 2)) pa_nil))), ?_⟩
  have le := hE.len
  refine ⟨_, rfl, a, _, rfl, .inr ha, (EV.length : Int), by rw [List.length_map]; rfl, by omega, by omega, fun H1 p ys s1 hp0 hp1 tv => ?_⟩
  rw [show ((EV.length : Int)).toNat = EV.length by omega] at tv
  refine ⟨p, rfl, ⟨_, SqL.of hp1⟩, fun D hD => lc_tupsL (K := K) (a := p) (g := id) (p := bars EV OD) hD hp1 tv ?_ (fun _ => rfl) (fun t l H2 Q2 hm hT s q => ?_) (fun t l H2 Q2 hm hT _ s q => ⟨_, rfl, q H2 t (Same.refl _) hT⟩) fun H2 zs s2 hD2 tv2 => ?_⟩
  · unfold lotsOf
    rw [(srt_perm _).length_eq, List.length_tail, pow_len]
    have : 2 ^ EV.length ≤ 2 ^ 6 := Nat.pow_le_pow_right (by decide) le
    omega
  · have hs := s1.trans s
    exact ⟨_, rfl, _, rfl, _, rfl, a, b, t, EV, OD, l, rfl, tupSame hs ha, hE, tupSame hs hb, hO, hT, (mem_lots.mp hm).2, fun H3 s3 => ⟨_, rfl, q H3 s3⟩⟩
  · rw [List.map_id] at tv2
    refine ⟨D, _, rfl, .inl ⟨SqL.of hD2, fun t ht => ?_⟩⟩
    have s3 := Same.new (o := .tup zs) ht
    exact k _ t zs (s1.trans (s2.trans s3)) upd_same (tv_mono tv2 s3)
theorem ok_barlots {f : Addr} {fd : FuncData} (F : Fun K "barring_lots" "barring_lots" sBarLots f fd) (gC : mg "_check_degrees" = some (.ref fC)) (kC : PySem.W.keepIn K (.ref fC) = true) (bC : Binds K dC ["evens", "odds"] []) (C : FnOk P w K mg base CX0 5 fC dC ["evens", "odds"] (spChkD K))
    (gB : mg "_barring" = some (.ref fB)) (kB : PySem.W.keepIn K (.ref fB) = true) (bB : Binds K dB ["evens", "odds"] []) (B : FnOk P w K mg base CX0 3 fB dB ["evens", "odds"] (spBarring K)) : FnOk P w K mg base CX0 6 f fd ["evens", "odds"] (spBarring K) := by
  refine F.ok scBarLots (fun vs H Q E h => ?_) (fun cdv A outer s H vs Q E hr h => ?_)
  · obtain ⟨a, b, E', O, rfl, _⟩ := h; rfl
  obtain ⟨a, b, EV, OD, rfl, ha, hE, hb, hO, k⟩ := h
  have hr3 : Room 3 _ := hr.mono (by decide)
  refine ⟨_, pss_cons (ps_expr (pe_call C hr (by rfl) gC kC bC .nil pass0 (pa_cons (pv 0) (pa_cons (pv 1) pa_nil)))) (pss_one (ps_ret (pe_call B hr3 (by rfl) gB kB bB .nil pass0 (pa_cons (pv 0) (pa_cons (pv 1) pa_nil))))), ?_⟩
  exact ⟨_, rfl, _, rfl, a, b, EV, OD, rfl, ha, hE, hb, hO, fun H1 s1 => ⟨_, rfl, _, rfl, a, b, EV, OD, rfl, tupSame s1 ha, hE, tupSame s1 hb, hO, fun H2 p ys s2 hp tv => k H2 p ys (s1.trans s2) hp tv⟩⟩
theorem ok_canend {f : Addr} {fd : FuncData} (F : Fun K "can_end" "can_end" sCanEnd f fd) (T : Txt K mg) (gC : mg "_check_degrees" = some (.ref fC)) (kC : PySem.W.keepIn K (.ref fC) = true) (bC : Binds K dC ["evens", "odds"] []) (C : FnOk P w K mg base CX0 5 fC dC ["evens", "odds"] (spChkD K))
    (gB : mg "_barring" = some (.ref fB)) (kB : PySem.W.keepIn K (.ref fB) = true) (bB : Binds K dB ["evens", "odds"] []) (B : FnOk P w K mg base CX0 3 fB dB ["evens", "odds"] (spBarring K)) : FnOk P w K mg base CX0 6 f fd ["evens", "odds"] (spCanEnd K) := by
  refine F.ok scCanEnd (fun vs H Q E h => ?_) (fun cdv A outer s H vs Q E hr h => ?_)
  · obtain ⟨a, b, E', O, rfl, _⟩ := h; rfl
  obtain ⟨a, b, EV, OD, rfl, ha, hE, hb, hO, k⟩ := h
  have hr3 : Room 3 _ := hr.mono (by decide)
  refine ⟨_, pss_cons (ps_expr (pe_call C hr (by rfl) gC kC bC .nil pass0 (pa_cons (pv 0) (pa_cons (pv 1) pa_nil)))) (pss_one (ps_ret (pe_cmpR op_eq (pe_callB call_len_seq (by rfl) T.len PySem.boot_len (pa_cons (pe_call B hr3 (by rfl) gB kB bB .nil pass0 (pa_cons (pv 0) (pa_cons (pv 1) pa_nil))) pa_nil)) pe_int (nomark _)))), ?_⟩
  refine ⟨_, rfl, _, rfl, a, b, EV, OD, rfl, ha, hE, hb, hO, fun H1 s1 => ⟨_, rfl, _, rfl, a, b, EV, OD, rfl, tupSame s1 ha, hE, tupSame s1 hb, hO, fun H2 p ys s2 hp tv => ⟨p, ys, rfl, .inr (SqT.of hp), rfl, ?_⟩⟩⟩
  have q := k H2 (s1.trans s2)
  rw [dInt, tv_len tv]
  rw [show decide (((barring EV OD).length : Int) = 0) = decide (barring EV OD = []) from decide_eq_decide.mpr (by rw [← List.length_eq_zero_iff]; omega)]
  exact q
theorem ok_ismade {f : Addr} {fd : FuncData} (F : Fun K "is_made" "is_made" sIsMade f fd) (T : Txt K mg) (gC : mg "check_between" = some (.ref fC)) (kC : PySem.W.keepIn K (.ref fC) = true) (bC : Binds K dC ["value", "least", "most"] []) (C : FnOk P w K mg base CX0 4 fC dC ["value", "least", "most"] (spChkB K))
    (gD : mg "_is_degrees" = some (.ref fD)) (kD : PySem.W.keepIn K (.ref fD) = true) (bD : Binds K dD ["value", "many", "least", "most"] []) (FD : FnOk P w K mg base CX0 4 fD dD ["value", "many", "least", "most"] (spIsDeg K))
    (gS : mg "_is_sum_of_two" = some (.ref fS)) (kS : PySem.W.keepIn K (.ref fS) = true) (bS : Binds K dS ["number", "degrees"] []) (S : FnOk P w K mg base CX0 1 fS dS ["number", "degrees"] (spSumTwo K)) : FnOk P w K mg base CX0 5 f fd ["number", "degrees"] (spMade K) := by
  refine F.ok scIsMade (fun vs H Q E h => ?_) (fun cdv A outer s H vs Q E hr h => ?_)
  · obtain ⟨a, D, n, rfl, _⟩ := h; rfl
  obtain ⟨a, D, n, rfl, ha, ln, hD, h0, h1, k⟩ := h
  have hr1 : Room 1 _ := hr.mono (by decide)
  obtain ⟨t1, m1⟩ := T.cMOSTMADE
  obtain ⟨t2, m2⟩ := T.cMAXEVENS
  obtain ⟨t3, m3⟩ := T.cMAXLETTER
  refine ⟨_, pss_cons (ps_expr (pe_call C hr (by rfl) gC kC bC .nil pass0 (pa_cons (pv 0) (pa_cons pe_int (pa_cons (pe_glob (v := .int 1000) (by rfl) m1 ⟨_, rfl⟩) pa_nil)))))
    (pss_cons (ps_if (pt_not (pt_val (pe_call FD hr (by rfl) gD kD bD .nil pass0 (pa_cons (pv 1) (pa_cons (pe_glob (v := .int 6) (by rfl) m2 ⟨_, rfl⟩) (pa_cons pe_int (pa_cons (pe_glob (v := .int 40) (by rfl) m3 ⟨_, rfl⟩) pa_nil))))))) pss_never pss_nil)
    (pss_one (ps_ret (pe_call S hr1 (by rfl) gS kS bS .nil pass0 (pa_cons (pv 0) (pa_cons (pv 1) pa_nil)))))), ?_⟩
  refine ⟨_, rfl, n, 0, 1000, rfl, h0, h1, h0, h1, _, rfl, a, D, 6, 1, 40, rfl, ha, by omega, by omega, by decide, by decide, hD, fun H1 s1 => ⟨_, rfl, iteF ⟨_, rfl, _, rfl, a, D, n, rfl, tupSame s1 ha, by omega, fun d hd => ?_, h0, h1, fun H2 s2 => k H2 (s1.trans s2)⟩⟩⟩
  have := hD d hd
  omega
end
end K9
namespace K9
open PySem PySem.Spec PyProof.Rows L2 RZ
/-! ### tuples of ints within bounds -/
inductive TupIs (K : PySem.W.Frag) (H : Hp) (n : Nat) (lo hi : Int) : V → Bool → Prop
  | non : TupIs K H n lo hi .non false
  | bl (b : Bool) : TupIs K H n lo hi (.bl b) false
  | int (i : Int) : TupIs K H n lo hi (.int i) false
  | str (z : Str) : TupIs K H n lo hi (.str z) false
  | lst {a : Addr} {xs : List V} (h : H a = some (.lst xs)) : TupIs K H n lo hi (.ref a) false
  | dic {a : Addr} {kvs : List (Key × V)} (h : H a = some (.dK kvs)) : TupIs K H n lo hi (.ref a) false
  | long {a : Addr} {xs : List V} (h : SqT K H a xs) (l : n < xs.length) : TupIs K H n lo hi (.ref a) false
  | tup {a : Addr} {xs : List V} (h : SqT K H a xs) (l : xs.length ≤ n) (v : ∀ x ∈ xs, Vk K H x) : TupIs K H n lo hi (.ref a) (xs.all fun x => betw x lo hi)

theorem TupIs.mono {K : PySem.W.Frag} {H H' : Hp} {n : Nat} {lo hi : Int} {x : V} {b : Bool} (h : TupIs K H n lo hi x b) (s : Same H H') : TupIs K H' n lo hi x b := by
  cases h with
  | non => exact .non
  | bl b => exact .bl b
  | int i => exact .int i
  | str z => exact .str z
  | lst h => exact .lst (s _ _ h)
  | dic h => exact .dic (s _ _ h)
  | long h n => exact .long (tupSame s h) n
  | tup h n v => exact .tup (tupSame s h) n fun y hy => (v y hy).mono s
/-- a value that is no tuple of some ints within the bounds, or one, with the parity p or not -/
inductive DegIs (K : PySem.W.Frag) (H : Hp) (n : Nat) (lo hi p : Int) : V → Bool → Prop
  | no {x : V} (h : TupIs K H n lo hi x false) : DegIs K H n lo hi p x false
  | tup {a : Addr} {L : List Int} (h : SqT K H a (iV L)) (l : L.length ≤ n) (inn : ∀ d ∈ L, lo ≤ d ∧ d ≤ hi) : DegIs K H n lo hi p (.ref a) (L.all fun d => decide (d % 2 = p))
theorem DegIs.mono {K : PySem.W.Frag} {H H' : Hp} {n : Nat} {lo hi p : Int} {x : V} {b : Bool} (h : DegIs K H n lo hi p x b) (s : Same H H') : DegIs K H' n lo hi p x b := by
  cases h with
  | no h => exact .no (h.mono s)
  | tup h l inn => exact .tup (tupSame s h) l inn
theorem all_betw {lo hi : Int} (h0 : 0 ≤ lo) (h1 : hi ≤ 1000) : ∀ {L : List Int}, (∀ d ∈ L, lo ≤ d ∧ d ≤ hi) → ((iV L).all fun x => betw x lo hi) = true
  | [], _ => rfl
  | d :: L, h => by
    have e : ((iV (d :: L)).all fun x => betw x lo hi) = (betw (.int d) lo hi && (iV L).all fun x => betw x lo hi) := rfl
    have hd := h d List.mem_cons_self
    rw [e, betw_small (by omega) (by omega) hd.1 hd.2, all_betw h0 h1 fun x hx => h x (List.mem_cons_of_mem _ hx)]
    rfl
theorem tupIs_ints {K : PySem.W.Frag} {H : Hp} {n : Nat} {lo hi : Int} {a : Addr} {L : List Int} (h0 : 0 ≤ lo) (h1 : hi ≤ 1000) (h : SqT K H a (iV L)) (l : L.length ≤ n) (inn : ∀ d ∈ L, lo ≤ d ∧ d ≤ hi) : TupIs K H n lo hi (.ref a) true := by
  have q : TupIs K H n lo hi (.ref a) ((iV L).all fun x => betw x lo hi) := .tup h (by rw [List.length_map]; exact l) fun x hx => by
    obtain ⟨i, _, rfl⟩ := List.mem_map.mp hx
    exact .int i
  rw [all_betw h0 h1 inn] at q
  exact q
def spIsDegB (K : PySem.W.Frag) : Sp := fun vs H Q _ => ∃ (x : V) (n : Nat) (lo hi : Int) (b : Bool), vs = [x, .int n, .int lo, .int hi] ∧ TupIs K H n lo hi x b ∧ n ≤ 100 ∧ ∀ H', Same H H' → Q (.bl b) H'
def spChkDE (K : PySem.W.Frag) (C : Addr) : Sp := fun vs H Q E => ∃ (x y : V) (bx bY : Bool), vs = [x, y] ∧ DegIs K H 6 2 40 0 x bx ∧ (bx = true → DegIs K H 10 3 40 1 y bY) ∧ ((bx && bY) = false → NilE E C H) ∧ ((bx && bY) = true → ∀ H', Same H H' → Q .non H')
/-- degrees that are none -/
def spBadD (K : PySem.W.Frag) (C : Addr) : Sp := fun vs H _ E => ∃ (x y : V) (bx bY : Bool), vs = [x, y] ∧ DegIs K H 6 2 40 0 x bx ∧ (bx = true → DegIs K H 10 3 40 1 y bY) ∧ (bx && bY) = false ∧ NilE E C H
def spBadD3 (K : PySem.W.Frag) (C : Addr) : Sp := fun vs H _ E => ∃ (x y z : V) (bx bY : Bool), vs = [x, y, z] ∧ DegIs K H 6 2 40 0 x bx ∧ (bx = true → DegIs K H 10 3 40 1 y bY) ∧ (bx && bY) = false ∧ NilE E C H
/-- a number that is none, degrees that are none -/
def spMadeN (K : PySem.W.Frag) (N : Addr) : Sp := fun vs H _ E => ∃ (x y : V), vs = [x, y] ∧ Vk K H x ∧ betw x 0 1000 = false ∧ NumE E N x H
def spMadeL (K : PySem.W.Frag) (C : Addr) : Sp := fun vs H _ E => ∃ (x y : V), vs = [x, y] ∧ Vk K H x ∧ betw x 0 1000 = true ∧ TupIs K H 6 1 40 y false ∧ NilE E C H
section
variable {P : Program} {w : World} {K : PySem.W.Frag} {mg : Str → Option Value} {base : Heap} {C N i0 fB fD fC : Addr} {dB dD dC : FuncData}
theorem ok_isdegB {f : Addr} {fd : FuncData} (F : Fun K "_is_degrees" "_is_degrees" sIsDeg f fd) (T : Txt K mg) (gB : mg "is_between" = some (.ref fB)) (kB : PySem.W.keepIn K (.ref fB) = true) (bB : Binds K dB ["value", "least", "most"] [])
    (B : FnOk P w K mg base CX0 3 fB dB ["value", "least", "most"] (spBetw K)) : FnOk P w K mg base CX0 4 f fd ["value", "many", "least", "most"] (spIsDegB K) := by
  refine F.ok scIsDeg (fun vs H Q E h => ?_) (fun cdv A outer s H vs Q E hr h => ?_)
  · obtain ⟨x, n, lo, hi, b, rfl, _⟩ := h; rfl
  obtain ⟨x, n, lo, hi, b, rfl, hy, ln, k⟩ := h
  refine ⟨_, pss_cons (ps_if (PW.pt (pw_or (pt_not (pt_val (pe_callB call_isi (by rfl) T.isi bootIsi (pa_cons (pv 0) (pa_cons (pe_bltn (v := .ty "tuple") (by rfl) T.tuple bootTuple rfl) pa_nil)))))
        (pw_or1 (pt_cmpR op_gt (pe_callB call_len_seq (by rfl) T.len PySem.boot_len (pa_cons (pv 0) pa_nil)) (pv 1) (nomark _))))) (pss_one (ps_ret pe_bl)) pss_nil)
    (pss_one (ps_ret (pe_callB (cr_all rfl) (by rfl) T.all bootAll (pa_cons (pe_lc (own := [("degree", 4)]) (g := gName 4) rfl scIsDeg.nd (pi_tup (pv 0)) (blkOk_by (N := ["value", "many", "least", "most", "degree"]) (sc := defScope sIsDeg) (by decide +kernel)) (fun _ _ _ _ _ => pg_name (i := 4) scIsDeg.nd rfl (Or.inl rfl)) (fun _ _ _ _ _ => pts_nil)
      (fun _ _ _ _ _ => pe_call B hr (by rfl) gB kB bB .nil pass0 (by exact (pa_cons (pv 4) (pa_cons (pv 2) (pa_cons (pv 3) pa_nil)))))) pa_nil)))), ?_⟩
  have no := fun z : b = false => (by rw [z] at k; exact k H (Same.refl H) : Q (.bl false) H)
  cases hy with
  | non => exact ⟨_, rfl, _, _, _, _, false, rfl, .ty "tuple", .base .non, kit_ty (by decide +kernel), _, rfl, iteT (iteT (no rfl))⟩
  | bl b => exact ⟨_, rfl, _, _, _, _, false, rfl, .ty "tuple", .base (.bl _), kit_ty (by decide +kernel), _, rfl, iteT (iteT (no rfl))⟩
  | int i => exact ⟨_, rfl, _, _, _, _, false, rfl, .ty "tuple", .base (.int _), kit_ty (by decide +kernel), _, rfl, iteT (iteT (no rfl))⟩
  | str z => exact ⟨_, rfl, _, _, _, _, false, rfl, .ty "tuple", .base (.str _), kit_ty (by decide +kernel), _, rfl, iteT (iteT (no rfl))⟩
  | lst h => exact ⟨_, rfl, _, _, _, _, false, rfl, .ty "tuple", .base (.lst h), kit_ty (by decide +kernel), _, rfl, iteT (iteT (no rfl))⟩
  | dic h => exact ⟨_, rfl, _, _, _, _, false, rfl, .ty "tuple", .base (.dK h), kit_ty (by decide +kernel), _, rfl, iteT (iteT (no rfl))⟩
  | @long a' xs h l =>
    refine ⟨_, rfl, _, _, _, _, true, rfl, .ty "tuple", tyT h, kit_ty (by decide +kernel), _, rfl, iteF ⟨_, rfl, _, _, rfl, .inr h, _, rfl, _, _, rfl, rfl, _, rfl, ?_⟩⟩
    rw [decide_eq_true (by omega)]
    exact iteT (no rfl)
  | @tup a' xs h l v =>
    refine ⟨_, rfl, _, _, _, _, true, rfl, .ty "tuple", tyT h, kit_ty (by decide +kernel), _, rfl, iteF ⟨_, rfl, _, _, rfl, .inr h, _, rfl, _, _, rfl, rfl, _, rfl, ?_⟩⟩
    rw [decide_eq_false (by omega)]
    refine iteF ⟨_, rfl, a', rfl, ⟨_, h⟩, fun D hD => ?_⟩
    refine lc_tup1 (xs := xs) (fun y => .bl (betw y lo hi)) hD h (by omega) (fun _ => rfl) (fun n y H1 Q1 hy s1 h1 => ?_) fun H1 s1 hD1 => ?_
    · exact ⟨_, rfl, _, rfl, _, rfl, y, lo, hi, rfl, (v y (List.mem_of_getElem? hy)).mono s1, h1 H1 (Same.refl H1)⟩
    · refine ⟨D, xs.map fun y => betw y lo hi, rfl, SqL.of (by rw [hD1, List.map_map]; rfl), ?_⟩
      rw [List.all_map]
      exact k H1 s1
theorem par_any {p q : Int} (h : ∀ d : Int, d % 2 = p ↔ ¬ d % 2 = q) : ∀ L : List Int, (L.map fun d => decide (d % 2 = q)).any id = !(L.all fun d => decide (d % 2 = p))
  | [] => rfl
  | d :: L => by
    rw [List.map_cons, List.any_cons, List.all_cons, par_any h L, Bool.not_and]
    congr 1
    by_cases c : d % 2 = q
    · rw [decide_eq_true c, decide_eq_false (fun z => (h d).mp z c)]; rfl
    · rw [decide_eq_false c, decide_eq_true ((h d).mpr c)]; rfl
theorem ok_chkdE {f : Addr} {fd : FuncData} (F : Fun K "_check_degrees" "_check_degrees" sChkD f fd) (T : Txt K mg) (ER : ErrTxt K mg "InvalidLetters" C) (gD : mg "_is_degrees" = some (.ref fD)) (kD : PySem.W.keepIn K (.ref fD) = true) (bD : Binds K dD ["value", "many", "least", "most"] [])
    (FD : FnOk P w K mg base CX0 4 fD dD ["value", "many", "least", "most"] (spIsDegB K)) : FnOk P w K mg base (L2.CX P w) 5 f fd ["evens", "odds"] (spChkDE K C) := by
  refine F.okX scChkD (fun vs H Q E h => ?_) (fun cdv A outer s H vs Q E hr h => ?_)
  · obtain ⟨x, y, bx, bY, rfl, _⟩ := h; rfl
  obtain ⟨x, y, bx, bY, rfl, hx, hy, k0, k1⟩ := h
  obtain ⟨t1, m1⟩ := T.cMAXEVENS
  obtain ⟨t2, m2⟩ := T.cMAXLETTER
  obtain ⟨t3, m3⟩ := T.cMAXODDS
  refine ⟨_, pss_cons (ps_if (PW.pt (pw_or (pt_not (pt_val (pe_call FD hr (by rfl) gD kD bD .nil pass0 (pa_cons (pv 0) (pa_cons (pe_glob (v := .int 6) (by rfl) m1 ⟨_, rfl⟩) (pa_cons pe_int (pa_cons (pe_glob (v := .int 40) (by rfl) m2 ⟨_, rfl⟩) pa_nil)))))))
        (pw_or1 (pt_val (pe_callB (cr_any rfl) (by rfl) T.any bootAny (pa_cons (pe_lc (own := [("degree", 2)]) (g := gName 2) rfl scChkD.nd (pi_tup (pv 0)) (blkOk_by (N := ["evens", "odds", "degree"]) (sc := defScope sChkD) (by decide +kernel)) (fun _ _ _ _ _ => pg_name (i := 2) scChkD.nd rfl (Or.inl rfl)) (fun _ _ _ _ _ => pts_nil)
          (fun _ _ _ _ _ => pe_cmpR op_eq (pe_op op_mod (pv 2) pe_int) pe_int (nomark _))) pa_nil)))))) (pss_one (ps_raise (W := fun cls d _ H => E cls d H) rfl (takes_of rfl rfl rfl rfl) (pmk_own PySem.F.excBase_ValueError ER.made ER.named ER.keepC (raises_own ER.isExc ER.isCls) (by rfl)))) pss_nil)
    (pss_one (ps_if (PW.pt (pw_or (pt_not (pt_val (pe_call FD hr (by rfl) gD kD bD .nil pass0 (pa_cons (pv 1) (pa_cons (pe_glob (v := .int 10) (by rfl) m3 ⟨_, rfl⟩) (pa_cons pe_int (pa_cons (pe_glob (v := .int 40) (by rfl) m2 ⟨_, rfl⟩) pa_nil)))))))
        (pw_or1 (pt_val (pe_callB (cr_any rfl) (by rfl) T.any bootAny (pa_cons (pe_lc (own := [("degree", 2)]) (g := gName 2) rfl scChkD.nd (pi_tup (pv 1)) (blkOk_by (N := ["evens", "odds", "degree"]) (sc := defScope sChkD) (by decide +kernel)) (fun _ _ _ _ _ => pg_name (i := 2) scChkD.nd rfl (Or.inl rfl)) (fun _ _ _ _ _ => pts_nil)
          (fun _ _ _ _ _ => pe_cmpR op_eq (pe_op op_mod (pv 2) pe_int) pe_int (nomark _))) pa_nil)))))) (pss_one (ps_raise (W := fun cls d _ H => E cls d H) rfl (takes_of rfl rfl rfl rfl) (pmk_own PySem.F.excBase_ValueError ER.made ER.named ER.keepC (raises_own ER.isExc ER.isCls) (by rfl)))) pss_nil)), ?_⟩
  cases hx with
  | no hx => exact ⟨_, rfl, x, 6, 2, 40, false, rfl, hx, by decide, fun H1 s1 => ⟨_, rfl, iteT (iteT ((k0 rfl) H1 s1))⟩⟩
  | @tup a L ha ll inn =>
    refine ⟨_, rfl, .ref a, 6, 2, 40, true, rfl, tupIs_ints (by decide) (by decide) ha ll inn, by decide, fun H1 s1 => ⟨_, rfl, iteF ⟨_, rfl, a, rfl, ⟨_, tupSame s1 ha⟩, fun D hD => lc_ints (K := K) (a := a) (L := L) (fun d => .bl (decide (d % 2 = 1))) (fun _ => true) hD (tupSame s1 ha) (by omega) (fun _ => rfl) (fun d H2 Q hm s q => q H2 (Same.refl _)) (fun d H2 Q hm _ s q => ?_) fun H2 s2 hD2 => ?_⟩⟩⟩
    · refine ⟨_, rfl, _, _, rfl, rfl, (by show (0 : Int) < 2; decide), rfl, ?_⟩
      rw [dInt]
      exact q H2 (Same.refl _)
    have s12 := s1.trans s2
    refine ⟨D, L.map fun d => decide (d % 2 = 1), rfl, SqL.of (by rw [hD2, filter_yes, List.map_map]; rfl), _, rfl, ?_⟩
    rw [par_any (p := 0) (q := 1) (fun d => by omega)]
    cases eb : L.all fun d => decide (d % 2 = 0) with
    | false =>
      rw [eb] at k0
      exact iteT (k0 rfl H2 s12)
    | true =>
      rw [eb] at k0 k1
      refine iteF ?_
      cases hy eb with
      | no hz => exact ⟨_, rfl, y, 10, 3, 40, false, rfl, hz.mono s12, by decide, fun H3 s3 => ⟨_, rfl, iteT (iteT ((k0 rfl) H3 (s12.trans s3)))⟩⟩
      | @tup b M hb lm inm =>
        refine ⟨_, rfl, .ref b, 10, 3, 40, true, rfl, tupIs_ints (by decide) (by decide) (tupSame s12 hb) lm inm, by decide, fun H3 s3 => ⟨_, rfl, iteF ⟨_, rfl, b, rfl, ⟨_, tupSame (s12.trans s3) hb⟩, fun D' hD' => lc_ints (K := K) (a := b) (L := M) (fun d => .bl (decide (d % 2 = 0))) (fun _ => true) hD' (tupSame (s12.trans s3) hb) (by omega) (fun _ => rfl) (fun d H2 Q hm s q => q H2 (Same.refl _)) (fun d H2 Q hm _ s q => ?_) fun H4 s4 hD4 => ?_⟩⟩⟩
        · refine ⟨_, rfl, _, _, rfl, rfl, (by show (0 : Int) < 2; decide), rfl, ?_⟩
          rw [dInt]
          exact q H2 (Same.refl _)
        have s34 := s12.trans (s3.trans s4)
        refine ⟨D', M.map fun d => decide (d % 2 = 0), rfl, SqL.of (by rw [hD4, filter_yes, List.map_map]; rfl), _, rfl, ?_⟩
        rw [par_any (p := 1) (q := 0) (fun d => by omega)]
        cases em : M.all fun d => decide (d % 2 = 1) with
        | false =>
          rw [em] at k0
          exact iteT (k0 rfl H4 s34)
        | true =>
          rw [em] at k1
          exact iteF (k1 rfl H4 s34)
end
end K9
namespace K9
open PySem PySem.Spec PyProof.Rows L2 RZ
abbrev nBarL : List Str := ["evens", "odds"]
theorem scBarLE : FnScope ["evens", "odds"] ["evens", "odds"] (defScope sBarLots) := ⟨rfl, rfl, rfl, by decide +kernel, rfl, by decide +kernel, by decide +kernel⟩
theorem scCanEE : FnScope ["evens", "odds"] ["evens", "odds"] (defScope sCanEnd) := ⟨rfl, rfl, rfl, by decide +kernel, rfl, by decide +kernel, by decide +kernel⟩
theorem scChkLots : FnScope ["evens", "odds", "lots", "bound"] ["evens", "odds"] (defScope sCheckedLots) := ⟨rfl, rfl, rfl, by decide +kernel, rfl, by decide +kernel, by decide +kernel⟩
theorem scDegP : FnScope ["evens", "odds", "lots"] ["evens", "odds"] (defScope sDegreesPaper) := ⟨rfl, rfl, rfl, by decide +kernel, rfl, by decide +kernel, by decide +kernel⟩
theorem scIsDegP : FnScope ["evens", "odds", "value", "lots", "index"] ["evens", "odds", "value"] (defScope sIsDegreesPaper) := ⟨rfl, rfl, rfl, by decide +kernel, rfl, by decide +kernel, by decide +kernel⟩
theorem scMadeE : FnScope ["number", "degrees"] ["number", "degrees"] (defScope sIsMade) := ⟨rfl, rfl, rfl, by decide +kernel, rfl, by decide +kernel, by decide +kernel⟩
section
variable {P : Program} {w : World} {K : PySem.W.Frag} {mg : Str → Option Value} {base : Heap} {C N i0 fB fD fC : Addr} {dB dD dC : FuncData}
theorem ok_barlotsBad {f : Addr} {fd : FuncData} (F : Fun K "barring_lots" "barring_lots" sBarLots f fd) (gC : mg "_check_degrees" = some (.ref fC)) (kC : PySem.W.keepIn K (.ref fC) = true) (bC : Binds K dC ["evens", "odds"] [])
    (FC : FnOk P w K mg base (L2.CX P w) 5 fC dC ["evens", "odds"] (spChkDE K C)) : FnOk P w K mg base (L2.CX P w) 6 f fd ["evens", "odds"] (spBadD K C) := by
  refine F.okX scBarLE (fun vs H Q E h => ?_) (fun cdv A outer s H vs Q E hr h => ?_)
  · obtain ⟨x, y, bx, bY, rfl, _⟩ := h; rfl
  obtain ⟨x, y, bx, bY, rfl, hx, hy, e, k⟩ := h
  refine ⟨_, pss_cons (ps_expr (pe_call FC hr (by rfl) gC kC bC .nil (passes_call (E := E) (takes_of rfl rfl rfl rfl) (fun _ _ _ _ h => h)) (pa_cons (pv 0) (pa_cons (pv 1) pa_nil)))) pss_never, ?_⟩
  exact ⟨_, rfl, _, rfl, x, y, bx, bY, rfl, hx, hy, fun _ => k, fun z => absurd (e.symm.trans z) (by decide)⟩
theorem ok_canendBad {f : Addr} {fd : FuncData} (F : Fun K "can_end" "can_end" sCanEnd f fd) (gC : mg "_check_degrees" = some (.ref fC)) (kC : PySem.W.keepIn K (.ref fC) = true) (bC : Binds K dC ["evens", "odds"] [])
    (FC : FnOk P w K mg base (L2.CX P w) 5 fC dC ["evens", "odds"] (spChkDE K C)) : FnOk P w K mg base (L2.CX P w) 6 f fd ["evens", "odds"] (spBadD K C) := by
  refine F.okX scCanEE (fun vs H Q E h => ?_) (fun cdv A outer s H vs Q E hr h => ?_)
  · obtain ⟨x, y, bx, bY, rfl, _⟩ := h; rfl
  obtain ⟨x, y, bx, bY, rfl, hx, hy, e, k⟩ := h
  refine ⟨_, pss_cons (ps_expr (pe_call FC hr (by rfl) gC kC bC .nil (passes_call (E := E) (takes_of rfl rfl rfl rfl) (fun _ _ _ _ h => h)) (pa_cons (pv 0) (pa_cons (pv 1) pa_nil)))) pss_never, ?_⟩
  exact ⟨_, rfl, _, rfl, x, y, bx, bY, rfl, hx, hy, fun _ => k, fun z => absurd (e.symm.trans z) (by decide)⟩
theorem ok_chklotsBad {f : Addr} {fd : FuncData} (F : Fun K "_checked_lots" "_checked_lots" sCheckedLots f fd) (gC : mg "_check_degrees" = some (.ref fC)) (kC : PySem.W.keepIn K (.ref fC) = true) (bC : Binds K dC ["evens", "odds"] [])
    (FC : FnOk P w K mg base (L2.CX P w) 5 fC dC ["evens", "odds"] (spChkDE K C)) : FnOk P w K mg base (L2.CX P w) 6 f fd ["evens", "odds"] (spBadD K C) := by
  refine F.okX scChkLots (fun vs H Q E h => ?_) (fun cdv A outer s H vs Q E hr h => ?_)
  · obtain ⟨x, y, bx, bY, rfl, _⟩ := h; rfl
  obtain ⟨x, y, bx, bY, rfl, hx, hy, e, k⟩ := h
  refine ⟨_, pss_cons (ps_expr (pe_call FC hr (by rfl) gC kC bC .nil (passes_call (E := E) (takes_of rfl rfl rfl rfl) (fun _ _ _ _ h => h)) (pa_cons (pv 0) (pa_cons (pv 1) pa_nil)))) pss_never, ?_⟩
  exact ⟨_, rfl, _, rfl, x, y, bx, bY, rfl, hx, hy, fun _ => k, fun z => absurd (e.symm.trans z) (by decide)⟩
theorem ok_degpBad {f : Addr} {fd : FuncData} (F : Fun K "degrees_paper" "degrees_paper" sDegreesPaper f fd) (gC : mg "_checked_lots" = some (.ref fC)) (kC : PySem.W.keepIn K (.ref fC) = true) (bC : Binds K dC ["evens", "odds"] [])
    (FC : FnOk P w K mg base (L2.CX P w) 6 fC dC ["evens", "odds"] (spBadD K C)) : FnOk P w K mg base (L2.CX P w) 12 f fd ["evens", "odds"] (spBadD K C) := by
  refine F.okX scDegP (fun vs H Q E h => ?_) (fun cdv A outer s H vs Q E hr h => ?_)
  · obtain ⟨x, y, bx, bY, rfl, _⟩ := h; rfl
  obtain ⟨x, y, bx, bY, rfl, hx, hy, e, k⟩ := h
  refine ⟨_, pss_cons (ps_set (i := 2) scDegP.nd rfl (.inl rfl) (pe_call FC (hr.mono (by decide)) (by rfl) gC kC bC .nil (passes_call (E := E) (takes_of rfl rfl rfl rfl) (fun _ _ _ _ h => h)) (pa_cons (pv 0) (pa_cons (pv 1) pa_nil)))) pss_never, ?_⟩
  exact ⟨_, rfl, _, rfl, x, y, bx, bY, rfl, hx, hy, e, k⟩
theorem ok_isdegpBad {f : Addr} {fd : FuncData} (F : Fun K "is_degrees_paper" "is_degrees_paper" sIsDegreesPaper f fd) (gC : mg "_checked_lots" = some (.ref fC)) (kC : PySem.W.keepIn K (.ref fC) = true) (bC : Binds K dC ["evens", "odds"] [])
    (FC : FnOk P w K mg base (L2.CX P w) 6 fC dC ["evens", "odds"] (spBadD K C)) : FnOk P w K mg base (L2.CX P w) 12 f fd ["evens", "odds", "value"] (spBadD3 K C) := by
  refine F.okX scIsDegP (fun vs H Q E h => ?_) (fun cdv A outer s H vs Q E hr h => ?_)
  · obtain ⟨x, y, z, bx, bY, rfl, _⟩ := h; rfl
  obtain ⟨x, y, z, bx, bY, rfl, hx, hy, e, k⟩ := h
  refine ⟨_, pss_cons (ps_set (i := 3) scIsDegP.nd rfl (.inl rfl) (pe_call FC (hr.mono (by decide)) (by rfl) gC kC bC .nil (passes_call (E := E) (takes_of rfl rfl rfl rfl) (fun _ _ _ _ h => h)) (pa_cons (pv 0) (pa_cons (pv 1) pa_nil)))) pss_never, ?_⟩
  exact ⟨_, rfl, _, rfl, x, y, bx, bY, rfl, hx, hy, e, k⟩
theorem ok_madeN {f : Addr} {fd : FuncData} (F : Fun K "is_made" "is_made" sIsMade f fd) (T : Txt K mg) (gC : mg "check_between" = some (.ref fC)) (kC : PySem.W.keepIn K (.ref fC) = true) (bC : Binds K dC ["value", "least", "most"] [])
    (FC : FnOk P w K mg base (L2.CX P w) 4 fC dC ["value", "least", "most"] (spChkBE K N)) : FnOk P w K mg base (L2.CX P w) 5 f fd ["number", "degrees"] (spMadeN K N) := by
  refine F.okX scMadeE (fun vs H Q E h => ?_) (fun cdv A outer s H vs Q E hr h => ?_)
  · obtain ⟨x, y, rfl, _⟩ := h; rfl
  obtain ⟨x, y, rfl, hx, e, k⟩ := h
  obtain ⟨t1, m1⟩ := T.cMOSTMADE
  refine ⟨_, pss_cons (ps_expr (pe_call FC hr (by rfl) gC kC bC .nil (passes_call (E := E) (takes_of rfl rfl rfl rfl) (fun _ _ _ _ h => h)) (pa_cons (pv 0) (pa_cons pe_int (pa_cons (pe_glob (v := .int 1000) (by rfl) m1 ⟨_, rfl⟩) pa_nil))))) pss_never, ?_⟩
  exact ⟨_, rfl, x, 0, 1000, rfl, hx, fun _ => k, fun z => absurd (e.symm.trans z) (by decide)⟩
theorem ok_madeL {f : Addr} {fd : FuncData} (F : Fun K "is_made" "is_made" sIsMade f fd) (T : Txt K mg) (ER : ErrTxt K mg "InvalidLetters" C) (gC : mg "check_between" = some (.ref fC)) (kC : PySem.W.keepIn K (.ref fC) = true) (bC : Binds K dC ["value", "least", "most"] [])
    (FC : FnOk P w K mg base (L2.CX P w) 4 fC dC ["value", "least", "most"] (spChkBE K N)) (gD : mg "_is_degrees" = some (.ref fD)) (kD : PySem.W.keepIn K (.ref fD) = true) (bD : Binds K dD ["value", "many", "least", "most"] [])
    (FD : FnOk P w K mg base CX0 4 fD dD ["value", "many", "least", "most"] (spIsDegB K)) : FnOk P w K mg base (L2.CX P w) 5 f fd ["number", "degrees"] (spMadeL K C) := by
  refine F.okX scMadeE (fun vs H Q E h => ?_) (fun cdv A outer s H vs Q E hr h => ?_)
  · obtain ⟨x, y, rfl, _⟩ := h; rfl
  obtain ⟨x, y, rfl, hx, e, hy, k⟩ := h
  obtain ⟨t1, m1⟩ := T.cMOSTMADE
  obtain ⟨t2, m2⟩ := T.cMAXEVENS
  obtain ⟨t3, m3⟩ := T.cMAXLETTER
  refine ⟨_, pss_cons (ps_expr (pe_call FC hr (by rfl) gC kC bC .nil (passes_call (E := E) (takes_of rfl rfl rfl rfl) (fun _ _ _ _ h => h)) (pa_cons (pv 0) (pa_cons pe_int (pa_cons (pe_glob (v := .int 1000) (by rfl) m1 ⟨_, rfl⟩) pa_nil)))))
    (pss_cons (ps_if (pt_not (pt_val (pe_call FD hr (by rfl) gD kD bD .nil pass0 (pa_cons (pv 1) (pa_cons (pe_glob (v := .int 6) (by rfl) m2 ⟨_, rfl⟩) (pa_cons pe_int (pa_cons (pe_glob (v := .int 40) (by rfl) m3 ⟨_, rfl⟩) pa_nil)))))))
      (pss_one (ps_raise (W := fun cls d _ H => E cls d H) rfl (takes_of rfl rfl rfl rfl) (pmk_own PySem.F.excBase_ValueError ER.made ER.named ER.keepC (raises_own ER.isExc ER.isCls) (by rfl)))) pss_nil) pss_never), ?_⟩
  exact ⟨_, rfl, x, 0, 1000, rfl, hx, (fun z => absurd (e.symm.trans z) (by decide)), fun _ => ⟨_, rfl, y, 6, 1, 40, false, rfl, hy, by decide, fun H1 s1 => ⟨_, rfl, iteT (k H1 s1)⟩⟩⟩
end
end K9
namespace K9
open PySem PySem.Spec PyProof.Rows L2 RZ
def ManyE (E : XK) (M : Addr) (k : Int) (H : Hp) : Prop := ∀ H' d, Same H H' → H' d = none → E (.ref M) (some d) (upd H' d (.xd [(("limit" : Str), .int k)]))
theorem ManyE.mono {E : XK} {M : Addr} {k : Int} {H H1 : Hp} (h : ManyE E M k H) (s : Same H H1) : ManyE E M k H1 := fun H' d s' => h H' d (s.trans s')
/-! ### the greatest of a tuple -/
theorem maxOf_int (x : Int) (xs : List Int) : PySem.W.maxOf x xs ∈ x :: xs ∧ ∀ y ∈ x :: xs, y ≤ PySem.W.maxOf x xs := by
  unfold PySem.W.maxOf
  induction xs generalizing x with
  | nil => exact ⟨List.mem_cons_self, fun y hy => by rw [List.mem_singleton.mp hy]; exact Int.le_refl _⟩
  | cons a r ih =>
    rw [List.foldl_cons]
    by_cases c : x < a
    · have e : (if PySem.W.DatumOrd.lt x a = true then a else x) = a := if_pos (decide_eq_true c)
      rw [e]
      obtain ⟨h1, h2⟩ := ih a
      refine ⟨List.mem_cons_of_mem _ h1, fun y hy => ?_⟩
      have ha := h2 a List.mem_cons_self
      rcases List.mem_cons.mp hy with z | z
      · subst z; omega
      · exact h2 y z
    · have e : (if PySem.W.DatumOrd.lt x a = true then a else x) = x := if_neg (fun z => c (of_decide_eq_true z))
      rw [e]
      obtain ⟨h1, h2⟩ := ih x
      have hx := h2 x List.mem_cons_self
      refine ⟨?_, fun y hy => ?_⟩
      · rcases List.mem_cons.mp h1 with z | z
        · rw [z]; exact List.mem_cons_self
        · exact List.mem_cons_of_mem _ (List.mem_cons_of_mem _ z)
      · rcases List.mem_cons.mp hy with z | z
        · subst z; exact hx
        · rcases List.mem_cons.mp z with z | z
          · subst z; omega
          · exact h2 y (List.mem_cons_of_mem _ z)
def rMaxT (K : PySem.W.Frag) : List V → Hp → VK → Prop := fun vs H Q => ∃ (a : Addr) (x : Int) (xs : List Int), vs = [V.ref a] ∧ SqT K H a (iV (x :: xs)) ∧ Q (.int (PySem.W.maxOf x xs)) H
theorem cr_maxT {X : Cx} (hc : X.calm = true) (hu : X.A.units + 64 < cLine) : CallR X (.builtin "max") (rMaxT X.K) := by
  intro pins s σ H vs us Q I r h
  obtain ⟨a, x, xs, rfl, hs, q⟩ := h
  obtain ⟨its, rv, p, _⟩ := I.tuple hs
  rw [Vals.ref1 r]
  have hl : s.heap.IsTuple a its.toArray := p
  refine PySem.W.max_tuple_datum (α := Int) (x := x) (xs := xs) (I.ok.hd hc) hl (PySem.W.HoldAll.of_ints rv.ints) (by show X.A.units + 1 + 0 < cLine; omega) fun i v h' tk hi hh hk => ?_
  obtain ⟨t, rfl⟩ := PySem.W.int_of_holds hh
  exact ⟨.int _, H, I.kept hk, ⟨_, rfl⟩, q⟩
/-! ### what checked lots say -/
def bndI (L : List Int) : Int := (L.map fun d => if d % 2 = 1 then d else 1 - d).sum
def topI : List Int → Int
  | [] => 0
  | x :: xs => PySem.W.maxOf x xs
def anyOver (E : List Int) (lo n : Nat) (lim : Int) : Bool := (List.range n).any fun i => decide (lim < (cnt E (lo + i) : Int))
def spBound (K : PySem.W.Frag) : Sp := fun vs H Q _ => ∃ (a : Addr) (L : List Int), vs = [.ref a] ∧ SqT K H a (iV L) ∧ L.length ≤ 100 ∧ (∀ d ∈ L, -1000 ≤ d ∧ d ≤ 1000) ∧ ∀ H', Same H H' → Q (.int (bndI L)) H'
def spChkList (K : PySem.W.Frag) (M : Addr) : Sp := fun vs H Q E => ∃ (a l : Addr) (L : List Int) (lo n : Nat) (lim : Int), vs = [.ref a, .ref l, .int lim] ∧ SqT K H a (iV L) ∧ Lt L ∧ H l = some (.lst ((List.range n).map fun i => V.int ((lo : Int) + (i : Nat)))) ∧ lo + n ≤ 81 ∧ n ≤ 80 ∧
  (anyOver L lo n lim = true → ManyE E M lim H) ∧ (anyOver L lo n lim = false → ∀ H', Same H H' → Q .non H')
/-- how checked lots end: fine, or which limit is passed -/
def lotsEnd (E O : List Int) : Option Int :=
  if barring E O ≠ [] ∨ E = [] then none
  else if 80 < bndI (E ++ O) + topI E then some 80
  else if anyOver E (bndI (E ++ O) + 1).toNat (topI E).toNat 150 = true then some 150 else none
def spChkLots (K : PySem.W.Frag) (M : Addr) : Sp := fun vs H Q E => ∃ (a b : Addr) (EV OD : List Int), vs = [.ref a, .ref b] ∧ SqT K H a (iV EV) ∧ Ev EV ∧ SqT K H b (iV OD) ∧ Od OD ∧ (barring EV OD = [] → 0 ≤ bndI (EV ++ OD) + 1) ∧
  (∀ i, lotsEnd EV OD = some i → ManyE E M i H) ∧ (lotsEnd EV OD = none → ∀ (H' : Hp) (p : Addr) (ys : List V), Same H H' → H' p = some (.tup ys) → TupsV K H' ys (barring EV OD) → Q (.ref p) H')
theorem scBound : FnScope ["letters", "degree"] ["letters"] (defScope sBoundOf) := ⟨rfl, rfl, rfl, by decide +kernel, rfl, by decide +kernel, by decide +kernel⟩
theorem scChkList : FnScope ["letters", "degrees", "limit", "degree"] ["letters", "degrees", "limit"] (defScope sCheckListed) := ⟨rfl, rfl, rfl, by decide +kernel, rfl, by decide +kernel, by decide +kernel⟩
theorem ev_lt {E : List Int} (h : Ev E) : Lt E := ⟨by have := h.len; omega, fun d hd => by have := h.inn d hd; omega, fun d hd => (h.inn d hd).2⟩
section
variable {P : Program} {w : World} {K : PySem.W.Frag} {mg : Str → Option Value} {base : Heap} {C M i0 fC fB fL fN : Addr} {dC dB dL dN : FuncData}
theorem ok_bound {f : Addr} {fd : FuncData} (F : Fun K "bound_of" "bound_of" sBoundOf f fd) (T : Txt K mg) : FnOk P w K mg base CX0 1 f fd ["letters"] (spBound K) := by
  refine F.ok scBound (fun vs H Q E h => ?_) (fun cdv A outer s H vs Q E hr h => ?_)
  · obtain ⟨a, L, rfl, _⟩ := h; rfl
  obtain ⟨a, L, rfl, ha, hn, hL, k⟩ := h
  refine ⟨_, pss_one (ps_ret (pe_callB (cr_sum rfl) (by rfl) T.sum bootSum (pa_cons (pe_lc (own := [("degree", 1)]) (g := gName 1) rfl scBound.nd (pi_tup (pv 0)) (blkOk_by (N := ["letters", "degree"]) (sc := defScope sBoundOf) (by decide +kernel)) (fun _ _ _ _ _ => pg_name (i := 1) scBound.nd rfl (Or.inl rfl)) (fun _ _ _ _ _ => pts_nil)
      (fun _ _ _ _ _ => pe_ifExp (pt_cmpR op_eq (pe_op op_mod (pv 1) pe_int) pe_int (nomark _)) (pv 1) (pe_op op_sub pe_int (pv 1)))) pa_nil))), ?_⟩
  refine ⟨_, rfl, a, rfl, ⟨_, ha⟩, fun D hD => lc_ints (K := K) (a := a) (L := L) (fun d => .int (if d % 2 = 1 then d else 1 - d)) (fun _ => true) hD ha (by omega) (fun _ => rfl) (fun d H2 Q hm s q => q H2 (Same.refl _)) (fun d H2 Q hm _ s q => ?_) fun H2 s2 hD2 => ?_⟩
  · refine ⟨_, rfl, _, _, rfl, rfl, (by show (0 : Int) < 2; decide), rfl, _, rfl, ?_⟩
    rw [dInt]
    by_cases c : d % 2 = 1
    · rw [decide_eq_true c]
      rw [if_pos c] at q
      exact iteT ⟨_, rfl, q H2 (Same.refl _)⟩
    · rw [decide_eq_false c]
      rw [if_neg c] at q
      exact iteF ⟨_, rfl, _, _, rfl, rfl, q H2 (Same.refl _)⟩
  · exact ⟨D, L.map fun d => if d % 2 = 1 then d else 1 - d, rfl, SqL.of (by rw [hD2, filter_yes, List.map_map]; rfl), k H2 s2⟩
theorem ok_chklist {f : Addr} {fd : FuncData} (F : Fun K "check_listed" "check_listed" sCheckListed f fd) (T : Txt K mg) (EM : K9M.NumTxt K mg M i0) (gC : mg "count_words" = some (.ref fC)) (kC : PySem.W.keepIn K (.ref fC) = true) (bC : Binds K dC ["letters", "degree"] [])
    (FC : FnOk P w K mg base CX0 3 fC dC ["letters", "degree"] (spCount K)) : FnOk P w K mg base (L2.CX P w) 4 f fd ["letters", "degrees", "limit"] (spChkList K M) := by
  refine F.okX scChkList (fun vs H Q E h => ?_) (fun cdv A outer s H vs Q E hr h => ?_)
  · obtain ⟨a, l, L, lo, n, lim, rfl, _⟩ := h; rfl
  obtain ⟨a, l, L, lo, n, lim, rfl, ha, hL, hl, h81, hn, k1, k2⟩ := h
  refine ⟨_, pss_one (ps_if (pt_val (pe_callB (cr_any rfl) (by rfl) T.any bootAny (pa_cons (pe_lc (own := [("degree", 3)]) (g := gName 3) rfl scChkList.nd (pi_list (pv 1)) (blkOk_by (N := ["letters", "degrees", "limit", "degree"]) (sc := defScope sCheckListed) (by decide +kernel)) (fun _ _ _ _ _ => pg_name (i := 3) scChkList.nd rfl (Or.inl rfl)) (fun _ _ _ _ _ => pts_nil)
      (fun _ _ _ _ _ => pe_cmpR op_gt (pe_call FC hr (by rfl) gC kC bC .nil pass0 (by exact (pa_cons (pv 0) (pa_cons (pv 3) pa_nil)))) (pv 2) (nomark _))) pa_nil)))
      (pss_one (ps_raiseMany (W := fun cls d _ H => E cls d H) rfl EM hr (takes_of rfl rfl rfl rfl) (by exact (pa_cons (pv 2) pa_nil)))) pss_nil), ?_⟩
  have hl' : SqL K H l (iV ((List.range n).map fun i : Nat => ((lo : Int) + (i : Nat)))) := SqL.of (by rw [hl]; exact congrArg (fun x => some (HO.lst x)) (by show _ = List.map V.int _; rw [List.map_map]; rfl))
  refine ⟨_, rfl, l, rfl, ⟨_, hl'⟩, fun D hD => lc_intsL (K := K) (a := l) (L := (List.range n).map fun i : Nat => ((lo : Int) + (i : Nat))) (fun d => .bl (decide (lim < (cnt L d.toNat : Int)))) (fun _ => true) hD hl' (by rw [List.length_map, List.length_range]; omega) (fun _ => rfl) (fun d H2 Q hm s q => q H2 (Same.refl _)) (fun d H2 Q hm _ s q => ?_) fun H2 s2 hD2 => ?_⟩
  · obtain ⟨i, hi, rfl⟩ := List.mem_map.mp hm
    have hi := List.mem_range.mp hi
    refine ⟨_, rfl, _, rfl, a, L, lo + i, rfl, tupSame s ha, hL, by omega, fun H3 s3 => ⟨_, rfl, _, _, rfl, rfl, ?_⟩⟩
    have e : ((lo : Int) + (i : Nat)).toNat = lo + i := by omega
    rw [e] at q
    exact q H3 s3
  · have e : (((List.range n).map fun i : Nat => ((lo : Int) + (i : Nat))).map fun d => decide (lim < (cnt L d.toNat : Int))).any id = anyOver L lo n lim := by
      unfold anyOver
      rw [List.map_map, List.any_map]
      refine congrArg (fun q => (List.range n).any q) (funext fun i => ?_)
      show decide (lim < (cnt L ((lo : Int) + (i : Nat)).toNat : Int)) = _
      rw [show ((lo : Int) + (i : Nat)).toNat = lo + i from by omega]
    refine ⟨D, ((List.range n).map fun i : Nat => ((lo : Int) + (i : Nat))).map fun d => decide (lim < (cnt L d.toNat : Int)), rfl, SqL.of (by rw [hD2, filter_yes, List.map_map (g := V.bl)]; rfl), _, rfl, ?_⟩
    rw [e]
    cases c : anyOver L lo n lim with
    | true => exact iteT ⟨_, rfl, _, rfl, fun p hp => k1 c H2 p s2 hp⟩
    | false => exact iteF (k2 c H2 s2)
theorem bnd_app (E O : List Int) : bndI (E ++ O) = bndI E + bndI O := by unfold bndI; rw [List.map_append, List.sum_append]
theorem ok_chklots {f : Addr} {fd : FuncData} (F : Fun K "_checked_lots" "_checked_lots" sCheckedLots f fd) (T : Txt K mg) (EM : K9M.NumTxt K mg M i0) (gC : mg "_check_degrees" = some (.ref fC)) (kC : PySem.W.keepIn K (.ref fC) = true) (bC : Binds K dC ["evens", "odds"] [])
    (FC : FnOk P w K mg base CX0 5 fC dC ["evens", "odds"] (spChkD K)) (gB : mg "_barring" = some (.ref fB)) (kB : PySem.W.keepIn K (.ref fB) = true) (bB : Binds K dB ["evens", "odds"] []) (B : FnOk P w K mg base CX0 3 fB dB ["evens", "odds"] (spBarring K))
    (gN : mg "bound_of" = some (.ref fN)) (kN : PySem.W.keepIn K (.ref fN) = true) (bN : Binds K dN ["letters"] []) (FN : FnOk P w K mg base CX0 1 fN dN ["letters"] (spBound K))
    (gL : mg "check_listed" = some (.ref fL)) (kL : PySem.W.keepIn K (.ref fL) = true) (bL : Binds K dL ["letters", "degrees", "limit"] []) (FL : FnOk P w K mg base (L2.CX P w) 4 fL dL ["letters", "degrees", "limit"] (spChkList K M)) :
    FnOk P w K mg base (L2.CX P w) 6 f fd ["evens", "odds"] (spChkLots K M) := by
  refine F.okX scChkLots (fun vs H Q E h => ?_) (fun cdv A outer s H vs Q E hr h => ?_)
  · obtain ⟨a, b, EV, OD, rfl, _⟩ := h; rfl
  obtain ⟨a, b, EV, OD, rfl, ha, hE, hb, hO, h0, k1, k2⟩ := h
  obtain ⟨t1, m1⟩ := T.cMAXSHOWN
  obtain ⟨t2, m2⟩ := T.cMAXLISTED
  have hr1 : Room 1 _ := hr.mono (by decide)
  have hr3 : Room 3 _ := hr.mono (by decide)
  have hr4 : Room 4 _ := hr.mono (by decide)
  refine ⟨_, pss_cons (ps_expr (pe_call FC hr (by rfl) gC kC bC .nil pass0 (pa_cons (pv 0) (pa_cons (pv 1) pa_nil))))
    (pss_cons (ps_set (i := 2) scChkLots.nd rfl (.inl rfl) (pe_call B hr3 (by rfl) gB kB bB .nil pass0 (pa_cons (pv 0) (pa_cons (pv 1) pa_nil))))
    (pss_cons (ps_if (PW.pt (pw_and (pt_cmpR op_eq (pe_callB call_len_seq (by rfl) T.len PySem.boot_len (pa_cons (pv 2) pa_nil)) pe_int (nomark _)) (pw_and1 (pt_cmpR op_gt (pe_callB call_len_seq (by rfl) T.len PySem.boot_len (pa_cons (pv 0) pa_nil)) pe_int (nomark _)))))
      (pss_cons (ps_set (i := 3) scChkLots.nd rfl (.inl rfl) (pe_call FN hr1 (by rfl) gN kN bN .nil pass0 (pa_cons (pe_op op_catA (pv 0) (pv 1)) pa_nil)))
      (pss_cons (ps_if (pt_cmpR op_gt (pe_op op_add (pv 3) (pe_callB (cr_maxT rfl hr.units) (by rfl) T.max bootMax (pa_cons (pv 0) pa_nil))) (pe_glob (v := .int 80) (by rfl) m1 ⟨_, rfl⟩) (nomark _))
        (pss_one (ps_raiseMany (W := fun cls d _ H => E cls d H) rfl EM hr (takes_of rfl rfl rfl rfl) (by exact (pa_cons (pe_glob (v := .int 80) (by rfl) m1 ⟨_, rfl⟩) pa_nil)))) pss_nil)
      (pss_one (ps_expr (pe_call FL hr4 (by rfl) gL kL bL .nil (passes_call (E := E) (takes_of rfl rfl rfl rfl) (fun _ _ _ _ h => h)) (pa_cons (pv 0) (pa_cons (pe_listRg rfl (by rfl) T.list (prg_2 (by rfl) T.range (pe_op op_add (pv 3) pe_int) (pe_op op_add (pe_op op_add (pv 3) (pe_callB (cr_maxT rfl hr.units) (by rfl) T.max bootMax (pa_cons (pv 0) pa_nil))) pe_int))) (pa_cons (pe_glob (v := .int 150) (by rfl) m2 ⟨_, rfl⟩) pa_nil)))))))) pss_nil)
    (pss_one (ps_ret (pv 2))))), ?_⟩
  refine ⟨_, rfl, _, rfl, a, b, EV, OD, rfl, ha, hE, hb, hO, fun H1 s1 => ⟨_, rfl, _, rfl, a, b, EV, OD, rfl, tupSame s1 ha, hE, tupSame s1 hb, hO, fun H2 p ys s2 hp tv => ?_⟩⟩
  have s12 := s1.trans s2
  have ly := tv_len tv
  have hu := hE.len
  have ho := hO.len
  refine ⟨_, rfl, p, _, rfl, .inr (SqT.of hp), rfl, _, rfl, ?_⟩
  rw [dInt, ly, show decide (((barring EV OD).length : Int) = 0) = decide (barring EV OD = []) from decide_eq_decide.mpr (by rw [← List.length_eq_zero_iff]; omega)]
  by_cases c1 : barring EV OD = []
  · rw [decide_eq_true c1]
    refine iteT ⟨_, rfl, a, _, rfl, .inr (tupSame s12 ha), _, _, rfl, rfl, _, rfl, ?_⟩
    have le : (iV EV).length = EV.length := List.length_map ..
    rw [le]
    match EV, hE, hu, c1, ha, h0, k1, k2, ly, tv with
    | [], hE, hu, c1, ha, h0, k1, k2, ly, tv =>
      refine iteF ⟨_, rfl, k2 ?_ H2 p ys s12 hp tv⟩
      unfold lotsEnd
      exact if_pos (.inr rfl)
    | e :: EV, hE, hu, c1, ha, h0, k1, k2, ly, tv =>
      have hb0 := h0 c1
      have me := maxOf_int e EV
      have mi := hE.inn _ me.1
      rw [decide_eq_true (by rw [List.length_cons]; omega)]
      refine iteT ⟨_, rfl, _, rfl, cat_tup (tupSame s12 ha) (tupSame s12 hb) (by rw [List.length_map, List.length_map]; omega) fun H3 q s3 hq => ?_⟩
      have ap : iV (e :: EV) ++ iV OD = iV ((e :: EV) ++ OD) := (List.map_append ..).symm
      rw [ap] at hq
      refine ⟨q, (e :: EV) ++ OD, rfl, hq, by rw [List.length_append]; omega, fun d hd => ?_, fun H4 s4 => ?_⟩
      · rcases List.mem_append.mp hd with z | z
        · have := hE.inn d z; omega
        · have := hO.inn d z; omega
      have s34 := s12.trans (s3.trans s4)
      refine ⟨_, rfl, _, rfl, a, e, EV, rfl, tupSame s34 ha, _, _, rfl, rfl, _, _, rfl, rfl, _, rfl, ?_⟩
      by_cases c2 : 80 < bndI ((e :: EV) ++ OD) + PySem.W.maxOf e EV
      · have le : lotsEnd (e :: EV) OD = some 80 := by
          unfold lotsEnd
          rw [if_neg (by rintro (z | z); exact z c1; cases z), if_pos (show 80 < bndI ((e :: EV) ++ OD) + topI (e :: EV) from c2)]
        rw [decide_eq_true c2]
        exact iteT ⟨_, rfl, fun d hd => k1 80 le H4 d s34 hd⟩
      · rw [decide_eq_false c2]
        refine iteF ⟨_, rfl, _, rfl, _, _, rfl, rfl, _, rfl, _, rfl, a, e, EV, rfl, tupSame s34 ha, _, _, rfl, rfl, _, _, rfl, rfl, _, _, rfl, rfl, .of_le (by omega) (by omega) (by omega) (by omega), fun l hl => ?_⟩
        have s5 := s34.trans (Same.new (o := .lst (rgV (bndI ((e :: EV) ++ OD) + 1) (bndI ((e :: EV) ++ OD) + PySem.W.maxOf e EV + 1))) hl)
        have eN : (bndI ((e :: EV) ++ OD) + PySem.W.maxOf e EV + 1 - (bndI ((e :: EV) ++ OD) + 1)).toNat = (PySem.W.maxOf e EV).toNat := by omega
        have eL : (((bndI ((e :: EV) ++ OD) + 1).toNat : Nat) : Int) = bndI ((e :: EV) ++ OD) + 1 := by omega
        have n2 : ¬ (barring (e :: EV) OD ≠ [] ∨ e :: EV = []) := by
          rintro (z | z)
          · exact z c1
          · cases z
        have e2 : lotsEnd (e :: EV) OD = if anyOver (e :: EV) (bndI ((e :: EV) ++ OD) + 1).toNat (PySem.W.maxOf e EV).toNat 150 = true then some 150 else none := by
          unfold lotsEnd
          rw [if_neg n2, if_neg (show ¬ 80 < bndI ((e :: EV) ++ OD) + topI (e :: EV) from c2)]
          rfl
        refine ⟨a, l, e :: EV, (bndI ((e :: EV) ++ OD) + 1).toNat, (PySem.W.maxOf e EV).toNat, 150, rfl, tupSame s5 ha, ev_lt hE, ?_, by omega, by omega, fun z => (k1 150 (by rw [e2, if_pos z])).mono s5, fun z H6 s6 => ⟨_, rfl, k2 (by rw [e2, if_neg (by rw [z]; exact Bool.false_ne_true)]) H6 p ys (s5.trans s6) ((s3.trans (s4.trans ((Same.new hl).trans s6))) _ _ hp) (tv_mono tv (s3.trans (s4.trans ((Same.new hl).trans s6))))⟩⟩
        rw [upd_same]
        unfold rgV
        rw [eN, eL]
  · rw [decide_eq_false c1]
    refine iteF (iteF ⟨_, rfl, k2 ?_ H2 p ys s12 hp tv⟩)
    unfold lotsEnd
    exact if_pos (.inl c1)
end
end K9
namespace Dic
open PySem PySem.Spec PyProof.Rows L2
/-! ### dicts with tuple keys: their pairs and values walked while the dict is locked -/
section
variable {X : Cx} {pins : List (Addr × Obj)} {σ : L2.St} {H : Hp} {s : Shared} {d : Addr} {o : Obj}
theorem frz_at {kvs : List (List Key × V)} (I : Inv X pins σ H s) (h : H d = some (.frz o (.dT kvs))) :
    (d == sysModules) = false ∧ s.heap.get? d = some o ∧ o.ExactDict ∧ ∃ (es : Array DictEntry) (ep : Nat), o.data = .dict es ep ∧ es.size = kvs.length ∧
      ∀ (i : Nat) (k : List Key) (v : V), kvs[i]? = some (k, v) → ∃ (en : DictEntry) (q : Addr), es[i]? = some en ∧ en.key = .ref q ∧ H q = some (.tup (k.map kV)) ∧ RelV v en.val := by
  obtain ⟨g, _, ns, ys, pr, o2, es, ep, g2, ex, dt, en, _⟩ := I.hok d _ h
  obtain rfl : o2 = o := Option.some.inj (g2.symm.trans g)
  refine ⟨ns, g, ex, es, ep, dt, (size_of_entries en).trans (Paired.length pr).symm, fun i k v e => ?_⟩
  obtain ⟨b, hb, e1, e2, e3⟩ := paired_get pr e
  have q := entry_at en i
  rw [hb] at q
  exact ⟨_, b.2.1, q, rfl, e2, e3⟩
end
/-- the pairs of the locked dict at d, each a new tuple of the key's own tuple and the value -/
def ItP (d : Addr) (o : Obj) (kvs : List (List Key × V)) : It where
  go i H := H d = some (.frz o (.dT kvs)) ∧ i < kvs.length
  yld i H x H' := ∃ (T : Addr) (k : List Key) (v : V) (q : Addr), kvs[i]? = some (k, v) ∧ H q = some (.tup (k.map kV)) ∧ x = .ref T ∧ H T = none ∧ H' = upd H T (.tup [.ref q, v])
  stop i H := H d = some (.frz o (.dT kvs)) ∧ kvs.length ≤ i
/-- the values -/
def ItV (d : Addr) (o : Obj) (kvs : List (List Key × V)) : It where
  go i H := H d = some (.frz o (.dT kvs)) ∧ i < kvs.length
  yld i H x H' := H' = H ∧ ∃ k : List Key, kvs[i]? = some (k, x)
  stop i H := H d = some (.frz o (.dT kvs)) ∧ kvs.length ≤ i
section
variable {P : Program} {w : World} {K : PySem.W.Frag} {tg : Expr} {d : Addr} {o : Obj} {es : Array DictEntry} {ep : Nat}
theorem turnP {kvs : List (List Key × V)} {elts : List Expr} {kk : Nat} {tpos : Pos} (it : Addr) (hod : o.data = .dict es ep) :
    Turn P w K (.Tuple elts kk tpos) (ItP d o kvs) [it] it (fun i h => ∃ a b, h.get? it = some (DVw.itmOb d .none i kvs.length ep a b)) where
  mem := List.mem_singleton.mpr rfl
  obj i h st b hb := by
    obtain rfl := List.mem_singleton.mp hb
    obtain ⟨_, _, e⟩ := st
    exact ⟨_, e, fun v z => nomatch z⟩
  keep i h h' st k := by
    obtain ⟨a, b, e⟩ := st
    exact ⟨a, b, k it (List.mem_singleton.mpr rfl) _ e⟩
  item := by
    intro X hP hw hK hc i pins s σ H E I hf st hg
    subst hP hw hK
    obtain ⟨hd, hi⟩ := hg
    obtain ⟨_, g, _, fs, fp, dt, sz, ent⟩ := frz_at I hd
    obtain ⟨rfl, rfl⟩ := dict_ep hod dt
    obtain ⟨⟨k, v⟩, hkv⟩ : ∃ p, kvs[i]? = some p := ⟨_, List.getElem?_eq_getElem hi⟩
    obtain ⟨en, q, hen, ek, hq, rv⟩ := ent i k v hkv
    obtain ⟨a, b, hit⟩ := st
    have lt := Heap.lt_size hit
    refine DVw.itm_item hit g dt sz hen fun h1 a1 a2 a3 a4 => ⟨_, rfl, ?_⟩
    refine wpAny_letOwnedTupleGo_items (s := { s with heap := h1 }) (i := i + 1) (n := kvs.length) (ok := en.key) (ov := en.val) a1 fun h2 b1 sb => ?_
    have gT : h2.get? s.heap.objs.size = some { cls := .type "tuple", data := .seq #[en.key, en.val] } := (sb.2 _ (Nat.ne_of_gt lt)).trans a2
    have nw : ObjOk X.prog X.w (upd H s.heap.objs.size (.tup [.ref q, v])) h2 s.heap.objs.size (.tup [.ref q, v]) :=
      ⟨by show 2 ≤ sizeLine; decide, [en.key, en.val], .cons ek (.cons rv .nil), ⟨_, gT, rfl, _, rfl⟩⟩
    have I1 : Inv X pins σ (upd H s.heap.objs.size (.tup [.ref q, v])) { s with heap := h2 } :=
      I.turnedNew (t' := s.toks) (ch := [it]) (fun b ob hb z => by
        have nb : b ≠ it := fun y => hb (List.mem_singleton.mpr y)
        exact (sb.2 b nb).trans (a4 b ob nb z)) hf (Nat.le_refl _) nw
    refine ⟨.ref s.heap.objs.size, _, I1, rfl, ⟨_, k, v, q, hkv, hq, rfl, I.hok.fresh (Nat.le_refl _), rfl⟩, ⟨_, _, b1⟩, fun b hb => ?_⟩
    obtain rfl := List.mem_singleton.mp hb
    rw [upd_ne (Nat.ne_of_lt lt)]
    exact (hf _ hb).1
  done := by
    intro X hP hw hK hc i pins s σ H E I hf st hg
    subst hP hw hK
    obtain ⟨hd, hi⟩ := hg
    obtain ⟨f0, f1, f2, f3, f4, f5⟩ := hf it (List.mem_singleton.mpr rfl)
    obtain ⟨_, g, _, fs, fp, dt, sz, ent⟩ := frz_at I hd
    obtain ⟨rfl, rfl⟩ := dict_ep hod dt
    obtain ⟨a, b, hit⟩ := st
    have en : fs[i]? = none := Array.getElem?_eq_none (by rw [sz]; exact hi)
    exact DVw.itm_end (I.ok.hd hc) hit g dt sz en fun h' eb => ⟨rfl, I.turned (t' := s.toks) (fun b ob hb e => eb b ob hb e) f0 f1 f3 f4 f5⟩
  self A i s Q E st h := by
    obtain ⟨_, _, e⟩ := st
    exact PySem.W.kcp_self e h
theorem turnV {kvs : List (List Key × V)} (it : Addr) (hod : o.data = .dict es ep) : Turn P w K tg (ItV d o kvs) [it] it (fun i h => h.get? it = some (DVw.valOb d i kvs.length ep)) where
  mem := List.mem_singleton.mpr rfl
  obj i h st b hb := by
    obtain rfl := List.mem_singleton.mp hb
    exact ⟨_, st, fun v z => nomatch z⟩
  keep i h h' st k := k it (List.mem_singleton.mpr rfl) _ st
  item := by
    intro X hP hw hK hc i pins s σ H E I hf st hg
    subst hP hw hK
    obtain ⟨hd, hi⟩ := hg
    obtain ⟨f0, f1, f2, f3, f4, f5⟩ := hf it (List.mem_singleton.mpr rfl)
    obtain ⟨_, g, _, fs, fp, dt, sz, ent⟩ := frz_at I hd
    obtain ⟨rfl, rfl⟩ := dict_ep hod dt
    obtain ⟨⟨k, v⟩, hkv⟩ : ∃ p, kvs[i]? = some p := ⟨_, List.getElem?_eq_getElem hi⟩
    obtain ⟨en, q, hen, ek, hq, rv⟩ := ent i k v hkv
    refine DVw.val_item st g dt sz hen fun h' st' sb => ⟨_, rfl, ?_⟩
    have I1 : Inv X pins σ H { s with heap := h' } := I.turned (t' := s.toks) (fun b ob hb e => (sb.2 b hb).trans e) f0 f1 f3 f4 f5
    exact go_of (s := { s with heap := h' }) st' rfl rfl (by decide) ⟨v, H, I1, rv, ⟨rfl, k, hkv⟩, st', fun b hb => (hf b hb).1⟩
  done := by
    intro X hP hw hK hc i pins s σ H E I hf st hg
    subst hP hw hK
    obtain ⟨hd, hi⟩ := hg
    obtain ⟨f0, f1, f2, f3, f4, f5⟩ := hf it (List.mem_singleton.mpr rfl)
    obtain ⟨_, g, _, fs, fp, dt, sz, ent⟩ := frz_at I hd
    obtain ⟨rfl, rfl⟩ := dict_ep hod dt
    have en : fs[i]? = none := Array.getElem?_eq_none (by rw [sz]; exact hi)
    exact DVw.val_end (I.ok.hd hc) st g dt sz en fun h' eb => ⟨rfl, I.turned (t' := s.toks) (fun b ob hb e => eb b ob hb e) f0 f1 f3 f4 f5⟩
  self A i s Q E st h := by
    have e : s.TypeIs (.ref it) "dict_valueiterator" := ⟨_, st, rfl⟩
    exact wpAny_pyIter_valiter (s := s) (it := it) ⟨_, st, rfl, rfl⟩ h
end
end Dic
namespace Dic
open PySem PySem.Spec PyProof.Rows L2
def iPairs (td : TE) : TI := fun σ H R => td σ H fun x H1 => ∃ (d : Addr) (o : Obj) (kvs : List (List Key × V)), x = .ref d ∧ H1 d = some (.frz o (.dT kvs)) ∧ R (ItP d o kvs) H1
def iValues (td : TE) : TI := fun σ H R => td σ H fun x H1 => ∃ (d : Addr) (o : Obj) (kvs : List (List Key × V)), x = .ref d ∧ H1 d = some (.frz o (.dT kvs)) ∧ R (ItV d o kvs) H1
section
variable {X : Cx} {tg e : Expr} {td : TE} {apos cpos : Pos}
theorem pi_pairs {elts : List Expr} {kk : Nat} {tpos : Pos} (he : PE X e td) (hb : attributeBase e "items" X.env (eval e X.env) = eval e X.env := by rfl) (hl : (apos.endLine == cpos.line) = true := by rfl) :
    PI X (.Tuple elts kk tpos) (.Call (.Attribute e "items" apos) [] [] cpos) (iPairs td) := by
  refine ⟨fun pins s σ H R I h => ?_⟩
  refine wpAny_Call_method (T := "dict") (id := "dict.items") hb rfl hl F.plainAttrs_dict F.slot_dict_items F.type_dict_items (thn (he.run pins s σ H _ I h) fun u s1 q => ?_)
  obtain ⟨x, H1, I1, rx, d, o, kvs, rfl, hd, q⟩ := q
  obtain rfl : u = Value.ref d := rx
  obtain ⟨ns, g, ex, es, ep, dt, sz, ent⟩ := frz_at I1 hd
  have I2 : Inv X pins σ H1 { s1 with heap := s1.heap.push { cls := .type "dict_items", data := .fields #[.ref d] } } := I1.kept (t' := s1.toks) fun b ob q => Heap.get?_push_of_some _ q
  refine ⟨⟨o, g, ex.1⟩, fun a e => ⟨o, by cases e; exact g, ex.2.1⟩, ?_⟩
  have fin : wpAny (model X.prog X.w) X.A (pyIter (.ref s1.heap.objs.size)) (PIE X pins σ (.Tuple elts kk tpos) R) X.xe { s1 with heap := s1.heap.push { cls := .type "dict_items", data := .fields #[.ref d] } } := by
    refine DSub.iter_itms (Heap.get?_push_size _ rfl) (Heap.get?_push_of_some _ g) dt ?_
    refine pi_one (tk := s1.toks) I2 _ (turnP _ dt) ⟨.none, .none, ?_⟩ q
    rw [← sz]
    exact Heap.get?_push_size _ rfl
  exact method_meetsIn F.slot_dict_items F.entry_dict_items rfl (PySem.evalArgs_none ⟨rfl, ⟨o, g, ex.1⟩, F.args_dict_items_1 _, _, DT.meetsItems (es := es) (ep := ep) ns, ⟨⟨o, g, ex, dt⟩, fin⟩⟩)
/-- d.values() makes a view, whatever the keys are -/
theorem meetsV {prog : Program} {w : World} {d : Addr} {es : Array DictEntry} {ep : Nat} (ns : (d == sysModules) = false) :
    MeetsIn prog w (Builtin.«dict.values» ⟨[.ref d], []⟩) (fun _ R s => DT.Raw s.heap d es ep ∧ R (.ok (.ret (.ref s.heap.objs.size))) { s with heap := s.heap.push { cls := .type "dict_values", data := .fields #[.ref d] } }) := by
  refine .of_wp fun A R s hq => ?_
  obtain ⟨hm, fin⟩ := hq
  refine wpAny_bind ?_
  unfold Builtin.Dict.noArgs
  refine wpAny_bind (wpAny_notOrdered_dict hm.typeIs (wpAny_pure ?_))
  refine wpAny_bind (m := Builtin.Dict.showsAll d) ?_
  unfold Builtin.Dict.showsAll
  rw [ns]
  refine wpAny_pure ?_
  exact wpAny_bind (wpAny_newObj_type (wpAny_pure ⟨_, rfl, fin⟩))
theorem pi_vals {tg : Expr} (he : PE X e td) (hb : attributeBase e "values" X.env (eval e X.env) = eval e X.env := by rfl) (hl : (apos.endLine == cpos.line) = true := by rfl) :
    PI X tg (.Call (.Attribute e "values" apos) [] [] cpos) (iValues td) := by
  refine ⟨fun pins s σ H R I h => ?_⟩
  refine wpAny_Call_method (T := "dict") (id := "dict.values") hb rfl hl F.plainAttrs_dict F.slot_dict_values F.type_dict_values (thn (he.run pins s σ H _ I h) fun u s1 q => ?_)
  obtain ⟨x, H1, I1, rx, d, o, kvs, rfl, hd, q⟩ := q
  obtain rfl : u = Value.ref d := rx
  obtain ⟨ns, g, ex, es, ep, dt, sz, ent⟩ := frz_at I1 hd
  have I2 : Inv X pins σ H1 { s1 with heap := s1.heap.push { cls := .type "dict_values", data := .fields #[.ref d] } } := I1.kept (t' := s1.toks) fun b ob q => Heap.get?_push_of_some _ q
  refine ⟨⟨o, g, ex.1⟩, fun a e => ⟨o, by cases e; exact g, ex.2.1⟩, ?_⟩
  have fin : wpAny (model X.prog X.w) X.A (pyIter (.ref s1.heap.objs.size)) (PIE X pins σ tg R) X.xe { s1 with heap := s1.heap.push { cls := .type "dict_values", data := .fields #[.ref d] } } := by
    refine DSub.iter_vals (Heap.get?_push_size _ rfl) (Heap.get?_push_of_some _ g) dt ?_
    refine pi_one (tk := s1.toks) I2 _ (turnV _ dt) ?_ q
    rw [← sz]
    exact Heap.get?_push_size _ rfl
  exact method_meetsIn F.slot_dict_values F.entry_dict_values rfl (PySem.evalArgs_none ⟨rfl, ⟨o, g, ex.1⟩, F.args_dict_values_1 _, _, meetsV (es := es) (ep := ep) ns, ⟨⟨o, g, ex, dt⟩, fin⟩⟩)
end
end Dic
namespace Dic
open PySem PySem.Spec PyProof.Rows L2
/-! ### dict comprehensions into a dict of any kind of keys -/
/-- an empty dict, of either kind of keys -/
inductive Mt : HO → Prop
  | k : Mt (.dK [])
  | t : Mt (.dT [])
section
variable {X : Cx} {pins : List (Addr × Obj)} {σ : L2.St} {H : Hp} {s : Shared}
theorem Mt.ok {z : HO} (m : Mt z) {P : Program} {w : World} {H' : Hp} (h : Heap) (big : sysModules < h.objs.size) : ObjOk P w H' (h.push { cls := .type "dict", data := .dict #[] }) h.objs.size z := by
  cases m with
  | k => exact dk_empty h big
  | t =>
    have ne : (h.objs.size == sysModules) = false := by
      simp only [beq_eq_false_iff_ne, ne_eq]
      exact Nat.ne_of_gt big
    exact ⟨Nat.zero_le _, ne, [], .nil, _, #[], 0, Heap.get?_push_size _ rfl, ⟨rfl, rfl, rfl⟩, rfl, rfl, List.nodup_nil⟩
/-- d[y] = v of a comprehension -/
theorem put_in {H' : Hp} {D : Addr} {y v : V} {u r : Value} {E : Value → Shared → Prop} {Q : Unit → Shared → Prop} (hu : X.A.units + 1 < cLine) (I : Inv X pins σ H s) (g : DPut H D y v H') (ry : RelV y u) (rv : RelV v r)
    (k : ∀ s', Inv X pins σ H' s' → Q () s') : wpAny (model X.prog X.w) X.A (dictSet D u r) Q E s := by
  rcases g with ⟨kvs, q, e, rfl, lt, rfl⟩ | ⟨kvs, q, b, e, rfl, eb, lt, rfl⟩
  · exact d_dictSet I e lt ry rv k
  · obtain rfl : u = Value.ref b := ry
    obtain ⟨z, nd, ys, rel, dd⟩ := dt_of I.hok e
    have z1 : ys.length ≤ sizeLine := (Paired.length rel) ▸ z
    have z2 : (putK kvs q v).length ≤ sizeLine := Nat.le_trans (length_putK kvs q v) lt
    refine wpAny_dictSet_heap (hsz := z1) (show X.A.units < cLine from Nat.lt_of_succ_lt hu) (key_of I.hok eb) dd fun h' dd' sb => k _ ?_
    obtain ⟨ob, es, ep, g1, g2, g3, g4, _, g5⟩ := dd'
    have mu : Mut (H D) := by rw [e]; exact True.intro
    refine d_write I mu sb ⟨ob, g1⟩ ⟨z2, nd, _, (rel.put q eb rv).keeps fun c xs ec => ?_, ob, es, ep, g1, g2, g3, g4, g5⟩
    have nc : c ≠ D := ne_of ec e fun y => nomatch y
    rw [upd_ne nc]
    exact ec
end
/-- what a comprehension's walk into D asks -/
abbrev DcW (J : It) (g : TG) (tt : TT) (tk tv : TE) (vs : List Nat) (σ : L2.St) (H0 : Hp) (D : Addr) (Qd : Hp → Prop) : Prop :=
  ∃ W : Nat → Nat → Hp → Prop, (∃ m, W 0 m H0) ∧ ∀ i m H, W i m H → (J.stop i H ∧ Qd H) ∨ (J.go i H ∧ ∃ Nx : Hp → Prop, (∀ H', Nx H' → ∃ m', m' < m ∧ W (i + 1) m' H') ∧
    ∀ x H', J.yld i H x H' → g x (wipe σ vs) H' fun σ2 H2 => wipe σ2 vs = wipe σ vs ∧ tt σ2 H2 fun b H3 => if b = true then tk σ2 H3 fun y H4 => tv σ2 H4 fun u H5 => ∃ H6, DPut H5 D y u H6 ∧ Nx H6 else Nx H3)
def tDct (z : HO) (wi : TI) (g : TG) (tt : TT) (tk tv : TE) (vs : List Nat) : TE := fun σ H Q => wi σ H fun J H1 => ∀ D, H1 D = none → DcW J g tt tk tv vs σ (upd H1 D z) D fun H' => Q (.ref D) H'
section
variable {X : Cx}
theorem dct_run {z : HO} (mz : Mt z) {pins : List (Addr × Obj)} {s : Shared} {σ : L2.St} {H : Hp} {Q : VK} {kx vx tg iter : Expr} {ifs : List Expr} {scope : Scope} {own : List (Str × Nat)} {pos pos' : Pos} {wi : TI} {g : TG} {tt : TT} {tk tv : TE}
    {use : Option (Value → Sem Unit)} {Qf : Value → Shared → Prop} (hu : X.A.units + 1 < cLine) (hc : X.calm = true) (hN : X.N.Nodup) (I : Inv X pins σ H s) (hi : PI X tg iter wi) (ok : BlkOk X.N X.env.scope scope own)
    (hg : ∀ (s : Shared) (H : Hp) (C : Addr) (cl : List (Str × Addr)) (fp : List Addr), PG (X.blk s H scope (compEnvC scope cl C X.env) fp) tg g)
    (ht : ∀ (s : Shared) (H : Hp) (C : Addr) (cl : List (Str × Addr)) (fp : List Addr), PTs (X.blk s H scope (compEnvC scope cl C X.env) fp) ifs tt)
    (hk : ∀ (s : Shared) (H : Hp) (C : Addr) (cl : List (Str × Addr)) (fp : List Addr), PE (X.blk s H scope (compEnvC scope cl C X.env) fp) kx tk)
    (he : ∀ (s : Shared) (H : Hp) (C : Addr) (cl : List (Str × Addr)) (fp : List Addr), PE (X.blk s H scope (compEnvC scope cl C X.env) fp) vx tv)
    (hs : ∀ x, foldedSetIterable iter X.env x = pure x) (h : tDct z wi g tt tk tv (own.map (·.2)) σ H Q)
    (fin : ∀ D C s' m H', Inv X pins σ H' s' → Q (.ref D) H' → s'.heap.Ns C m → FpOk X pins H' C → compPost (model X.prog X.w) X.A X.xe use Qf (.ref D) C (.ok .next) s') :
    wpAny (model X.prog X.w) X.A (comprehension (.DictComp kx vx [⟨tg, iter, ifs, 0⟩] scope pos) scope X.env pos' newDict false (eval iter X.env) use) Qf X.xe s := by
  have free : ∀ y ∈ scope.names, y.2 = .free → ∃ c, X.env.cells.lookup y.1 = some c := fun y hy e => (ok.free y hy e).elim (fun k => I.ok.has _ (.inl k)) fun k => I.ok.has _ (.inr k)
  refine wpAny_comprehension_free (use := use) rfl hs (closure_ok free) ok.kind (fun y hy e => by rw [ok.uniq y hy, e]) (thn (hi.run pins s σ H _ I h) fun xv sa hx => thn hx fun itv sb hb => ?_)
  obtain ⟨it, fp, tn, J, Hb, rfl, Ib, Tn, stb, fb, wk⟩ := hb
  refine wpAny_newObj_type (newEnv_comp ?_)
  generalize eD : sb.heap.objs.size = D
  have nD : Hb D = none := Ib.hok.fresh (Nat.le_of_eq eD)
  obtain ⟨W, ⟨m0, w0⟩, turn⟩ := wk D nD
  generalize ec : ({ sb with heap := sb.heap.push { cls := .type "dict", data := .dict #[] } } : Shared) = sc
  have Ic : Inv X pins σ (upd Hb D z) sc := by
    subst ec
    refine Ib.laid (t' := sb.toks) (fun b o e => Heap.get?_push_of_some _ e) (Nat.le_of_eq eD) ?_
    subst eD
    exact mz.ok sb.heap Ib.big
  have hc1 : sc.heap = sb.heap.push { cls := .type "dict", data := .dict #[] } := by subst ec; rfl
  have low : ∀ b ∈ fp, b < sb.heap.objs.size := fun b hb => let ⟨o, e, _⟩ := Tn.obj _ _ stb b hb; Heap.lt_size e
  have fc : ∀ b ∈ fp, FpOk X pins (upd Hb D z) b ∧ b < sc.heap.objs.size := fun b hb => by
    have lt := low b hb
    have nb : b ≠ D := by subst eD; exact Nat.ne_of_lt lt
    refine ⟨⟨?_, (fb b hb).2⟩, ?_⟩
    · rw [upd_ne nb]
      exact (fb b hb).1
    · rw [hc1, Heap.size_push]
      exact Nat.lt_succ_of_lt lt
  have stc : tn 0 sc.heap := Tn.keep _ _ _ stb fun b _ o e => by
    rw [hc1]
    exact Heap.get?_push_of_some _ e
  have Id := block_start Ic ok hN fc
  have pg := hg sc (upd Hb D z) sc.heap.objs.size (cellsFrom (sc.heap.objs.size + 1) scope.names (cloFrom X.env.cells scope.names [])) fp
  have pt := ht sc (upd Hb D z) sc.heap.objs.size (cellsFrom (sc.heap.objs.size + 1) scope.names (cloFrom X.env.cells scope.names [])) fp
  have pk := hk sc (upd Hb D z) sc.heap.objs.size (cellsFrom (sc.heap.objs.size + 1) scope.names (cloFrom X.env.cells scope.names [])) fp
  have pv := he sc (upd Hb D z) sc.heap.objs.size (cellsFrom (sc.heap.objs.size + 1) scope.names (cloFrom X.env.cells scope.names [])) fp
  show codeAny _ _ (.compStart (.DictComp kx vx [⟨tg, iter, ifs, 0⟩] scope pos) 0 (.ref it) (.ref D) (compEnvC scope (cellsFrom (sc.heap.objs.size + 1) scope.names (cloFrom X.env.cells scope.names [])) sc.heap.objs.size X.env)) (compPost (model X.prog X.w) X.A X.xe use Qf (.ref D) sc.heap.objs.size) { sc with heap := pushCells (sc.heap.push { cls := .type "dict", data := .dict #[] }) scope.names }
  have nfp : ∀ b ∈ fp, (upd Hb D z) b = none := fun b hb => (fc b hb).1.1
  generalize ee : compEnvC scope (cellsFrom (sc.heap.objs.size + 1) scope.names (cloFrom X.env.cells scope.names [])) sc.heap.objs.size X.env = en at Id pg pt pk pv ⊢
  have eL : en.locals = sc.heap.objs.size := by subst ee; rfl
  generalize eH : upd Hb D z = Hc at Ic Id pg pt pk pv w0 nfp fc
  generalize ed : ({ sc with heap := pushCells (sc.heap.push { cls := .type "dict", data := .dict #[] }) scope.names } : Shared) = sd at Id ⊢
  have std : tn 0 sd.heap := Tn.keep _ _ _ stc fun b _ o e => by subst ed; exact pushCells_keeps _ _ _ _ (Heap.get?_push_of_some _ e)
  have hold : ∀ {σ' : L2.St} {H' : Hp} {s' : Shared}, Inv (X.blk sc Hc scope en fp) [] σ' H' s' → (∀ b ∈ fp, H' b = none) → ∀ b ∈ fp, FpOk (X.blk sc Hc scope en fp) [] H' b := fun {σ' H' s'} I' hn b hb =>
    ⟨hn b hb, (I'.ok.exf b hb).1, I'.ok.exfs b hb, .inl hb, fun x c e => (I'.ok.exf b hb).2 x c e, fun p hp => absurd (show p ∈ ([] : List (Addr × Obj)) ++ [] from hp) (by simp)⟩
  have loop : codeAny (model X.prog X.w) X.A (.compLoop (.DictComp kx vx [⟨tg, iter, ifs, 0⟩] scope pos) 0 (.ref it) (.ref D) en) (compPost (model X.prog X.w) X.A X.xe use Qf (.ref D) sc.heap.objs.size) sd := by
    refine compLoop_anyD (fun n t => ∃ i H', Inv (X.blk sc Hc scope en fp) [] (wipe σ (own.map (·.2))) H' t ∧ tn i t.heap ∧ (∀ b ∈ fp, H' b = none) ∧ W i n H') ?_ m0 ⟨0, Hc, Id, std, nfp, w0⟩
    rintro n t0 ⟨i, H0, I0, st0, n0, w1⟩
    rcases turn i n H0 w1 with ⟨stop, qq⟩ | ⟨go, Nx, hNx, step⟩
    · refine thnF (Tn.done (X.blk sc Hc scope en fp) rfl rfl rfl hc i [] t0 _ H0 (fun _ _ => False) I0 (hold I0 n0) st0 stop) fun r t1 hq => ?_
      obtain ⟨rfl, I1⟩ := hq
      have I2 : Inv X pins σ H0 t1 := Ic.call' (ch := fp) I1.os I1.base I1.hok I1.bare fun b hb => ⟨(fc b hb).1.2.2.2.1, (fc b hb).1.2.1, (fc b hb).1.2.2.2.2.1, (fc b hb).1.2.2.2.2.2⟩
      have nC : H0 sc.heap.objs.size = none := eL ▸ (show H0 en.locals = none from I1.free)
      obtain ⟨m, hn, _⟩ := I1.loc
      have hn : t1.heap.Ns sc.heap.objs.size m := eL ▸ (show t1.heap.Ns en.locals m from hn)
      exact fin D sc.heap.objs.size t1 m H0 I2 qq hn (Ic.fpOk (Nat.le_refl _) nC)
    · refine thnF (Tn.item (X.blk sc Hc scope en fp) rfl rfl rfl hc i [] t0 _ H0 (fun _ _ => False) I0 (hold I0 n0) st0 go) fun r t1 hq => ?_
      obtain ⟨u, rfl, hq⟩ := hq
      refine thnF hq fun _ t2 hq => ?_
      obtain ⟨x, H2, I2, r2, y2, st2, n2⟩ := hq
      have I3 := I2.pinned (hold I2 n2) (Tn.obj _ _ st2)
      refine thnF (pg.run _ t2 _ H2 x u _ I3 r2 (step x H2 y2)) fun _ t3 hq => ?_
      obtain ⟨σ3, H3, I4, w3, q3⟩ := hq
      refine thnF (pt.run _ t3 σ3 H3 _ I4 q3) fun b t4 hq => ?_
      obtain ⟨H4, I5, q4⟩ := hq
      have back : ∀ {s' : Shared} {H' : Hp}, Inv (X.blk sc Hc scope en fp) ([] ++ pinsAt fp t2.heap) σ3 H' s' → Nx H' → ∃ m, m < n ∧ ∃ i H', Inv (X.blk sc Hc scope en fp) [] (wipe σ (own.map (·.2))) H' s' ∧ tn i s'.heap ∧ (∀ b ∈ fp, H' b = none) ∧ W i m H' := fun {s' H'} I' nx => by
        obtain ⟨m', hm, w'⟩ := hNx H' nx
        have pin : ∀ b ∈ fp, ∀ o, t2.heap.get? b = some o → s'.heap.get? b = some o ∧ H' b = none := fun b hb o e => by
          have z := I'.pin (b, o) (List.mem_append_right _ (List.mem_append_right _ (mem_pinsAt hb e)))
          exact ⟨z.1, z.2.1⟩
        have len : (wipe σ (own.map (·.2))).length = σ3.length := by rw [← w3, wipe_length]
        refine ⟨m', hm, i + 1, H', (I'.unpinned (pins := [])).weak len (fun j v e => ?_), Tn.keep _ _ _ st2 fun b hb o e => (pin b hb o e).1, fun b hb => ?_, w'⟩
        · rw [← w3] at e
          exact (wipe_some e).1
        · obtain ⟨o, e, _⟩ := Tn.obj _ _ st2 b hb
          exact (pin b hb o e).2
      by_cases eb : b = true
      · rw [if_pos eb] at q4 ⊢
        refine thnF (pk.run _ t4 σ3 H4 _ I5 q4) fun _ t5 hq => ?_
        obtain ⟨yk, H5, I6, r6, q6⟩ := hq
        refine thnF (pv.run _ t5 σ3 H5 _ I6 q6) fun _ t6 hq => ?_
        obtain ⟨yv, H6, I7, r7, H7, dp, nx⟩ := hq
        exact put_in (X := X.blk sc Hc scope en fp) hu I7 dp r6 r7 fun t7 I8 => back I8 nx
      · rw [if_neg eb] at q4 ⊢
        exact back I5 q4
  exact codeAny_compStart_dict loop (Tn.self X.A 0 _ _ _ std loop)
theorem pe_dct {z : HO} (mz : Mt z) {kx vx tg iter : Expr} {ifs : List Expr} {scope : Scope} {own : List (Str × Nat)} {pos : Pos} {wi : TI} {g : TG} {tt : TT} {tk tv : TE} (hu : X.A.units + 1 < cLine) (hc : X.calm = true) (hN : X.N.Nodup) (hi : PI X tg iter wi) (ok : BlkOk X.N X.env.scope scope own)
    (hg : ∀ (s : Shared) (H : Hp) (C : Addr) (cl : List (Str × Addr)) (fp : List Addr), PG (X.blk s H scope (compEnvC scope cl C X.env) fp) tg g)
    (ht : ∀ (s : Shared) (H : Hp) (C : Addr) (cl : List (Str × Addr)) (fp : List Addr), PTs (X.blk s H scope (compEnvC scope cl C X.env) fp) ifs tt)
    (hk : ∀ (s : Shared) (H : Hp) (C : Addr) (cl : List (Str × Addr)) (fp : List Addr), PE (X.blk s H scope (compEnvC scope cl C X.env) fp) kx tk)
    (he : ∀ (s : Shared) (H : Hp) (C : Addr) (cl : List (Str × Addr)) (fp : List Addr), PE (X.blk s H scope (compEnvC scope cl C X.env) fp) vx tv)
    (hs : ∀ x, foldedSetIterable iter X.env x = pure x := by intro _; rfl) :
    PE X (.DictComp kx vx [⟨tg, iter, ifs, 0⟩] scope pos) (tDct z wi g tt tk tv (own.map (·.2))) := by
  refine ⟨fun pins s σ H Q I h => ?_⟩
  rw [arm_eval_DictComp]
  refine dct_run mz hu hc hN I hi ok hg ht hk he hs h fun D C s' m H' I' q hn f => ⟨m, hn, fun h2 sb => ?_⟩
  obtain ⟨f0, f1, f2, f3, f4, f5⟩ := f
  exact ⟨.ref D, H', I'.turned (t' := s'.toks) (fun b o hb e => (sb.2 b hb).trans e) f0 f1 f3 f4 f5, rfl, q⟩
/-- the walk of a comprehension over anything that a Walk serves -/
theorem dc_it {J : It} {n : Nat} {G : Hp → Prop} {Y : Nat → Hp → V → Hp → Prop} (wk : Walk J n G Y) {g : TG} {tt : TT} {tk tv : TE} {vs : List Nat} {σ : L2.St} {H0 : Hp} {D : Addr} {Qd : Hp → Prop} (Pv : Nat → Hp → Prop) (h0 : Pv 0 H0) (hl : ∀ i H, i ≤ n → Pv i H → G H)
    (hs : ∀ i x H H1, i < n → Pv i H → Y i H x H1 → g x (wipe σ vs) H1 fun σ2 H2 => wipe σ2 vs = wipe σ vs ∧ tt σ2 H2 fun b H3 => if b = true then tk σ2 H3 fun y H4 => tv σ2 H4 fun u H5 => ∃ H6, DPut H5 D y u H6 ∧ Pv (i + 1) H6 else Pv (i + 1) H3)
    (hd : ∀ H, Pv n H → Qd H) : DcW J g tt tk tv vs σ H0 D Qd := by
  refine ⟨fun i m H => m = n - i ∧ i ≤ n ∧ Pv i H, ⟨n, by simp, Nat.zero_le _, h0⟩, ?_⟩
  rintro i m H ⟨rfl, hi, p⟩
  have q := hl i H hi p
  by_cases lt : i < n
  · exact .inr ⟨wk.goes _ _ lt q, Pv (i + 1), fun H' p' => ⟨n - (i + 1), by omega, rfl, lt, p'⟩, fun x H' y => hs i x H H' lt p (wk.yields _ _ _ _ lt q y)⟩
  · obtain rfl : i = n := by omega
    exact .inl ⟨wk.stops _ q, hd H p⟩
end
end Dic
namespace Dic
open PySem PySem.Spec PyProof.Rows L2
/-! ### set comprehensions -/
/-- what a new set's object is said to be -/
def Fresh (z : World → Addr → HO) : Prop := ∀ {P : Program} {w : World} {H : Hp} (h : Heap), ObjOk P w H (h.push { cls := .type "set", dict := none, data := .set #[] 0 (.fresh 0 0 (!w.params.followText "set-order")) }) h.objs.size (z w h.objs.size)
abbrev ints0 : World → Addr → HO := fun w a => SetO w a (fun _ => false) 0
theorem fresh_ints : Fresh ints0 := fun {_ w _} h => setO_new (setR_fresh (h := h) w)
abbrev ScW (r : V → List V → Hp → VK → Prop) (J : It) (g : TG) (tt : TT) (te : TE) (vs : List Nat) (σ : L2.St) (H0 : Hp) (D : Addr) (Qd : Hp → Prop) : Prop :=
  ∃ W : Nat → Nat → Hp → Prop, (∃ m, W 0 m H0) ∧ ∀ i m H, W i m H → (J.stop i H ∧ Qd H) ∨ (J.go i H ∧ ∃ Nx : Hp → Prop, (∀ H', Nx H' → ∃ m', m' < m ∧ W (i + 1) m' H') ∧
    ∀ x H', J.yld i H x H' → g x (wipe σ vs) H' fun σ2 H2 => wipe σ2 vs = wipe σ vs ∧ tt σ2 H2 fun b H3 => if b = true then te σ2 H3 fun y H4 => r (.ref D) [y] H4 fun _ H5 => Nx H5 else Nx H3)
def tSct (w : World) (z : World → Addr → HO) (r : V → List V → Hp → VK → Prop) (wi : TI) (g : TG) (tt : TT) (te : TE) (vs : List Nat) : TE := fun σ H Q => wi σ H fun J H1 => ∀ D, H1 D = none → ScW r J g tt te vs σ (upd H1 D (z w D)) D fun H' => Q (.ref D) H'
section
variable {X : Cx}
theorem sct_run {z : World → Addr → HO} {r : World → V → List V → Hp → VK → Prop} (mz : Fresh z) (ad : ∀ Y : Cx, MtR Y "set.add" (r Y.w)) {pins : List (Addr × Obj)} {s : Shared} {σ : L2.St} {H : Hp} {Q : VK} {elt tg iter : Expr} {ifs : List Expr} {scope : Scope} {own : List (Str × Nat)} {pos pos' : Pos} {wi : TI} {g : TG} {tt : TT} {te : TE}
    {use : Option (Value → Sem Unit)} {Qf : Value → Shared → Prop} (hc : X.calm = true) (hN : X.N.Nodup) (I : Inv X pins σ H s) (hi : PI X tg iter wi) (ok : BlkOk X.N X.env.scope scope own)
    (hg : ∀ (s : Shared) (H : Hp) (C : Addr) (cl : List (Str × Addr)) (fp : List Addr), PG (X.blk s H scope (compEnvC scope cl C X.env) fp) tg g)
    (ht : ∀ (s : Shared) (H : Hp) (C : Addr) (cl : List (Str × Addr)) (fp : List Addr), PTs (X.blk s H scope (compEnvC scope cl C X.env) fp) ifs tt)
    (he : ∀ (s : Shared) (H : Hp) (C : Addr) (cl : List (Str × Addr)) (fp : List Addr), PE (X.blk s H scope (compEnvC scope cl C X.env) fp) elt te)
    (hs : ∀ x, foldedSetIterable iter X.env x = pure x) (h : tSct X.w z (r X.w) wi g tt te (own.map (·.2)) σ H Q)
    (fin : ∀ D C s' m H', Inv X pins σ H' s' → Q (.ref D) H' → s'.heap.Ns C m → FpOk X pins H' C → compPost (model X.prog X.w) X.A X.xe use Qf (.ref D) C (.ok .next) s') :
    wpAny (model X.prog X.w) X.A (comprehension (.SetComp elt [⟨tg, iter, ifs, 0⟩] scope pos) scope X.env pos' (newSet (.type "set")) false (eval iter X.env) use) Qf X.xe s := by
  have free : ∀ y ∈ scope.names, y.2 = .free → ∃ c, X.env.cells.lookup y.1 = some c := fun y hy e => (ok.free y hy e).elim (fun k => I.ok.has _ (.inl k)) fun k => I.ok.has _ (.inr k)
  refine wpAny_comprehension_free (use := use) rfl hs (closure_ok free) ok.kind (fun y hy e => by rw [ok.uniq y hy, e]) (thn (hi.run pins s σ H _ I h) fun xv sa hx => thn hx fun itv sb hb => ?_)
  obtain ⟨it, fp, tn, J, Hb, rfl, Ib, Tn, stb, fb, wk⟩ := hb
  refine PpSet.newSet_ok (newEnv_comp ?_)
  generalize eD : sb.heap.objs.size = D
  have nD : Hb D = none := Ib.hok.fresh (Nat.le_of_eq eD)
  obtain ⟨W, ⟨m0, w0⟩, turn⟩ := wk D nD
  generalize ec : ({ sb with heap := sb.heap.push { cls := .type "set", dict := none, data := .set #[] 0 (.fresh 0 0 (!X.w.params.followText "set-order")) } } : Shared) = sc
  have Ic : Inv X pins σ (upd Hb D (z X.w D)) sc := by
    subst ec
    refine Ib.laid (t' := sb.toks) (fun b o e => Heap.get?_push_of_some _ e) (Nat.le_of_eq eD) ?_
    subst eD
    exact mz sb.heap
  have hc1 : sc.heap = sb.heap.push { cls := .type "set", dict := none, data := .set #[] 0 (.fresh 0 0 (!X.w.params.followText "set-order")) } := by subst ec; rfl
  have low : ∀ b ∈ fp, b < sb.heap.objs.size := fun b hb => let ⟨o, e, _⟩ := Tn.obj _ _ stb b hb; Heap.lt_size e
  have fc : ∀ b ∈ fp, FpOk X pins (upd Hb D (z X.w D)) b ∧ b < sc.heap.objs.size := fun b hb => by
    have lt := low b hb
    have nb : b ≠ D := by subst eD; exact Nat.ne_of_lt lt
    refine ⟨⟨?_, (fb b hb).2⟩, ?_⟩
    · rw [upd_ne nb]
      exact (fb b hb).1
    · rw [hc1, Heap.size_push]
      exact Nat.lt_succ_of_lt lt
  have stc : tn 0 sc.heap := Tn.keep _ _ _ stb fun b _ o e => by
    rw [hc1]
    exact Heap.get?_push_of_some _ e
  have Id := block_start Ic ok hN fc
  have pg := hg sc (upd Hb D (z X.w D)) sc.heap.objs.size (cellsFrom (sc.heap.objs.size + 1) scope.names (cloFrom X.env.cells scope.names [])) fp
  have pt := ht sc (upd Hb D (z X.w D)) sc.heap.objs.size (cellsFrom (sc.heap.objs.size + 1) scope.names (cloFrom X.env.cells scope.names [])) fp
  have pv := he sc (upd Hb D (z X.w D)) sc.heap.objs.size (cellsFrom (sc.heap.objs.size + 1) scope.names (cloFrom X.env.cells scope.names [])) fp
  show codeAny _ _ (.compStart (.SetComp elt [⟨tg, iter, ifs, 0⟩] scope pos) 0 (.ref it) (.ref D) (compEnvC scope (cellsFrom (sc.heap.objs.size + 1) scope.names (cloFrom X.env.cells scope.names [])) sc.heap.objs.size X.env)) (compPost (model X.prog X.w) X.A X.xe use Qf (.ref D) sc.heap.objs.size) { sc with heap := pushCells (sc.heap.push { cls := .type "dict", data := .dict #[] }) scope.names }
  have nfp : ∀ b ∈ fp, (upd Hb D (z X.w D)) b = none := fun b hb => (fc b hb).1.1
  generalize ee : compEnvC scope (cellsFrom (sc.heap.objs.size + 1) scope.names (cloFrom X.env.cells scope.names [])) sc.heap.objs.size X.env = en at Id pg pt pv ⊢
  have eL : en.locals = sc.heap.objs.size := by subst ee; rfl
  generalize eH : upd Hb D (z X.w D) = Hc at Ic Id pg pt pv w0 nfp fc
  generalize ed : ({ sc with heap := pushCells (sc.heap.push { cls := .type "dict", data := .dict #[] }) scope.names } : Shared) = sd at Id ⊢
  have std : tn 0 sd.heap := Tn.keep _ _ _ stc fun b _ o e => by subst ed; exact pushCells_keeps _ _ _ _ (Heap.get?_push_of_some _ e)
  have hold : ∀ {σ' : L2.St} {H' : Hp} {s' : Shared}, Inv (X.blk sc Hc scope en fp) [] σ' H' s' → (∀ b ∈ fp, H' b = none) → ∀ b ∈ fp, FpOk (X.blk sc Hc scope en fp) [] H' b := fun {σ' H' s'} I' hn b hb =>
    ⟨hn b hb, (I'.ok.exf b hb).1, I'.ok.exfs b hb, .inl hb, fun x c e => (I'.ok.exf b hb).2 x c e, fun p hp => absurd (show p ∈ ([] : List (Addr × Obj)) ++ [] from hp) (by simp)⟩
  have loop : codeAny (model X.prog X.w) X.A (.compLoop (.SetComp elt [⟨tg, iter, ifs, 0⟩] scope pos) 0 (.ref it) (.ref D) en) (compPost (model X.prog X.w) X.A X.xe use Qf (.ref D) sc.heap.objs.size) sd := by
    refine PpSet.compLoopS_any (fun n t => ∃ i H', Inv (X.blk sc Hc scope en fp) [] (wipe σ (own.map (·.2))) H' t ∧ tn i t.heap ∧ (∀ b ∈ fp, H' b = none) ∧ W i n H') ?_ m0 ⟨0, Hc, Id, std, nfp, w0⟩
    rintro n t0 ⟨i, H0, I0, st0, n0, w1⟩
    rcases turn i n H0 w1 with ⟨stop, qq⟩ | ⟨go, Nx, hNx, step⟩
    · refine thnF (Tn.done (X.blk sc Hc scope en fp) rfl rfl rfl hc i [] t0 _ H0 (fun _ _ => False) I0 (hold I0 n0) st0 stop) fun r t1 hq => ?_
      obtain ⟨rfl, I1⟩ := hq
      have I2 : Inv X pins σ H0 t1 := Ic.call' (ch := fp) I1.os I1.base I1.hok I1.bare fun b hb => ⟨(fc b hb).1.2.2.2.1, (fc b hb).1.2.1, (fc b hb).1.2.2.2.2.1, (fc b hb).1.2.2.2.2.2⟩
      have nC : H0 sc.heap.objs.size = none := eL ▸ (show H0 en.locals = none from I1.free)
      obtain ⟨m, hn, _⟩ := I1.loc
      have hn : t1.heap.Ns sc.heap.objs.size m := eL ▸ (show t1.heap.Ns en.locals m from hn)
      exact fin D sc.heap.objs.size t1 m H0 I2 qq hn (Ic.fpOk (Nat.le_refl _) nC)
    · refine thnF (Tn.item (X.blk sc Hc scope en fp) rfl rfl rfl hc i [] t0 _ H0 (fun _ _ => False) I0 (hold I0 n0) st0 go) fun r t1 hq => ?_
      obtain ⟨u, rfl, hq⟩ := hq
      refine thnF hq fun _ t2 hq => ?_
      obtain ⟨x, H2, I2, r2, y2, st2, n2⟩ := hq
      have I3 := I2.pinned (hold I2 n2) (Tn.obj _ _ st2)
      refine thnF (pg.run _ t2 _ H2 x u _ I3 r2 (step x H2 y2)) fun _ t3 hq => ?_
      obtain ⟨σ3, H3, I4, w3, q3⟩ := hq
      refine thnF (pt.run _ t3 σ3 H3 _ I4 q3) fun b t4 hq => ?_
      obtain ⟨H4, I5, q4⟩ := hq
      have back : ∀ {s' : Shared} {H' : Hp}, Inv (X.blk sc Hc scope en fp) ([] ++ pinsAt fp t2.heap) σ3 H' s' → Nx H' → ∃ m, m < n ∧ ∃ i H', Inv (X.blk sc Hc scope en fp) [] (wipe σ (own.map (·.2))) H' s' ∧ tn i s'.heap ∧ (∀ b ∈ fp, H' b = none) ∧ W i m H' := fun {s' H'} I' nx => by
        obtain ⟨m', hm, w'⟩ := hNx H' nx
        have pin : ∀ b ∈ fp, ∀ o, t2.heap.get? b = some o → s'.heap.get? b = some o ∧ H' b = none := fun b hb o e => by
          have z := I'.pin (b, o) (List.mem_append_right _ (List.mem_append_right _ (mem_pinsAt hb e)))
          exact ⟨z.1, z.2.1⟩
        have len : (wipe σ (own.map (·.2))).length = σ3.length := by rw [← w3, wipe_length]
        refine ⟨m', hm, i + 1, H', (I'.unpinned (pins := [])).weak len (fun j v e => ?_), Tn.keep _ _ _ st2 fun b hb o e => (pin b hb o e).1, fun b hb => ?_, w'⟩
        · rw [← w3] at e
          exact (wipe_some e).1
        · obtain ⟨o, e, _⟩ := Tn.obj _ _ st2 b hb
          exact (pin b hb o e).2
      by_cases eb : b = true
      · rw [if_pos eb] at q4 ⊢
        refine thnF (pv.run _ t4 σ3 H4 _ I5 q4) fun _ t5 hq => ?_
        obtain ⟨y, H5, I6, r6, q6⟩ := hq
        refine thnF (ad (X.blk sc Hc scope en fp) _ t5 σ3 H5 (.ref D) [y] (.ref D) [_] _ I6 rfl (.cons r6 .nil) q6) fun _ t6 hq => ?_
        obtain ⟨_, H6, I7, _, nx⟩ := hq
        exact back I7 nx
      · rw [if_neg eb] at q4 ⊢
        exact back I5 q4
  exact PpSet.codeAny_compStart_set loop (Tn.self X.A 0 _ _ _ std loop)
theorem pe_sct {z : World → Addr → HO} {r : World → V → List V → Hp → VK → Prop} (mz : Fresh z) (ad : ∀ Y : Cx, MtR Y "set.add" (r Y.w)) {elt tg iter : Expr} {ifs : List Expr} {scope : Scope} {own : List (Str × Nat)} {pos : Pos} {wi : TI} {g : TG} {tt : TT} {te : TE} (hc : X.calm = true) (hN : X.N.Nodup) (hi : PI X tg iter wi) (ok : BlkOk X.N X.env.scope scope own)
    (hg : ∀ (s : Shared) (H : Hp) (C : Addr) (cl : List (Str × Addr)) (fp : List Addr), PG (X.blk s H scope (compEnvC scope cl C X.env) fp) tg g)
    (ht : ∀ (s : Shared) (H : Hp) (C : Addr) (cl : List (Str × Addr)) (fp : List Addr), PTs (X.blk s H scope (compEnvC scope cl C X.env) fp) ifs tt)
    (he : ∀ (s : Shared) (H : Hp) (C : Addr) (cl : List (Str × Addr)) (fp : List Addr), PE (X.blk s H scope (compEnvC scope cl C X.env) fp) elt te)
    (hs : ∀ x, foldedSetIterable iter X.env x = pure x := by intro _; rfl) :
    PE X (.SetComp elt [⟨tg, iter, ifs, 0⟩] scope pos) (tSct X.w z (r X.w) wi g tt te (own.map (·.2))) := by
  refine ⟨fun pins s σ H Q I h => ?_⟩
  rw [PpSet.eval_SetComp]
  refine sct_run mz ad hc hN I hi ok hg ht he hs h fun D C s' m H' I' q hn f => ⟨m, hn, fun h2 sb => ?_⟩
  obtain ⟨f0, f1, f2, f3, f4, f5⟩ := f
  exact ⟨.ref D, H', I'.turned (t' := s'.toks) (fun b o hb e => (sb.2 b hb).trans e) f0 f1 f3 f4 f5, rfl, q⟩
theorem sc_it {r : V → List V → Hp → VK → Prop} {J : It} {n : Nat} {G : Hp → Prop} {Y : Nat → Hp → V → Hp → Prop} (wk : Walk J n G Y) {g : TG} {tt : TT} {te : TE} {vs : List Nat} {σ : L2.St} {H0 : Hp} {D : Addr} {Qd : Hp → Prop} (Pv : Nat → Hp → Prop) (h0 : Pv 0 H0) (hl : ∀ i H, i ≤ n → Pv i H → G H)
    (hs : ∀ i x H H1, i < n → Pv i H → Y i H x H1 → g x (wipe σ vs) H1 fun σ2 H2 => wipe σ2 vs = wipe σ vs ∧ tt σ2 H2 fun b H3 => if b = true then te σ2 H3 fun y H4 => r (.ref D) [y] H4 fun _ H5 => Pv (i + 1) H5 else Pv (i + 1) H3)
    (hd : ∀ H, Pv n H → Qd H) : ScW r J g tt te vs σ H0 D Qd := by
  refine ⟨fun i m H => m = n - i ∧ i ≤ n ∧ Pv i H, ⟨n, by simp, Nat.zero_le _, h0⟩, ?_⟩
  rintro i m H ⟨rfl, hi, p⟩
  have q := hl i H hi p
  by_cases lt : i < n
  · exact .inr ⟨wk.goes _ _ lt q, Pv (i + 1), fun H' p' => ⟨n - (i + 1), by omega, rfl, lt, p'⟩, fun x H' y => hs i x H H' lt p (wk.yields _ _ _ _ lt q y)⟩
  · obtain rfl : i = n := by omega
    exact .inl ⟨wk.stops _ q, hd H p⟩
end
end Dic
namespace Dic
open PySem PySem.Spec PyProof.Rows L2
/-! ### name = {..} on one line, the name a local -/
section
variable {X : Cx}
theorem swD_true {kx vx : Expr} {gs : List Comprehension} {scope : Scope} {pos py : Pos} {y : Str} {l : Nat} {env : Env} (hk : env.scope.kind = .function) (hy : env.scope.names.lookup y = some .local) (hl : (py.line == pos.line) = true)
    (ha : (scope.names.any fun (n, k) => n == y && (k == .local || k == .cell)) = false) : swapsWith (.DictComp kx vx gs scope pos) (some (.Name y py)) l env = pure true := by
  have ky : env.kindOf y = some .local := hy
  have hb : env.blockKind = .function := by unfold Env.blockKind; rw [hk]; rfl
  unfold swapsWith
  simp only [hb, ky, ha, Expr.pos, hl]
  rfl
theorem ps_setDct {z : HO} (mz : Mt z) {i : Nat} {y : Str} {py : Pos} {kx vx tg iter : Expr} {ifs : List Expr} {scope : Scope} {own : List (Str × Nat)} {pos spos : Pos} {wi : TI} {g : TG} {tt : TT} {tk tv : TE} (hu : X.A.units + 1 < cLine) (hc : X.calm = true) (hN : X.N.Nodup) (hy : X.N[i]? = some y) (hyl : X.env.scope.names.lookup y = some .local)
    (hsw : swapsWith (.DictComp kx vx [⟨tg, iter, ifs, 0⟩] scope pos) (some (.Name y py)) spos.line X.env = pure true) (hi : PI X tg iter wi) (ok : BlkOk X.N X.env.scope scope own)
    (hg : ∀ (s : Shared) (H : Hp) (C : Addr) (cl : List (Str × Addr)) (fp : List Addr), PG (X.blk s H scope (compEnvC scope cl C X.env) fp) tg g)
    (ht : ∀ (s : Shared) (H : Hp) (C : Addr) (cl : List (Str × Addr)) (fp : List Addr), PTs (X.blk s H scope (compEnvC scope cl C X.env) fp) ifs tt)
    (hk : ∀ (s : Shared) (H : Hp) (C : Addr) (cl : List (Str × Addr)) (fp : List Addr), PE (X.blk s H scope (compEnvC scope cl C X.env) fp) kx tk)
    (he : ∀ (s : Shared) (H : Hp) (C : Addr) (cl : List (Str × Addr)) (fp : List Addr), PE (X.blk s H scope (compEnvC scope cl C X.env) fp) vx tv)
    (hs : ∀ x, foldedSetIterable iter X.env x = pure x := by intro _; rfl) :
    PS X (.Assign [.Name y py] (.DictComp kx vx [⟨tg, iter, ifs, 0⟩] scope pos) spos) (tAsg (tDct z wi g tt tk tv (own.map (·.2))) (gName i)) := by
  refine ⟨fun pins s σ H D I h => ?_⟩
  rw [exec_Assign_Name_used _ _ _ _ hsw]
  refine wpAny_bind (wpAny_standAt (wpAny_bind ?_))
  show wpAny _ X.A (do let _ ← comprehension (.DictComp kx vx [⟨tg, iter, ifs, 0⟩] scope pos) scope X.env (firstIterPos [⟨tg, iter, ifs, 0⟩] pos) newDict false (eval iter X.env) (some (assign (.Name y py) X.env))) _ _ s
  have h : tDct z wi g tt tk tv (own.map (·.2)) σ H (fun x H1 => gName i x σ H1 D.nx) := h
  refine wpAny_bind (thn (dct_run (Qf := fun _ s' => SP X pins D .next s') mz hu hc hN I hi ok hg ht hk he hs h fun L C s' m H' I' q hn f => ?_) fun _ s' hq => wpAny_pure (wpAny_pure hq))
  show wpAny _ _ (assign (.Name y py) X.env (.ref L)) _ _ _
  refine wpAny_assign_Name (store_ok2 (v := V.ref L) I' hN hy (.inl hyl) rfl (fun s2 I2 ⟨a, sb, ha⟩ => ?_) (.inr hyl))
  obtain ⟨f0, f1, f2, f3, f4, f5⟩ := f
  have haC : C ≠ a := by
    rcases ha with z | z
    · rw [z]; exact f1
    · exact fun e => f4 y a z e.symm
  refine ⟨m, hn.sameBut sb haC, fun h3 sb3 => ?_⟩
  exact ⟨_, H', I2.turned (t' := s2.toks) (fun b o hb e => (sb3.2 b hb).trans e) f0 f1 f3 f4 f5, q⟩
end
end Dic
namespace ZpG
open PySem PySem.Spec PyProof.Rows L2 RZ
/-! ### zip over two sequences, each a list or a tuple -/
def kn : Bool → String
  | true => "tuple_iterator"
  | false => "list_iterator"
def sn : Bool → String
  | true => "tuple"
  | false => "list"
def Sq (t : Bool) (h : Heap) (l : Addr) (its : Array Value) : Prop := ∃ o, h.get? l = some o ∧ o.cls = .type (sn t) ∧ ∃ n, o.data = .seq its n
def Cur (t : Bool) (h : Heap) (it l : Addr) (i : Nat) : Prop := ∃ o, h.get? it = some o ∧ o.cls = .type (kn t) ∧ o.data = .fields #[.ref l, .int i 0]
theorem Sq.on {t : Bool} {h h' : Heap} {l b : Addr} {its : Array Value} (x : Sq t h l its) (e : Heap.ExtBut b h h') (n : l ≠ b) : Sq t h' l its := let ⟨o, ho, r⟩ := x; ⟨o, e l o n ho, r⟩
theorem Cur.on {t : Bool} {h h' : Heap} {it l b : Addr} {i : Nat} (x : Cur t h it l i) (e : Heap.ExtBut b h h') (n : it ≠ b) : Cur t h' it l i := let ⟨o, ho, r⟩ := x; ⟨o, e it o n ho, r⟩
theorem Cur.by {t : Bool} {h h' : Heap} {it l : Addr} {i : Nat} (x : Cur t h it l i) (k : ∀ o, h.get? it = some o → h'.get? it = some o) : Cur t h' it l i := let ⟨o, ho, r⟩ := x; ⟨o, k o ho, r⟩
theorem Cur.lt {t : Bool} {h : Heap} {it l : Addr} {i : Nat} (x : Cur t h it l i) : it < h.objs.size := let ⟨_, ho, _⟩ := x; Heap.lt_size ho
section
variable {prog : Program} {w : World} {A : Around} {E : Value → Shared → Prop} {s : Shared}
theorem nxt_item {t : Bool} {it l : Addr} {i : Nat} {its : Array Value} {x : Value} {Q : Value → Shared → Prop} (c : Cur t s.heap it l i) (q : Sq t s.heap l its) (hx : its[i]? = some x)
    (k : ∀ h', Cur t h' it l (i + 1) → Heap.SameBut it s.heap h' → Q x { s with heap := h' }) : wpAny (model prog w) A (Builtin.SmallTypes.nextOf (.ref it)) Q E s := by
  cases t with
  | true => exact nextOf_tuple_item (show s.heap.IsTupleIter it l i from c) (show s.heap.IsTuple l its from q) hx k
  | false => exact wpAny_nextOf_list_item (show s.heap.IsListIter it l i from c) (show s.heap.IsList l its from q) hx k
theorem nxt_end {t : Bool} {it l : Addr} {i : Nat} {its : Array Value} {Q : Value → Shared → Prop} (hh : A.handled = none) (c : Cur t s.heap it l i) (q : Sq t s.heap l its) (hx : its[i]? = none)
    (k : ∀ h' e, Heap.ExtBut it s.heap h' → (∃ o, h'.get? e = some o ∧ o.cls = .type "StopIteration") → E (.ref e) { s with heap := h' }) : wpAny (model prog w) A (Builtin.SmallTypes.nextOf (.ref it)) Q E s := by
  cases t with
  | true => exact nextOf_tuple_end hh (show s.heap.IsTupleIter it l i from c) (show s.heap.IsTuple l its from q) hx k
  | false => exact wpAny_nextOf_list_end hh (show s.heap.IsListIter it l i from c) (show s.heap.IsList l its from q) hx k
variable {t u : Bool} {z TI TO p q l m : Addr} {i j : Nat} {xs ys : Array Value} {a b : Value}
theorem zip_goes {x y : Value} {Q : Value → Shared → Prop} (D : ZipApart z TI TO p q l m) (hz : IsZip s.heap z TI TO .none) (hI : IsPair s.heap TI (.ref p) (.ref q)) (hO : IsPair s.heap TO a b)
    (cp : Cur t s.heap p l i) (cq : Cur u s.heap q m j) (sl : Sq t s.heap l xs) (sm : Sq u s.heap m ys) (hx : xs[i]? = some x) (hy : ys[j]? = some y)
    (k : ∀ h', IsZip h' z TI TO (rawInt s.heap.objs.size) → IsPair h' TO x y → Cur t h' p l (i + 1) → Cur u h' q m (j + 1) → IsPair h' s.heap.objs.size x y → h'.objs.size = s.heap.objs.size + 1 →
      (∀ c o, c ≠ z → c ≠ TO → c ≠ p → c ≠ q → s.heap.get? c = some o → h'.get? c = some o) → Q (.ref s.heap.objs.size) { s with heap := h' }) :
    wpAny (model prog w) A (Builtin.«zip.__next__» ⟨[.ref z], []⟩) (fun fin s' => ∃ v, fin = .done (.ret v) ∧ Q v s') E s := by
  refine wpAny_bind (m := field (.ref z) 2) (wpAny_field hz rfl (x := .bool false) rfl ?_)
  refine wpAny_bind (m := field (.ref z) 3) (wpAny_field hz rfl (x := .ref TI) rfl ?_)
  refine wpAny_bind (wpAny_seqItems hI rfl ?_)
  refine wpAny_bind (m := Builtin.SmallTypes.ownedTupleIsFree (.ref z)) ?_
  unfold Builtin.SmallTypes.ownedTupleIsFree
  refine wpAny_bind (wpAny_field hz rfl (x := .none) rfl (wpAny_pure ?_))
  rw [if_pos rfl]
  refine wpAny_bind (wpAny_rule (wpAny_bind (wpAny_field hz rfl (x := .ref TO) rfl (wpAny_bind (wpAny_setField_rec hz (by simp) fun ha za sa => ?_)))))
  replace za : IsZip ha z TI TO .ellipsis := za
  refine wpAny_bind ?_
  simp only [List.zipIdx_cons, List.zipIdx_nil, List.forIn_cons, List.forIn_nil]
  refine wpAny_bind (wpAny_bind (wpAny_onRaise (wpAny_bind (m := Builtin.SmallTypes.nextOf (.ref p)) ?_)))
  refine nxt_item (cp.on sa.extBut D.i1z) (sl.on sa.extBut D.l1z) hx fun hb pb sb => wpAny_pure ?_
  have Ob : IsPair hb TO a b := sb.extBut _ _ D.TOi1 (sa.extBut _ _ D.TOz hO)
  refine wpAny_bind (wpAny_seqItems Ob rfl (wpAny_bind (wpAny_updateSeq_pair Ob fun hc Oc sc => ?_)))
  replace Oc : IsPair hc TO x b := Oc
  refine wpAny_bind (wpAny_letGo (wpAny_pure (wpAny_bind (wpAny_bind (wpAny_onRaise (wpAny_bind (m := Builtin.SmallTypes.nextOf (.ref q)) ?_))))))
  refine nxt_item (((cq.on sa.extBut D.i2z).on sb.extBut D.i12.symm).on sc.extBut D.TOi2.symm) (((sm.on sa.extBut D.l2z).on sb.extBut D.l2i1).on sc.extBut D.l2TO) hy fun hd qd sd => wpAny_pure ?_
  have Od : IsPair hd TO x b := sd.extBut _ _ D.TOi2 Oc
  refine wpAny_bind (wpAny_seqItems Od rfl (wpAny_bind (wpAny_updateSeq_pair Od fun he Oe se => ?_)))
  replace Oe : IsPair he TO x y := Oe
  refine wpAny_bind (wpAny_letGo (wpAny_pure (wpAny_pure (wpAny_bind (wpAny_seqItems Oe rfl (wpAny_bind (wpAny_newTuple ?_)))))))
  have size : he.objs.size = s.heap.objs.size := by rw [se.1, sd.1, sc.1, sb.1, sa.1]
  have ze : IsZip he z TI TO .ellipsis := se.extBut _ _ D.TOz.symm (sd.extBut _ _ D.i2z.symm (sc.extBut _ _ D.TOz.symm (sb.extBut _ _ D.i1z.symm za)))
  have old : ∀ c o, c ≠ z → c ≠ TO → c ≠ p → c ≠ q → s.heap.get? c = some o → he.get? c = some o := fun c o c1 c2 c3 c4 e => se.extBut _ _ c2 (sd.extBut _ _ c4 (sc.extBut _ _ c2 (sb.extBut _ _ c3 (sa.extBut _ _ c1 e))))
  have pe : Cur t he p l (i + 1) := ((pb.on sc.extBut D.TOi1.symm).on sd.extBut D.i12).on se.extBut D.TOi1.symm
  have qe : Cur u he q m (j + 1) := qd.on se.extBut D.TOi2.symm
  have zlt : z < he.objs.size := Heap.lt_size ze
  refine wpAny_bind (m := Builtin.SmallTypes.ownedTupleHandOut (.ref z) (.ref he.objs.size)) ?_
  unfold Builtin.SmallTypes.ownedTupleHandOut
  have zf : IsZip (he.push { cls := .type "tuple", data := .seq #[x, y] }) z TI TO .ellipsis := Heap.get?_push_of_some _ ze
  refine wpAny_bind (wpAny_setField_rec zf (by simp) fun hg zg sg => ?_)
  replace zg : IsZip hg z TI TO (rawInt he.objs.size) := zg
  refine wpAny_setField_rec zg (by simp) fun hi zi si => ?_
  replace zi : IsZip hi z TI TO (rawInt he.objs.size) := zi
  have up : ∀ c o, c ≠ z → he.get? c = some o → hi.get? c = some o := fun c o n e => si.extBut _ _ n (sg.extBut _ _ n (Heap.get?_push_of_some _ e))
  have nw : IsPair hi he.objs.size x y := si.extBut _ _ (Nat.ne_of_gt zlt) (sg.extBut _ _ (Nat.ne_of_gt zlt) (Heap.get?_push_size _ rfl))
  have sz : hi.objs.size = he.objs.size + 1 := by rw [si.1, sg.1, Heap.size_push]
  rw [size] at zi nw sz
  refine wpAny_pure ⟨_, rfl, ?_⟩
  show Q (.ref he.objs.size) _
  rw [size]
  exact k hi zi (up _ _ D.TOz Oe) (pe.by fun o e => up _ o D.i1z e) (qe.by fun o e => up _ o D.i2z e) nw sz fun c o c1 c2 c3 c4 e => up c o c1 (old c o c1 c2 c3 c4 e)
theorem zip_ends {Q : Fin → Shared → Prop} (hh : A.handled = none) (D : ZipApart z TI TO p q l m) (hz : IsZip s.heap z TI TO .none) (hI : IsPair s.heap TI (.ref p) (.ref q)) (hO : IsPair s.heap TO a b)
    (cp : Cur t s.heap p l i) (cq : Cur u s.heap q m j) (sl : Sq t s.heap l xs) (sm : Sq u s.heap m ys) (hend : xs[i]? = none ∨ ys[j]? = none)
    (k : ∀ h' e, (∀ c o, c ≠ z → c ≠ TO → c ≠ p → c ≠ q → s.heap.get? c = some o → h'.get? c = some o) → (∃ o, h'.get? e = some o ∧ o.cls = .type "StopIteration") → E (.ref e) { s with heap := h' }) :
    wpAny (model prog w) A (Builtin.«zip.__next__» ⟨[.ref z], []⟩) Q E s := by
  refine wpAny_bind (m := field (.ref z) 2) (wpAny_field hz rfl (x := .bool false) rfl ?_)
  refine wpAny_bind (m := field (.ref z) 3) (wpAny_field hz rfl (x := .ref TI) rfl ?_)
  refine wpAny_bind (wpAny_seqItems hI rfl ?_)
  refine wpAny_bind (m := Builtin.SmallTypes.ownedTupleIsFree (.ref z)) ?_
  unfold Builtin.SmallTypes.ownedTupleIsFree
  refine wpAny_bind (wpAny_field hz rfl (x := .none) rfl (wpAny_pure ?_))
  rw [if_pos rfl]
  refine wpAny_bind (wpAny_rule (wpAny_bind (wpAny_field hz rfl (x := .ref TO) rfl (wpAny_bind (wpAny_setField_rec hz (by simp) fun ha za sa => ?_)))))
  replace za : IsZip ha z TI TO .ellipsis := za
  refine wpAny_bind ?_
  simp only [List.zipIdx_cons, List.zipIdx_nil, List.forIn_cons, List.forIn_nil]
  refine wpAny_bind (wpAny_bind (wpAny_onRaise (wpAny_bind (m := Builtin.SmallTypes.nextOf (.ref p)) ?_)))
  by_cases hx : xs[i]? = none
  · refine nxt_end hh (cp.on sa.extBut D.i1z) (sl.on sa.extBut D.l1z) hx fun hb e sb he => ?_
    obtain ⟨oe, ge, ce⟩ := he
    have zb : IsZip hb z TI TO .ellipsis := sb _ _ D.i1z.symm za
    have ne : e ≠ z := fun y => by
      subst y
      rw [zb] at ge
      cases ge
      simp at ce
    exact wpAny_setField_rec zb (by simp) fun hc _ sc => k hc e (fun c o c1 _ c3 _ y => sc.extBut _ _ c1 (sb _ _ c3 (sa.extBut _ _ c1 y))) ⟨oe, sc.extBut _ _ ne ge, ce⟩
  · obtain ⟨x, hx'⟩ := Option.ne_none_iff_exists'.mp hx
    have hy := hend.resolve_left hx
    refine nxt_item (cp.on sa.extBut D.i1z) (sl.on sa.extBut D.l1z) hx' fun hb pb sb => wpAny_pure ?_
    have Ob : IsPair hb TO a b := sb.extBut _ _ D.TOi1 (sa.extBut _ _ D.TOz hO)
    refine wpAny_bind (wpAny_seqItems Ob rfl (wpAny_bind (wpAny_updateSeq_pair Ob fun hc Oc sc => ?_)))
    refine wpAny_bind (wpAny_letGo (wpAny_pure (wpAny_bind (wpAny_bind (wpAny_onRaise (wpAny_bind (m := Builtin.SmallTypes.nextOf (.ref q)) ?_))))))
    refine nxt_end hh (((cq.on sa.extBut D.i2z).on sb.extBut D.i12.symm).on sc.extBut D.TOi2.symm) (((sm.on sa.extBut D.l2z).on sb.extBut D.l2i1).on sc.extBut D.l2TO) hy fun hd e sd he => ?_
    obtain ⟨oe, ge, ce⟩ := he
    have zd : IsZip hd z TI TO .ellipsis := sd _ _ D.i2z.symm (sc.extBut _ _ D.TOz.symm (sb.extBut _ _ D.i1z.symm za))
    have ne : e ≠ z := fun y => by
      subst y
      rw [zd] at ge
      cases ge
      simp at ce
    exact wpAny_setField_rec zd (by simp) fun hf _ sf => k hf e (fun c o c1 c2 c3 c4 y => sf.extBut _ _ c1 (sd _ _ c4 (sc.extBut _ _ c2 (sb.extBut _ _ c3 (sa.extBut _ _ c1 y))))) ⟨oe, sf.extBut _ _ ne ge, ce⟩
end
end ZpG
namespace ZpG
open PySem PySem.Spec PyProof.Rows L2 RZ
abbrev it0 (t : Bool) (l : Addr) : Obj := { cls := .type (kn t), data := .fields #[.ref l, .int 0 0] }
abbrev two0 (h : Heap) (t u : Bool) (l m : Addr) : Heap := (h.push (it0 t l)).push (it0 u m)
abbrev ins0 (h : Heap) (t u : Bool) (l m : Addr) : Heap := (two0 h t u l m).push { cls := .type "tuple", data := .seq #[.ref h.objs.size, .ref (h.push (it0 t l)).objs.size] }
abbrev out0 (h : Heap) (t u : Bool) (l m : Addr) : Heap := (ins0 h t u l m).push { cls := .type "tuple", data := .seq #[.none, .none] }
abbrev zip0 (h : Heap) (t u : Bool) (l m : Addr) : Heap := (out0 h t u l m).push { cls := .type "zip", data := .fields #[.none, .bool false, .bool false, .ref (two0 h t u l m).objs.size, .ref (ins0 h t u l m).objs.size] }
theorem new_meets (t u : Bool) (l m : Addr) (xs ys : Array Value) : Meets (Builtin.«zip.__new__» ⟨[.type "zip", .ref l, .ref m], []⟩) (fun _ R s => Sq t s.heap l xs ∧ Sq u s.heap m ys ∧ R (.ok (.ret (.ref (out0 s.heap t u l m).objs.size))) { s with heap := zip0 s.heap t u l m }) := by
  refine .of_wp fun prog w A R s h => ?_
  obtain ⟨hp, g, d, tk, os⟩ := s
  obtain ⟨h1, h2, h⟩ := h
  have hsub := sub_zip
  cases t with
  | true =>
    have a1 : Heap.IsTuple (Shared.heap ⟨hp, g, d, tk, os⟩) l xs := h1
    cases u with
    | true =>
      have a2 : Heap.IsTuple (Shared.heap ⟨hp.push { cls := .type "tuple_iterator", data := .fields #[.ref l, .int 0 0] }, g, d, tk, os⟩) m ys := Heap.IsTuple.push (show hp.IsTuple m ys from h2) _
      wp_walk using wpAny_pyIter_tuple a1, wpAny_pyIter_tuple a2
      exact ⟨_, rfl, h⟩
    | false =>
      have a2 : Heap.IsList (Shared.heap ⟨hp.push { cls := .type "tuple_iterator", data := .fields #[.ref l, .int 0 0] }, g, d, tk, os⟩) m ys := Heap.IsList.push (show hp.IsList m ys from h2) _
      wp_walk using wpAny_pyIter_tuple a1, wpAny_pyIter_list a2
      exact ⟨_, rfl, h⟩
  | false =>
    have a1 : Heap.IsList (Shared.heap ⟨hp, g, d, tk, os⟩) l xs := h1
    cases u with
    | true =>
      have a2 : Heap.IsTuple (Shared.heap ⟨hp.push { cls := .type "list_iterator", data := .fields #[.ref l, .int 0 0] }, g, d, tk, os⟩) m ys := Heap.IsTuple.push (show hp.IsTuple m ys from h2) _
      wp_walk using wpAny_pyIter_list a1, wpAny_pyIter_tuple a2
      exact ⟨_, rfl, h⟩
    | false =>
      have a2 : Heap.IsList (Shared.heap ⟨hp.push { cls := .type "list_iterator", data := .fields #[.ref l, .int 0 0] }, g, d, tk, os⟩) m ys := Heap.IsList.push (show hp.IsList m ys from h2) _
      wp_walk using wpAny_pyIter_list a1, wpAny_pyIter_list a2
      exact ⟨_, rfl, h⟩
section
variable {prog : Program} {w : World} {A : Around} {E : Value → Shared → Prop} {s : Shared} {t u : Bool}
theorem call_new {l m : Addr} {xs ys : Array Value} {Q : Value → Shared → Prop} (sl : Sq t s.heap l xs) (sm : Sq u s.heap m ys)
    (k : ∀ h', IsZip h' (s.heap.objs.size + 4) (s.heap.objs.size + 2) (s.heap.objs.size + 3) .none → IsPair h' (s.heap.objs.size + 2) (.ref s.heap.objs.size) (.ref (s.heap.objs.size + 1)) → IsPair h' (s.heap.objs.size + 3) .none .none →
      Cur t h' s.heap.objs.size l 0 → Cur u h' (s.heap.objs.size + 1) m 0 → (∀ c o, s.heap.get? c = some o → h'.get? c = some o) → Q (.ref (s.heap.objs.size + 4)) { s with heap := h' }) :
    wpAny (model prog w) A (call (.type "zip") [.ref l, .ref m]) Q E s := by
  refine callType_new F.called_zip (by decide) (F.typeCall_zip_2 _ _) (F.newCall_zip_2 _ _) (fun obj => F.args_object_init_3 obj _ _) F.entry_zip_new (new_meets t u l m xs ys) ⟨sl, sm, ?_⟩
  have n1 : (s.heap.push (it0 t l)).objs.size = s.heap.objs.size + 1 := Heap.size_push ..
  have n2 : (two0 s.heap t u l m).objs.size = s.heap.objs.size + 2 := by rw [Heap.size_push, n1]
  have n3 : (ins0 s.heap t u l m).objs.size = s.heap.objs.size + 3 := by rw [Heap.size_push, n2]
  have n4 : (out0 s.heap t u l m).objs.size = s.heap.objs.size + 4 := by rw [Heap.size_push, n3]
  have up1 : ∀ {c : Addr} {o ob : Obj} {g : Heap}, g.get? c = some o → (g.push ob).get? c = some o := fun {c o ob g} e => Heap.get?_push_of_some _ e
  have gz : (zip0 s.heap t u l m).get? (s.heap.objs.size + 4) = some _ := n4 ▸ Heap.get?_push_size _ rfl
  have go : (zip0 s.heap t u l m).get? (s.heap.objs.size + 3) = some { cls := .type "tuple", data := .seq #[.none, .none] } := n3 ▸ up1 (Heap.get?_push_size _ rfl)
  have gi : (zip0 s.heap t u l m).get? (s.heap.objs.size + 2) = some { cls := .type "tuple", data := .seq #[.ref s.heap.objs.size, .ref (s.heap.push (it0 t l)).objs.size] } := n2 ▸ up1 (up1 (Heap.get?_push_size _ rfl))
  have gq : (zip0 s.heap t u l m).get? (s.heap.objs.size + 1) = some (it0 u m) := n1 ▸ up1 (up1 (up1 (Heap.get?_push_size _ rfl)))
  have gp : (zip0 s.heap t u l m).get? s.heap.objs.size = some (it0 t l) := up1 (up1 (up1 (up1 (Heap.get?_push_size _ rfl))))
  rw [n1] at gi
  rw [n2, n3] at gz
  rw [n4]
  exact ⟨⟨_, gz, rfl⟩, k _ gz gi go ⟨_, gp, rfl, rfl⟩ ⟨_, gq, rfl, rfl⟩ fun c o e => up1 (up1 (up1 (up1 (up1 e))))⟩
variable {z TI TO p q l m : Addr} {i j : Nat} {xs ys : Array Value} {a b : Value}
theorem next_goes {x y : Value} {Q : Option Value → Shared → Prop} (D : ZipApart z TI TO p q l m) (hz : IsZip s.heap z TI TO .none) (hI : IsPair s.heap TI (.ref p) (.ref q)) (hO : IsPair s.heap TO a b)
    (cp : Cur t s.heap p l i) (cq : Cur u s.heap q m j) (sl : Sq t s.heap l xs) (sm : Sq u s.heap m ys) (hx : xs[i]? = some x) (hy : ys[j]? = some y)
    (k : ∀ h', IsZip h' z TI TO (rawInt s.heap.objs.size) → IsPair h' TO x y → Cur t h' p l (i + 1) → Cur u h' q m (j + 1) → IsPair h' s.heap.objs.size x y → h'.objs.size = s.heap.objs.size + 1 →
      (∀ c o, c ≠ z → c ≠ TO → c ≠ p → c ≠ q → s.heap.get? c = some o → h'.get? c = some o) → Q (some (.ref s.heap.objs.size)) { s with heap := h' }) : wpAny (model prog w) A (pyNext (.ref z)) Q E s := by
  have ty : s.TypeIs (.ref z) "zip" := ⟨_, hz, rfl⟩
  unfold pyNext
  exact wpAny_bind (wpAny_attempt (wpAny_callSpecial?_slot (name := Str.ofString "__next__") ty F.slot_zip_next (wpAny_call_entry F.slot_zip_next ty F.entry_zip_next
    (zip_goes D hz hI hO cp cq sl sm hx hy fun h' a1 a2 a3 a4 a5 a6 a7 => wpAny_pure (k h' a1 a2 a3 a4 a5 a6 a7)) (F.args_zip_next_1 _))))
theorem next_ends {Q : Option Value → Shared → Prop} (hh : A.handled = none) (D : ZipApart z TI TO p q l m) (hz : IsZip s.heap z TI TO .none) (hI : IsPair s.heap TI (.ref p) (.ref q)) (hO : IsPair s.heap TO a b)
    (cp : Cur t s.heap p l i) (cq : Cur u s.heap q m j) (sl : Sq t s.heap l xs) (sm : Sq u s.heap m ys) (hend : xs[i]? = none ∨ ys[j]? = none)
    (k : ∀ h', (∀ c o, c ≠ z → c ≠ TO → c ≠ p → c ≠ q → s.heap.get? c = some o → h'.get? c = some o) → Q none { s with heap := h' }) : wpAny (model prog w) A (pyNext (.ref z)) Q E s := by
  have ty : s.TypeIs (.ref z) "zip" := ⟨_, hz, rfl⟩
  unfold pyNext
  refine wpAny_bind (wpAny_attempt (wpAny_callSpecial?_slot (name := Str.ofString "__next__") ty F.slot_zip_next (wpAny_call_entry F.slot_zip_next ty F.entry_zip_next (zip_ends hh D hz hI hO cp cq sl sm hend fun h' e kp he => ?_) (F.args_zip_next_1 _))))
  obtain ⟨o, ho, hc⟩ := he
  exact wpAny_bind (wpAny_isInstance (T := "StopIteration") (b := true) ⟨o, ho, hc⟩ isSubtype_stop (wpAny_pure (k _ kp)))
end
/-! ### the walk -/
def SqV (t : Bool) (K : PySem.W.Frag) (H : Hp) (a : Addr) (xs : List V) : Prop := if t = true then SqT K H a xs else SqL K H a xs
theorem SqV.of_t {K : PySem.W.Frag} {H : Hp} {a : Addr} {xs : List V} (h : SqT K H a xs) : SqV true K H a xs := h
theorem SqV.of_l {K : PySem.W.Frag} {H : Hp} {a : Addr} {xs : List V} (h : SqL K H a xs) : SqV false K H a xs := h
theorem sq_of {X : Cx} {pins : List (Addr × Obj)} {σ : L2.St} {H : Hp} {s : Shared} {t : Bool} {a : Addr} {xs : List V} (I : L2.Inv X pins σ H s) (h : SqV t X.K H a xs) : ∃ its : List Value, Vals xs its ∧ Sq t s.heap a its.toArray ∧ a < s.heap.objs.size := by
  cases t with
  | true =>
    obtain ⟨its, rv, p, _⟩ := I.tuple (show SqT X.K H a xs from h)
    have p : s.heap.IsTuple a its.toArray := p
    obtain ⟨o, ho, r⟩ := p
    exact ⟨its, rv, ⟨o, ho, r⟩, Heap.lt_size ho⟩
  | false =>
    obtain ⟨its, rv, p, _⟩ := I.list (show SqL X.K H a xs from h)
    have q : s.heap.IsList a its.toArray := p.isList
    exact ⟨its, rv, q, p.lt⟩
theorem sq_inj {X : Cx} {pins : List (Addr × Obj)} {σ : L2.St} {H : Hp} {s : Shared} {t : Bool} {a : Addr} {xs ys : List V} (I : L2.Inv X pins σ H s) (h : SqV t X.K H a xs) (g : SqV t X.K H a ys) : xs = ys := by
  cases t with
  | true => exact I.tuple_inj (show SqT X.K H a xs from h) g
  | false => exact I.list_inj (show SqL X.K H a xs from h) g
def ItZ (t u : Bool) (K : PySem.W.Frag) (a b : Addr) : It where
  go i H := ∃ (xs ys : List V) (x y : V), SqV t K H a xs ∧ SqV u K H b ys ∧ xs[i]? = some x ∧ ys[i]? = some y
  yld i H v H' := ∃ (T : Addr) (x y : V), v = .ref T ∧ H T = none ∧ H' = upd H T (.tup [x, y]) ∧ (∀ xs, SqV t K H a xs → xs[i]? = some x) ∧ ∀ ys, SqV u K H b ys → ys[i]? = some y
  stop i H := ∃ xs ys : List V, SqV t K H a xs ∧ SqV u K H b ys ∧ (xs.length ≤ i ∨ ys.length ≤ i)
theorem turnZ {P : Program} {w : World} {K : PySem.W.Frag} {elts : List Expr} {kk : Nat} {tpos : Pos} {t u : Bool} {a b z TI TO p q : Addr} (D : ZipApart z TI TO p q a b) :
    Turn P w K (.Tuple elts kk tpos) (ItZ t u K a b) [z, TI, TO, p, q] z (fun i h => IsZip h z TI TO .none ∧ IsPair h TI (.ref p) (.ref q) ∧ (∃ x y, IsPair h TO x y) ∧ Cur t h p a i ∧ Cur u h q b i) where
  mem := List.mem_cons_self
  obj i h st c hc := by
    obtain ⟨hz, hI, ⟨x, y, hO⟩, ⟨o1, e1, _, d1⟩, ⟨o2, e2, _, d2⟩⟩ := st
    simp only [List.mem_cons, List.not_mem_nil, or_false] at hc
    rcases hc with e | e | e | e | e <;> subst e
    · exact ⟨_, hz, fun v y => nomatch y⟩
    · exact ⟨_, hI, fun v y => nomatch y⟩
    · exact ⟨_, hO, fun v y => nomatch y⟩
    · exact ⟨o1, e1, fun v y => by rw [d1] at y; cases y⟩
    · exact ⟨o2, e2, fun v y => by rw [d2] at y; cases y⟩
  keep i h h' st k := by
    obtain ⟨hz, hI, ⟨x, y, hO⟩, c1, c2⟩ := st
    exact ⟨k z (by simp) _ hz, k TI (by simp) _ hI, ⟨x, y, k TO (by simp) _ hO⟩, c1.by fun o e => k p (by simp) o e, c2.by fun o e => k q (by simp) o e⟩
  item := by
    intro X hP hw hK hc i pins s σ H E I hf st hg
    subst hP hw hK
    obtain ⟨hz, hI, ⟨x0, y0, hO⟩, c1, c2⟩ := st
    obtain ⟨xs, ys, x, y, hqx, hqy, hx, hy⟩ := hg
    obtain ⟨its, rv, sl, _⟩ := sq_of I hqx
    obtain ⟨jts, rw', sm, _⟩ := sq_of I hqy
    obtain ⟨v1, hv1, r1⟩ := rv.get hx
    obtain ⟨v2, hv2, r2⟩ := rw'.get hy
    have zl := Heap.lt_size hz
    have nin : ∀ {c : Addr}, c ∉ [z, TI, TO, p, q] → c ≠ z ∧ c ≠ TO ∧ c ≠ p ∧ c ≠ q := fun {c} n => ⟨fun e => n (by simp [e]), fun e => n (by simp [e]), fun e => n (by simp [e]), fun e => n (by simp [e])⟩
    refine next_goes D hz hI hO c1 c2 sl sm (x := v1) (y := v2) (by simpa using hv1) (by simpa using hv2) fun h1 a1 a2 a3 a4 a5 a6 a7 => ⟨_, rfl, ?_⟩
    refine wpAny_letOwnedTupleGo_zip (s := { s with heap := h1 }) a1 fun h2 b1 sb => ?_
    have gT : h2.get? s.heap.objs.size = some { cls := .type "tuple", data := .seq #[v1, v2] } := (sb.2 _ (Nat.ne_of_gt zl)).trans a5
    have nw : ObjOk X.prog X.w (upd H s.heap.objs.size (.tup [x, y])) h2 s.heap.objs.size (.tup [x, y]) := ⟨by show 2 ≤ sizeLine; decide, [v1, v2], .cons r1 (.cons r2 .nil), ⟨_, gT, rfl, _, rfl⟩⟩
    have I1 : Inv X pins σ (upd H s.heap.objs.size (.tup [x, y])) { s with heap := h2 } :=
      I.turnedNew (t' := s.toks) (ch := [z, TI, TO, p, q]) (fun c o hb e => (sb.2 c (nin hb).1).trans (a7 c o (nin hb).1 (nin hb).2.1 (nin hb).2.2.1 (nin hb).2.2.2 e)) hf (Nat.le_refl _) nw
    refine ⟨.ref s.heap.objs.size, _, I1, rfl, ⟨_, x, y, rfl, I.hok.fresh (Nat.le_refl _), rfl, fun l hl => by rw [sq_inj I hl hqx]; exact hx, fun l hl => by rw [sq_inj I hl hqy]; exact hy⟩, ⟨b1, ?_, ⟨v1, v2, ?_⟩, ?_, ?_⟩, fun c hcm => ?_⟩
    · exact (sb.2 _ D.TIz).trans (a7 _ _ D.TIz D.TITO D.TIi1 D.TIi2 hI)
    · exact (sb.2 _ D.TOz).trans a2
    · exact a3.by fun o e => (sb.2 _ D.i1z).trans e
    · exact a4.by fun o e => (sb.2 _ D.i2z).trans e
    · have lt : c < s.heap.objs.size := by
        simp only [List.mem_cons, List.not_mem_nil, or_false] at hcm
        rcases hcm with e | e | e | e | e <;> subst e
        · exact zl
        · exact Heap.lt_size hI
        · exact Heap.lt_size hO
        · exact c1.lt
        · exact c2.lt
      rw [upd_ne (Nat.ne_of_lt lt)]
      exact (hf c hcm).1
  done := by
    intro X hP hw hK hc i pins s σ H E I hf st hg
    subst hP hw hK
    obtain ⟨hz, hI, ⟨x0, y0, hO⟩, c1, c2⟩ := st
    obtain ⟨xs, ys, hqx, hqy, hend⟩ := hg
    obtain ⟨its, rv, sl, _⟩ := sq_of I hqx
    obtain ⟨jts, rw', sm, _⟩ := sq_of I hqy
    have l1 := rv.length
    have l2 := rw'.length
    have he : its.toArray[i]? = none ∨ jts.toArray[i]? = none := hend.imp (fun e => by simp; omega) fun e => by simp; omega
    exact next_ends (I.ok.hd hc) D hz hI hO c1 c2 sl sm he fun h' hk => ⟨rfl, I.turnedL (t' := s.toks) (ch := [z, TI, TO, p, q]) (fun c o hb e => hk c o (fun y => hb (by simp [y])) (fun y => hb (by simp [y])) (fun y => hb (by simp [y])) (fun y => hb (by simp [y])) e) hf⟩
  self A i s Q E st h := wpAny_pyIter_zip st.1 h
/-- zip(e, e2): which of the two are tuples is told by t and u -/
def iZipG (t u : Bool) (K : PySem.W.Frag) (ta : TA) : TI := fun σ H R => ta σ H fun vs H1 => ∃ (a b : Addr) (xs ys : List V), vs = [.ref a, .ref b] ∧ SqV t K H1 a xs ∧ SqV u K H1 b ys ∧ R (ItZ t u K a b) H1
theorem pi_zipG (t u : Bool) {X : Cx} {e e2 : Expr} {ta : TA} {p pos tpos : Pos} {elts : List Expr} {kk : Nat} (hg : Gl X "zip") (hm : X.mg "zip" = none) (ha : PA X [e, e2] ta)
    (hs : starEach [e, e2] X.env = (false, eval e X.env) :: starEach [e2] X.env := by rfl) (hpl : (backTo pos (starEach [e2] X.env)).any (·.1) = false := by rfl) :
    PI X (.Tuple elts kk tpos) (.Call (.Name "zip" p) [e, e2] [] pos) (iZipG t u X.K ta) := by
  refine ⟨fun pins s σ H R I h => ?_⟩
  refine Call_ (ld_blt I hg hm PyProof.Rows.boot_zip (PyProof.Rows.callWith_type1 (thn (ha.run pos pins s σ H _ I h) fun us s1 q1 => ?_) hs hpl))
  obtain ⟨vs, H1, I1, r1, a, b, xs, ys, rfl, hqx, hqy, q⟩ := q1
  cases r1 with
  | cons r rr =>
    cases rr with
    | cons r' rr =>
      cases rr
      cases r
      cases r'
      obtain ⟨its, rv, sl, la⟩ := sq_of I1 hqx
      obtain ⟨jts, rw', sm, lb⟩ := sq_of I1 hqy
      have new5 : ∀ c ∈ [s1.heap.objs.size + 4, s1.heap.objs.size + 2, s1.heap.objs.size + 3, s1.heap.objs.size, s1.heap.objs.size + 1], FpOk X pins H1 c := fun c hc => by
        have le : s1.heap.objs.size ≤ c := by
          simp only [List.mem_cons, List.not_mem_nil, or_false] at hc
          omega
        exact I1.fpOk le (I1.hok.fresh le)
      refine call_new sl sm fun h' hz hI hO c1 c2 hk => wpAny_pyIter_zip hz ?_
      exact ⟨s1.heap.objs.size + 4, [s1.heap.objs.size + 4, s1.heap.objs.size + 2, s1.heap.objs.size + 3, s1.heap.objs.size, s1.heap.objs.size + 1], _, _, H1, rfl, I1.kept (t' := s1.toks) hk, turnZ (PySem.W.ktu_apart s1.heap.objs.size a b la lb), ⟨hz, hI, ⟨_, _, hO⟩, c1, c2⟩, new5, q⟩
theorem walkZ {t u : Bool} {K : PySem.W.Frag} {a b : Addr} {xs ys : List V} {n : Nat} (hn : n = min xs.length ys.length) : Walk (ItZ t u K a b) n (fun H => SqV t K H a xs ∧ SqV u K H b ys) (YPair (fun i => xs[i]?) (fun i => ys[i]?)) := by
  subst hn
  refine ⟨fun i _ hi q => ?_, fun _ q => ⟨xs, ys, q.1, q.2, by omega⟩, fun i H v H' _ q y => ?_⟩
  · have h1 : i < xs.length := by omega
    have h2 : i < ys.length := by omega
    exact ⟨xs, ys, xs[i], ys[i], q.1, q.2, List.getElem?_eq_getElem h1, List.getElem?_eq_getElem h2⟩
  · obtain ⟨T, x, v2, h1, h2, h3, h4, h5⟩ := y
    exact ⟨T, x, v2, h1, h2, h3, h4 xs q.1, h5 ys q.2⟩
end ZpG
namespace K9
open PySem PySem.Spec PyProof.Rows L2 RZ
/-! ### dicts: small things -/
/-- math.lcm of two numbers -/
def rLcm : List V → Hp → VK → Prop := fun vs H Q => ∃ a b c : Int, vs = [.int a, .int b] ∧ a.natAbs < 2 ^ 64 ∧ b.natAbs < 2 ^ 64 ∧ (((Nat.lcm 1 a.natAbs).lcm b.natAbs : Nat) : Int) = c ∧ c.natAbs < 2 ^ 64 ∧ Q (.int c) H
theorem cr_lcm {X : Cx} : CallR X (.builtin "math.lcm") rLcm := by
  intro pins s σ H vs us Q I r h
  obtain ⟨a, b, c, rfl, h1, h2, h3, h4, q⟩ := h
  obtain ⟨t, u, rfl⟩ := Vals.int2 r
  have lg : c.natAbs.log2 < bitsLine := by
    by_cases z : c.natAbs = 0
    · rw [z]; decide
    · exact Nat.lt_trans ((Nat.log2_lt z).mpr h4) (by decide)
  exact PySem.W.mg_lcm_v h1 h2 h3 lg ⟨.int _, H, I.tok _, ⟨_, rfl⟩, q⟩
theorem putK_new {κ : Type} [DecidableEq κ] {kvs : List (κ × V)} {k : κ} {v : V} (h : ∀ p ∈ kvs, p.1 ≠ k) : putK kvs k v = kvs ++ [(k, v)] := by
  unfold putK
  rw [if_neg]
  intro z
  obtain ⟨p, hp, e⟩ := List.any_eq_true.mp z
  exact h p hp (of_decide_eq_true e)
theorem dInt2 {i j : Int} : decide (V.int i = V.int j) = decide (i = j) := decide_eq_decide.mpr ⟨fun y => V.int.inj y, fun y => by rw [y]⟩
def spFirstPow : Sp := fun vs H Q _ => ∃ d b : Int, vs = [.int d, .int b] ∧ 0 < d ∧ d < 1000 ∧ Q (.int (b / d + 1)) H
def spJoined (K : PySem.W.Frag) : Sp := fun vs H Q _ => ∃ (a b : Addr) (u v : List Int), vs = [.ref a, .ref b] ∧ SqT K H a (iV u) ∧ SqT K H b (iV v) ∧ u.length ≤ 24 ∧ v.length = u.length ∧ ∀ (H' : Hp) (p : Addr), Same H H' → H p = none → H' p = some (.tup (iV (List.zipWith (· + ·) u v))) → Q (.ref p) H'
def spLen (K : PySem.W.Frag) : Sp := fun vs H Q _ => ∃ (b : Addr) (W : List Int), vs = [.ref b] ∧ SqT K H b (iV W) ∧ Q (.int W.sum) H
def spInv : Sp := fun vs H Q _ => ∃ n : Int, vs = [.int n] ∧ 0 ≤ n ∧ n < 2 ^ 29 ∧ ∀ (r : Int) (H' : Hp), 0 ≤ r → r < 2 ^ 31 → Same H H' → Q (.int r) H'
theorem scFirstPow : FnScope ["degree", "bound"] ["degree", "bound"] (defScope sFirstPower) := ⟨rfl, rfl, rfl, by decide +kernel, rfl, by decide +kernel, by decide +kernel⟩
theorem scJnd : FnScope ["word", "other", "left", "right"] ["word", "other"] (defScope sJoined) := ⟨rfl, rfl, rfl, by decide +kernel, rfl, by decide +kernel, by decide +kernel⟩
theorem scLen : FnScope ["word"] ["word"] (defScope sLenOf) := ⟨rfl, rfl, rfl, by decide +kernel, rfl, by decide +kernel, by decide +kernel⟩
abbrev nInv : List Str := ["number", "high", "low", "before", "now", "times"]
theorem scInv : FnScope nInv ["number"] (defScope sInverseByPrime) := ⟨rfl, rfl, rfl, by decide +kernel, rfl, by decide +kernel, by decide +kernel⟩
section
variable {P : Program} {w : World} {K : PySem.W.Frag} {mg : Str → Option Value} {base : Heap}
theorem ok_firstpow {f : Addr} {fd : FuncData} (F : Fun K "first_power" "first_power" sFirstPower f fd) : FnOk P w K mg base CX0 1 f fd ["degree", "bound"] spFirstPow := by
  refine F.ok scFirstPow (fun vs H Q E h => ?_) (fun cdv A outer s H vs Q E hr h => ?_)
  · obtain ⟨d, b, rfl, _⟩ := h; rfl
  obtain ⟨d, b, rfl, h0, h1, k⟩ := h
  refine ⟨_, pss_one (ps_ret (pe_op op_add (pe_op op_fdiv (pv 1) (pv 0)) pe_int)), ?_⟩
  exact ⟨_, rfl, _, rfl, _, _, rfl, rfl, ⟨h0, by omega⟩, _, _, rfl, rfl, k⟩
theorem ok_jnd {f : Addr} {fd : FuncData} (F : Fun K "_joined" "_joined" sJoined f fd) (T : Txt K mg) : FnOk P w K mg base CX0 1 f fd ["word", "other"] (spJoined K) := by
  refine F.ok scJnd (fun vs H Q E h => ?_) (fun cdv A outer s H vs Q E hr h => ?_)
  · obtain ⟨a, b, u, v, rfl, _⟩ := h; rfl
  obtain ⟨a, b, u, v, rfl, ha, hb, hn, hv, k⟩ := h
  refine ⟨_, pss_one (ps_ret (pe_callTy call_tuple_of (by rfl) T.tuple bootTuple (pa_cons (pe_lc (own := [("left", 2), ("right", 3)]) (g := gTup K 2 (gCons (gName 2) (gCons (gName 3) gNil))) rfl scJnd.nd (pi_zipA (by rfl) T.zip (pa_cons (pv 0) (pa_cons (pv 1) pa_nil)))
      (blkOk_by (N := ["word", "other", "left", "right"]) (sc := defScope sJoined) (by decide +kernel)) (fun _ _ _ _ _ => pg_tup (by rfl) (pgs_cons (pg_name (i := 2) scJnd.nd rfl (.inl rfl)) (pgs_cons (pg_name (i := 3) scJnd.nd rfl (.inl rfl)) pgs_nil))) (fun _ _ _ _ _ => pts_nil)
      (fun _ _ _ _ _ => pe_op op_add (pv 2) (pv 3))) pa_nil))), ?_⟩
  refine ⟨_, rfl, _, rfl, a, b, iV u, iV v, rfl, .inr ⟨ha, hb, fun D hD => ?_⟩⟩
  refine lc_zip2 (fun d e => V.int (d + e)) hD ha hb (by omega) (fun _ _ => rfl) (fun n d e H1 Q1 h1 h2 s2 q => ?_) fun H2 s2 h2 => ?_
  · exact ⟨_, rfl, _, rfl, _, _, rfl, rfl, q _ (Same.refl _)⟩
  · refine ⟨D, _, rfl, .inl ⟨SqL.of h2, fun l hl => k _ l (s2.trans (Same.new hl)) (none_of s2 hl) ?_⟩⟩
    rw [upd_same]
    exact congrArg (fun z => some (HO.tup z)) (by show _ = List.map V.int _; rw [List.map_zipWith])
theorem ok_len {f : Addr} {fd : FuncData} (F : Fun K "length_of" "length_of" sLenOf f fd) (T : Txt K mg) : FnOk P w K mg base CX0 1 f fd ["word"] (spLen K) := by
  refine F.ok scLen (fun vs H Q E h => ?_) (fun cdv A outer s H vs Q E hr h => ?_)
  · obtain ⟨b, W, rfl, _⟩ := h; rfl
  obtain ⟨b, W, rfl, hb, k⟩ := h
  refine ⟨_, pss_one (ps_ret (pe_callB (cr_sumT rfl) (by rfl) T.sum bootSum (pa_cons (pv 0) pa_nil))), ?_⟩
  exact ⟨_, rfl, b, W, rfl, hb, k⟩
theorem ok_inv {f : Addr} {fd : FuncData} (F : Fun K "_inverse_by_prime" "_inverse_by_prime" sInverseByPrime f fd) (T : Txt K mg) : FnOk P w K mg base CX0 1 f fd ["number"] spInv := by
  refine F.ok scInv (fun vs H Q E h => ?_) (fun cdv A outer s H vs Q E hr h => ?_)
  · obtain ⟨n, rfl, _⟩ := h; rfl
  obtain ⟨n, rfl, h0, h1, k⟩ := h
  obtain ⟨t1, m1⟩ := T.cPRIMEechelon
  refine ⟨_, pss_cons (ps_par (i := 1) (j := 2) rfl scInv.nd rfl rfl (by decide) rfl rfl (pa_cons (pe_glob (v := .int 2147483647) (by rfl) m1 ⟨_, rfl⟩) (pa_cons (pv 0) pa_nil)) (by rfl))
    (pss_cons (ps_asg (pe_tup (pa_cons pe_int (pa_cons pe_int pa_nil))) (pg_tup (by rfl) (pgs_cons (pg_name (i := 3) scInv.nd rfl (.inl rfl)) (pgs_cons (pg_name (i := 4) scInv.nd rfl (.inl rfl)) pgs_nil))))
    (pss_cons (ps_while PassesOwn.never (pt_cmpR op_gt (pv 2) pe_int (nomark _))
      (pss_cons (ps_set (i := 5) scInv.nd rfl (.inl rfl) (pe_op op_fdiv (pv 1) (pv 2)))
      (pss_cons (ps_par (i := 1) (j := 2) rfl scInv.nd rfl rfl (by decide) rfl rfl (pa_cons (pv 2) (pa_cons (pe_op op_sub (pv 1) (pe_op op_mul (pv 5) (pv 2))) pa_nil)) (by rfl))
      (pss_one (ps_par (i := 3) (j := 4) rfl scInv.nd rfl rfl (by decide) rfl rfl (pa_cons (pv 4) (pa_cons (pe_op op_sub (pv 3) (pe_op op_mul (pv 5) (pv 4))) pa_nil)) (by rfl))))))
    (pss_one (ps_ret (pe_op op_mod (pv 4) (pe_glob (v := .int 2147483647) (by rfl) m1 ⟨_, rfl⟩)))))), ?_⟩
  refine ⟨_, rfl, _, _, rfl, by show 2 ≤ sizeLine; decide, fun t ht => ⟨t, _, rfl, SqT.of upd_same, rfl, _, _, rfl, _, _, rfl, rfl, ?_⟩⟩
  refine while_by (fun σ H' => Same H H' ∧ ∃ (x y b c : Int) (o : Option V), σ = [some (.int n), some (.int x), some (.int y), some (.int b), some (.int c), o] ∧ 0 ≤ x ∧ x < 2 ^ 31 ∧ 0 ≤ y ∧ y < 2 ^ 29) (fun σ _ => match σ with | [_, _, some (.int y), _, _, _] => y.toNat | _ => 0) ?_ ?_ ?_
  · exact ⟨Same.new ht, 2147483647, n, 0, 1, none, rfl, by decide, by decide, h0, h1⟩
  · rintro σ H' ⟨sm, x, y, b, c, o, rfl, hx0, hx1, hy0, hy1⟩
    refine ⟨_, rfl, _, _, rfl, rfl, _, rfl, ite2 (fun d => ?_) (fun d => ?_)⟩
    · have d' : 1 < y := of_decide_eq_true d
      have q0 : 0 ≤ x / y := Int.ediv_nonneg hx0 (by omega)
      have q1 : x / y ≤ x := Int.ediv_le_self _ hx0
      have e : x - x / y * y = x % y := by rw [Int.emod_def, Int.mul_comm y]
      have m0 := Int.emod_nonneg x (show y ≠ 0 by omega)
      have m1 := Int.emod_lt_of_pos x (show 0 < y by omega)
      refine ⟨_, rfl, _, rfl, _, _, rfl, rfl, ⟨by omega, by omega⟩, _, rfl, _, rfl, _, rfl, _, rfl, _, _, rfl, rfl, .inl ⟨by omega, by omega⟩, _, _, rfl, rfl, _, _, rfl, _, rfl, _, rfl, _, rfl, _, rfl, _, _, rfl, rfl, .inl ⟨by omega, by omega⟩, _, _, rfl, rfl, _, _, rfl, ?_⟩
      refine ⟨⟨sm, y, _, c, _, _, rfl, hy0, by omega, by rw [e]; exact m0, by rw [e]; omega⟩, ?_⟩
      show (x - x / y * y).toNat < y.toNat
      rw [e]
      omega
    · refine ⟨_, rfl, _, _, rfl, rfl, (by show (0 : Int) < 2147483647; decide), k _ H' (Int.emod_nonneg _ (by decide)) (Int.lt_trans (Int.emod_lt_of_pos _ (by decide)) (by decide)) sm⟩
  · rintro σ H' Q1 Q2 hq ⟨v, hv, i, j, e1, e2, b, hb, q⟩
    exact ⟨v, hv, i, j, e1, e2, b, hb, hq _ _ q⟩
end
end K9
namespace K9
open PySem PySem.Spec PyProof.Rows L2 RZ Dic
/-! ### rows as dicts -/
abbrev rowK (R : List (Int × Int)) : List (Key × V) := R.map fun r => (Sum.inl r.1, V.int r.2)
/-- a dict of ratios with the denominator 1 -/
structure RowQ (K : PySem.W.Frag) (H : Hp) (d : Addr) (R : List (Int × Int)) (kvs : List (Key × V)) : Prop where
  at' : H d = some (.dK kvs)
  is : Paired (fun (r : Int × Int) (kv : Key × V) => kv.1 = .inl r.1 ∧ ∃ q, kv.2 = .ref q ∧ SqT K H q [.int r.2, .int 1]) R kvs
theorem row_put {R : List (Int × Int)} {i : Nat} {c n : Int} (nd : (R.map (·.1)).Nodup) (h : R[i]? = some (c, n)) : putK (rowK (R.take i)) (Sum.inl c) (V.int n) = rowK (R.take (i + 1)) := by
  have e : R.take (i + 1) = R.take i ++ [(c, n)] := by rw [List.take_add_one, h]; rfl
  rw [e, putK_new]
  · show _ = List.map _ (R.take i ++ [(c, n)])
    rw [List.map_append]
    rfl
  · intro p hp z
    obtain ⟨r, hr, rfl⟩ := List.mem_map.mp hp
    have hc : r.1 = c := Sum.inl.inj z
    obtain ⟨j, hj⟩ := List.getElem?_of_mem hr
    have lj : j < i := by
      have := (List.getElem?_eq_some_iff.mp hj).1
      rw [List.length_take] at this
      omega
    rw [List.getElem?_take_of_lt lj] at hj
    have h1 : (R.map (·.1))[j]? = some c := by rw [List.getElem?_map, hj]; exact congrArg some hc
    have h2 : (R.map (·.1))[i]? = some c := by rw [List.getElem?_map, h]; rfl
    exact absurd ((List.getElem?_inj (List.getElem?_eq_some_iff.mp h1).1 nd).mp (h1.trans h2.symm)) (by omega)
theorem paired_get' {α β : Type} {F : α → β → Prop} : ∀ {l : List α} {m : List β} {i : Nat} {b : β}, Paired F l m → m[i]? = some b → ∃ a, l[i]? = some a ∧ F a b
  | _, _, 0, b, .cons (a := a) r _, h => by
    simp only [List.getElem?_cons_zero] at h
    cases h
    exact ⟨a, rfl, r⟩
  | _, _, i + 1, b, .cons _ t, h => by
    simp only [List.getElem?_cons_succ] at h
    obtain ⟨a, h1, h2⟩ := paired_get' t h
    exact ⟨a, by rw [List.getElem?_cons_succ]; exact h1, h2⟩
/-- what stood before a new object was laid, and what it holds now -/
theorem Same.back' {H H1 : Hp} {D : Addr} {o : HO} (s : Same H H1) (hD : H D = none) : Same H (upd H1 D o) := Same.back s hD
theorem ixT (K : PySem.W.Frag) {X : Cx} (h : X.K = K := by rfl) : IxR X (rIxT K) := h ▸ ix_tup
/-- what was said ahead of a lock holds behind it -/
theorem unlock {H H' : Hp} {d : Addr} {u : HO} {od : Obj} (h : H d = some u) (s : Same (upd H d (.frz od u)) H') : Same H (upd H' d u) := fun b o e => by
  by_cases z : b = d
  · subst z
    rw [upd_same, ← h, e]
  · rw [upd_ne z]
    exact s b o (by rw [upd_ne z]; exact e)
theorem locked {H : Hp} {d : Addr} {u : HO} {od : Obj} {b : Addr} {o : HO} (n : b ≠ d) (e : H b = some o) : upd H d (.frz od u) b = some o := by rw [upd_ne n]; exact e
theorem lockT {K : PySem.W.Frag} {H : Hp} {d b : Addr} {u : HO} {od : Obj} {xs : List V} (h : H d = some u) (n : ∀ ys, u ≠ .tup ys) (n2 : ∀ o y, u ≠ .frz o y) (e : SqT K H b xs) : SqT K (upd H d (.frz od u)) b xs := by
  rcases e with (e | ⟨ob, e⟩) | e
  · refine .inl (.inl (locked (fun z => ?_) e))
    rw [z, h] at e
    exact n _ (Option.some.inj e)
  · refine .inl (.inr ⟨ob, locked (fun z => ?_) e⟩)
    rw [z, h] at e
    exact n2 _ _ (Option.some.inj e)
  · exact .inr e
def spWhole (K : PySem.W.Frag) : Sp := fun vs H Q _ => ∃ (d : Addr) (R : List (Int × Int)) (kvs : List (Key × V)), vs = [.ref d] ∧ RowQ K H d R kvs ∧ R.length ≤ 900 ∧ (R.map (·.1)).Nodup ∧
  ∀ H' p, Same H H' → H p = none → H' p = some (.dK (rowK R)) → Q (.ref p) H'
abbrev nWM : List Str := ["row", "common", "ratio", "column"]
theorem scWM : FnScope nWM ["row"] (defScope sWholeMultiple) := ⟨rfl, rfl, rfl, by decide +kernel, rfl, by decide +kernel, by decide +kernel⟩
section
variable {P : Program} {w : World} {K : PySem.W.Frag} {mg : Str → Option Value} {base : Heap}
theorem ok_whole {f : Addr} {fd : FuncData} (F : Fun K "whole_multiple" "whole_multiple" sWholeMultiple f fd) (T : Txt K mg) : FnOk P w K mg base CX0 1 f fd ["row"] (spWhole K) := by
  refine F.ok scWM (fun vs H Q E h => ?_) (fun cdv A outer s H vs Q E hr h => ?_)
  · obtain ⟨d, R, kvs, rfl, _⟩ := h; rfl
  obtain ⟨d, R, kvs, rfl, ⟨hd, hR⟩, hn, nd, k⟩ := h
  refine ⟨_, pss_cons (ps_set (i := 1) scWM.nd rfl (.inr rfl) pe_int)
    (pss_cons (ps_lock (ps_for PassesOwn.never rfl (pi_values (pv 0)) (pg_name (i := 2) scWM.nd rfl (.inl rfl)) (pss_one (ps_set (i := 1) scWM.nd rfl (.inr rfl) (pe_callBfun cr_lcm (by rfl) T.lcm (pa_cons (pv 1) (pa_cons (pe_ix ix_tup (pv 2) pe_int (fun _ _ => rfl)) pa_nil)))))))
    (pss_one (ps_ret (pe_lock (pe_dct .k (hu_of hr) rfl scWM.nd (own := [("column", 3), ("ratio", 2)]) (g := gTup K 2 (gCons (gName 3) (gCons (gName 2) gNil))) (pi_items (pv 0)) (blkOk_by (N := nWM) (sc := defScope sWholeMultiple) (by decide +kernel)) (fun _ _ _ _ _ => pg_tup (by rfl) (pgs_cons (pg_name (i := 3) scWM.nd rfl (.inl rfl)) (pgs_cons (pg_name (i := 2) scWM.nd rfl (.inl rfl)) pgs_nil))) (fun _ _ _ _ _ => pts_nil)
      (fun _ _ _ _ _ => pv 3) (fun _ _ _ _ _ => pe_op op_mul (pe_ix (ixT K) (pv 2) pe_int (fun _ _ => rfl)) (pe_op op_fdiv (pv 1) (pe_ix (ixT K) (pv 2) pe_int (fun _ _ => rfl))))))))), ?_⟩
  have lR : kvs.length = R.length := (Paired.length hR).symm
  refine ⟨d, _, hd, trivial, fun od => ⟨_, rfl, d, od, kvs, rfl, upd_same, ?_⟩⟩
  refine for_it walk_values (fun i σ H' => (∃ o, σ = [some (.ref d), some (.int 1), o, none]) ∧ Same (upd H d (.frz od (.dK kvs))) H') ⟨⟨none, rfl⟩, Same.refl _⟩ (fun i σ H' _ p => p.2 _ _ upd_same) (fun i x σ H1 H2 hi p y => ?_) (fun σ H1 p => ?_)
  · obtain ⟨⟨o, rfl⟩, s1⟩ := p
    obtain ⟨rfl, k0, hk⟩ := y
    obtain ⟨r, hr1, _, q, rfl, hq⟩ := paired_get' hR hk
    refine ⟨_, rfl, _, rfl, q, _, _, _, rfl, rfl, tupSame s1 (lockT hd (fun _ z => nomatch z) (fun _ _ z => nomatch z) hq), rfl, 1, 1, 1, rfl, by decide, by decide, by decide, by decide, ?_⟩
    exact ⟨⟨_, rfl⟩, s1⟩
  · obtain ⟨⟨o, rfl⟩, s1⟩ := p
    refine ⟨s1 _ _ upd_same, ?_⟩
    have s2 := unlock hd s1
    have hd2 : upd H1 d (.dK kvs) d = some (.dK kvs) := upd_same
    generalize upd H1 d (.dK kvs) = H2 at *
    refine ⟨d, _, hd2, trivial, fun od2 => ⟨_, rfl, d, od2, kvs, rfl, upd_same, fun D hD => ?_⟩⟩
    have nD : D ≠ d := fun z => by rw [z, upd_same] at hD; cases hD
    have hD2 : H2 D = none := by rw [upd_ne nD] at hD; exact hD
    refine dc_it walk_items (fun i H' => Same (upd H2 d (.frz od2 (.dK kvs))) H' ∧ H' D = some (.dK (rowK (R.take i)))) ⟨Same.new hD, upd_same⟩ (fun i H' _ p => p.1 _ _ upd_same) (fun i x H3 H4 hi p y => ?_) fun H3 p => ?_
    · obtain ⟨t, x1, x2, rfl, ht, rfl, h1, h2⟩ := y
      obtain ⟨s3, h3⟩ := p
      obtain ⟨kv, hkv, e1⟩ := Option.map_eq_some_iff.mp h1
      obtain ⟨kv', hkv', e2⟩ := Option.map_eq_some_iff.mp h2
      rw [hkv] at hkv'
      cases hkv'
      obtain ⟨r, hr1, ek, q, ev, hq⟩ := paired_get' hR hkv
      rw [ek] at e1
      rw [ev] at e2
      subst e1 e2
      have s4 := s3.trans (Same.new (o := .tup [kV (.inl r.1), .ref q]) ht)
      have hq4 : SqT K (upd H3 t (.tup [kV (.inl r.1), .ref q])) q [.int r.2, .int 1] := tupSame s4 (lockT hd2 (fun _ z => nomatch z) (fun _ _ z => nomatch z) (tupSame s2 hq))
      have nt : D ≠ t := fun z => by rw [← z, h3] at ht; cases ht
      refine ⟨t, _, rfl, SqT.of upd_same, rfl, _, _, rfl, _, _, rfl, rfl, rfl, iteT (B := True) ⟨_, rfl, ?_⟩⟩
      refine ⟨_, rfl, q, _, _, _, rfl, rfl, hq4, rfl, _, rfl, _, rfl, q, _, _, _, rfl, rfl, hq4, rfl, _, _, rfl, rfl, ⟨by decide, by decide⟩, _, _, rfl, rfl, .inr ⟨by decide, by decide⟩, ?_⟩
      have lt : (rowK (R.take i)).length < sizeLine := by
        show (List.map _ _).length < _
        rw [List.length_map, List.length_take]
        exact small1000 (by omega)
      refine ⟨_, DPut.k (k := .inl r.1) (by rw [upd_ne nt]; exact h3) lt, ?_, ?_⟩
      · exact Same.back' s4 hD
      · rw [upd_same]
        show some (HO.dK (putK _ _ (V.int (r.2 * (1 / 1))))) = _
        rw [show r.2 * (1 / 1) = r.2 by omega, row_put nd hr1]
    · obtain ⟨s3, h3⟩ := p
      rw [lR, List.take_length] at h3
      refine ⟨s3 _ _ upd_same, k _ D (s2.trans (unlock hd2 s3)) (none_of s2 hD2) ?_⟩
      rw [upd_ne nD]
      exact h3
end
end K9
namespace K9
open PySem PySem.Spec PyProof.Rows L2 RZ Dic
/-! ### rows put together: one row, one place -/
def spRows1 (K : PySem.W.Frag) : Sp := fun vs H Q _ => ∃ (l d : Addr) (R : List (Int × Int)) (kvs : List (Key × V)), vs = [.ref l] ∧ H l = some (.lst [.ref d]) ∧ RowQ K H d R kvs ∧ R.length ≤ 900 ∧ (R.map (·.1)).Nodup ∧
  ∀ (H' : Hp) (p e : Addr), Same H H' → H' p = some (.lst [.ref e]) → H' e = some (.dK (rowK R)) → Q (.ref p) H'
def spPlaces1 : Sp := fun vs H Q _ => ∃ (l d : Addr) (v : Int), vs = [.ref l, .int 1] ∧ H l = some (.lst [.ref d]) ∧ H d = some (.dK [(.inl 0, .int v)]) ∧ 0 < v ∧ v < 2 ^ 29 ∧
  ∀ (H' : Hp) (p : Addr), Same H H' → H' p = some (.lst [.int 0]) → Q (.ref p) H'
def spAllMade1 : Sp := fun vs H Q _ => ∃ (l d : Addr) (v : Int), vs = [.ref l, .int 1] ∧ H l = some (.lst [.ref d]) ∧ H d = some (.dK [(.inl 0, .int v)]) ∧ 0 < v ∧ v < 2 ^ 29 ∧
  ∀ (H' : Hp), Same H H' → Q (.bl true) H'
abbrev nIP : List Str := ["rows", "width", "lot", "found", "at", "row", "rest", "column", "inverse", "number", "place"]
theorem scIP : FnScope nIP ["rows", "width"] (defScope sIndependentPlaces) := ⟨rfl, rfl, rfl, by decide +kernel, rfl, by decide +kernel, by decide +kernel⟩
theorem scWR : FnScope ["rows", "row"] ["rows"] (defScope sWholeRows) := ⟨rfl, rfl, rfl, by decide +kernel, rfl, by decide +kernel, by decide +kernel⟩
theorem scAM : FnScope ["rows", "width"] ["rows", "width"] (defScope sAreAllMade) := ⟨rfl, rfl, rfl, by decide +kernel, rfl, by decide +kernel, by decide +kernel⟩
section
variable {P : Program} {w : World} {K : PySem.W.Frag} {mg : Str → Option Value} {base : Heap} {fW fI fP : Addr} {dW dI dP : FuncData}
theorem ok_wholerows {f : Addr} {fd : FuncData} (F : Fun K "whole_rows" "whole_rows" sWholeRows f fd) (gW : mg "whole_multiple" = some (.ref fW)) (kW : PySem.W.keepIn K (.ref fW) = true) (bW : Binds K dW ["row"] [])
    (W : FnOk P w K mg base CX0 1 fW dW ["row"] (spWhole K)) : FnOk P w K mg base CX0 2 f fd ["rows"] (spRows1 K) := by
  refine F.ok scWR (fun vs H Q E h => ?_) (fun cdv A outer s H vs Q E hr h => ?_)
  · obtain ⟨l, d, R, kvs, rfl, _⟩ := h; rfl
  obtain ⟨l, d, R, kvs, rfl, hl, hR, hn, nd, k⟩ := h
  refine ⟨_, pss_one (ps_ret (pe_lc (own := [("row", 1)]) (g := gName 1) rfl scWR.nd (pi_list (pv 0)) (blkOk_by (N := ["rows", "row"]) (sc := defScope sWholeRows) (by decide +kernel)) (fun _ _ _ _ _ => pg_name (i := 1) scWR.nd rfl (Or.inl rfl)) (fun _ _ _ _ _ => pts_nil)
      (fun _ _ _ _ _ => pe_call W hr (by rfl) gW kW bW .nil pass0 (by exact (pa_cons (pv 1) pa_nil))))), ?_⟩
  refine ⟨_, rfl, l, rfl, ⟨_, SqL.of hl⟩, fun D hD => ?_⟩
  refine lc_it (walk_list (K := K) (a := l) (xs := [V.ref d])) (fun i H' => Same H H' ∧ ((i = 0 ∧ H' D = some (.lst [])) ∨ (i = 1 ∧ ∃ e, H' D = some (.lst [.ref e]) ∧ H' e = some (.dK (rowK R))))) ⟨Same.new hD, .inl ⟨rfl, upd_same⟩⟩ (fun i H' _ p => SqL.of (p.1 _ _ hl)) (fun i x H1 H2 hi p y => ?_) fun H' p => ?_
  · obtain ⟨rfl, hx⟩ := y
    obtain ⟨s1, ⟨rfl, h1⟩ | ⟨rfl, _⟩⟩ := p
    · cases hx
      refine ⟨rfl, iteT (B := True) ⟨_, rfl, d, R, kvs, rfl, ⟨s1 _ _ hR.at', L2.Paired.mapP hR.is fun r kv ⟨e1, q, e2, e3⟩ => ⟨e1, q, e2, tupSame s1 e3⟩⟩, hn, nd, fun H3 p s3 hp0 hp => ?_⟩⟩
      refine ⟨[], s3 _ _ h1, by decide, Same.back (s1.trans s3) hD, .inr ⟨rfl, p, upd_same, ?_⟩⟩
      rw [upd_ne (fun z => by rw [z, s3 _ _ h1] at hp; cases hp)]
      exact hp
    · exact absurd hi (Nat.lt_irrefl 1)
  · obtain ⟨s1, ⟨z, _⟩ | ⟨_, e, h1, h2⟩⟩ := p
    · cases z
    · exact k _ _ _ s1 h1 h2
theorem ok_places {f : Addr} {fd : FuncData} (F : Fun K "independent_places" "independent_places" sIndependentPlaces f fd) (T : Txt K mg) (gI : mg "_inverse_by_prime" = some (.ref fI)) (kI : PySem.W.keepIn K (.ref fI) = true) (bI : Binds K dI ["number"] [])
    (FI : FnOk P w K mg base CX0 1 fI dI ["number"] spInv) : FnOk P w K mg base CX0 2 f fd ["rows", "width"] spPlaces1 := by
  refine F.ok scIP (fun vs H Q E h => ?_) (fun cdv A outer s H vs Q E hr h => ?_)
  · obtain ⟨l, d, v, rfl, _⟩ := h; rfl
  obtain ⟨l, d, v, rfl, hl, hd, v0, v1, k⟩ := h
  obtain ⟨t1, m1⟩ := T.cPRIMEechelon
  refine ⟨_, pss_cons (ps_set (i := 2) scIP.nd rfl (.inl rfl) pe_dnewK)
    (pss_cons (ps_set (i := 3) scIP.nd rfl (.inl rfl) (pe_lst pa_nil))
    (pss_cons (ps_for PassesOwn.never rfl (pi_enum (by rfl) T.enumerate (pa_cons (pv 0) pa_nil)) (pg_tup (by rfl) (pgs_cons (pg_name (i := 4) scIP.nd rfl (.inl rfl)) (pgs_cons (pg_name (i := 5) scIP.nd rfl (.inl rfl)) pgs_nil)))
      (pss_cons (ps_if (pt_cmpR op_eq (pe_callB call_len_seq (by rfl) T.len PySem.boot_len (pa_cons (pv 3) pa_nil)) (pv 1) (nomark _)) (pss_one ps_break) pss_nil)
      (pss_cons (ps_lock (ps_setDct (i := 6) .k (hu_of hr) rfl scIP.nd rfl rfl (swD_true rfl rfl rfl rfl) (own := [("column", 7), ("number", 9)]) (g := gTup K 2 (gCons (gName 7) (gCons (gName 9) gNil))) (pi_items (pv 5)) (blkOk_by (N := nIP) (sc := defScope sIndependentPlaces) (by decide +kernel)) (fun _ _ _ _ _ => pg_tup (by rfl) (pgs_cons (pg_name (i := 7) scIP.nd rfl (.inl rfl)) (pgs_cons (pg_name (i := 9) scIP.nd rfl (.inl rfl)) pgs_nil)))
          (fun _ _ _ _ _ => pts_one (pt_cmpR op_ne (pe_op op_mod (pv 9) (pe_glob (v := .int 2147483647) (by rfl) m1 ⟨_, rfl⟩)) pe_int (nomark _)))
          (fun _ _ _ _ _ => pv 7) (fun _ _ _ _ _ => pe_op op_mod (pv 9) (pe_glob (v := .int 2147483647) (by rfl) m1 ⟨_, rfl⟩))))
      (pss_cons (ps_while PassesOwn.never (PW.pt (pw_and (pt_cmpR op_gt (pe_callB call_lenD (by rfl) T.len PySem.boot_len (pa_cons (pv 6) pa_nil)) pe_int (nomark _)) (pw_and1 (pt_cmp (pc_din (hu_of hr) (pe_callB (cr_min rfl) (by rfl) T.min bootMin (pa_cons (pe_callTy (call_list_dK rfl) (by rfl) T.list bootList (pa_cons (pv 6) pa_nil)) pa_nil)) (pv 2))))))
        (pss_cons ps_never (pss_one ps_never)))
      (pss_one (ps_if (pt_cmpR op_gt (pe_callB call_lenD (by rfl) T.len PySem.boot_len (pa_cons (pv 6) pa_nil)) pe_int (nomark _))
        (pss_cons (ps_set (i := 7) scIP.nd rfl (.inl rfl) (pe_callB (cr_min rfl) (by rfl) T.min bootMin (pa_cons (pe_callTy (call_list_dK rfl) (by rfl) T.list bootList (pa_cons (pv 6) pa_nil)) pa_nil)))
        (pss_cons (ps_set (i := 8) scIP.nd rfl (.inr rfl) (pe_call FI hr (by rfl) gI kI bI .nil pass0 (pa_cons (pe_dget (hu_of hr) (pv 6) (pv 7) (fun _ _ => rfl)) pa_nil)))
        (pss_cons (ps_dput (hu_of hr) (pv 2) (pv 7) (pe_lock (pe_dct .k (hu_of hr) rfl scIP.nd (own := [("place", 10), ("number", 9)]) (g := gTup K 2 (gCons (gName 10) (gCons (gName 9) gNil))) (pi_items (pv 6)) (blkOk_by (N := nIP) (sc := defScope sIndependentPlaces) (by decide +kernel)) (fun _ _ _ _ _ => pg_tup (by rfl) (pgs_cons (pg_name (i := 10) scIP.nd rfl (.inl rfl)) (pgs_cons (pg_name (i := 9) scIP.nd rfl (.inl rfl)) pgs_nil)))
          (fun _ _ _ _ _ => pts_nil) (fun _ _ _ _ _ => pv 10) (fun _ _ _ _ _ => pe_op op_mod (pe_op op_mul (pv 9) (pv 8)) (pe_glob (v := .int 2147483647) (by rfl) m1 ⟨_, rfl⟩)))) rfl)
        (pss_one (ps_expr (pe_bm PySem.F.plainAttrs_list PySem.F.slot_list_append PySem.F.type_list_append mt_append (pv 3) (pa_cons (pv 4) pa_nil))))))) pss_nil))))))
    (pss_one (ps_ret (pv 3))))), ?_⟩
  refine fun p hp => ⟨(by show 0 ≤ sizeLine; decide), fun q hq => ?_⟩
  have nqp : q ≠ p := fun z => by rw [z, upd_same] at hq; cases hq
  have sq : Same H (upd (upd H p (.dK [])) q (.lst [])) := (Same.new hp).trans (Same.new hq)
  have hP0 : upd (upd H p (.dK [])) q (.lst []) p = some (.dK []) := by rw [upd_ne (Ne.symm nqp)]; exact upd_same
  have nq0 : H q = none := none_of (Same.new hp) hq
  generalize eH0 : upd (upd H p (.dK [])) q (.lst []) = H0 at *
  have hQ0 : H0 q = some (.lst []) := by subst eH0; exact upd_same
  refine ⟨_, rfl, l, _, rfl, SqL.of (sq _ _ hl), ?_⟩
  refine for_it (walk_enum (K := K) (a := l) (xs := [V.ref d])) (fun i σ H' => Same H H' ∧ ((i = 0 ∧ σ = L2.start nIP [.ref l, .int 1, .ref p, .ref q] ∧ H' = H0) ∨ (i = 1 ∧ H' q = some (.lst [.int 0]) ∧ ∃ o2 o3 o4 o5 o6 o7 o8 o9, σ = [some (.ref l), some (.int 1), o2, some (.ref q), o3, o4, o5, o6, o7, o8, o9]))) ⟨sq, .inl ⟨rfl, rfl, rfl⟩⟩ (fun i σ H' _ p => SqL.of (p.1 _ _ hl)) (fun i x σ H1 H2 hi p y => ?_) (fun σ H1 p => ?_)
  · obtain ⟨T, x0, y0, rfl, hT, rfl, e1, e2⟩ := y
    obtain ⟨s1, ⟨rfl, rfl, rfl⟩ | ⟨rfl, _⟩⟩ := p
    · cases e1
      cases e2
      refine ⟨T, _, rfl, SqT.of upd_same, rfl, _, _, rfl, _, _, rfl, rfl, ?_⟩
      have s2 := sq.trans (Same.new (o := .tup [V.int ((0 : Nat) : Int), V.ref d]) hT)
      have hP2 := Same.new (o := .tup [V.int ((0 : Nat) : Int), V.ref d]) hT _ _ hP0
      have hQ2 := Same.new (o := .tup [V.int ((0 : Nat) : Int), V.ref d]) hT _ _ hQ0
      generalize upd H1 T (.tup [V.int ((0 : Nat) : Int), V.ref d]) = H2 at *
      have hd2 := s2 _ _ hd
      have npd : p ≠ d := fun z => by rw [z, hd2] at hP2; cases hP2
      have nqd : q ≠ d := fun z => by rw [z, hd2] at hQ2; cases hQ2
      refine ⟨_, rfl, q, _, rfl, .inl (SqL.of hQ2), _, rfl, rfl, _, rfl, iteF ?_⟩
      refine ⟨d, _, hd2, trivial, fun od => ⟨_, rfl, d, od, _, rfl, upd_same, fun D hD => ?_⟩⟩
      have nD : D ≠ d := fun z => by rw [z, upd_same] at hD; cases hD
      have hD2 : H2 D = none := by rw [upd_ne nD] at hD; exact hD
      refine dc_it walk_items (fun i H' => Same (upd H2 d (.frz od (.dK [(.inl 0, .int v)]))) H' ∧ ((i = 0 ∧ H' D = some (.dK [])) ∨ (i = 1 ∧ H' D = some (.dK [(.inl 0, .int v)])))) ⟨Same.new hD, .inl ⟨rfl, upd_same⟩⟩ (fun i H' _ p => p.1 _ _ upd_same) (fun i x H3 H4 hi p y => ?_) fun H3 p => ?_
      · obtain ⟨t, x1, x2, rfl, ht, rfl, e1, e2⟩ := y
        obtain ⟨s3, ⟨rfl, h3⟩ | ⟨rfl, _⟩⟩ := p
        · cases e1
          cases e2
          have nt : D ≠ t := fun z => by rw [← z, h3] at ht; cases ht
          have s4 := s3.trans (Same.new (o := .tup [kV (.inl 0), .int v]) ht)
          refine ⟨t, _, rfl, SqT.of upd_same, rfl, _, _, rfl, _, _, rfl, rfl, rfl, ?_⟩
          have em : v % 2147483647 = v := Int.emod_eq_of_lt (by omega) (by omega)
          refine ⟨_, rfl, _, _, rfl, rfl, (by show (0 : Int) < 2147483647; decide), rfl, _, rfl, ?_⟩
          rw [dInt, em, decide_eq_false (by omega)]
          refine iteT ⟨_, rfl, _, rfl, _, _, rfl, rfl, (by show (0 : Int) < 2147483647; decide), _, DPut.k (k := .inl 0) (by rw [upd_ne nt]; exact h3) (by decide), ?_, .inr ⟨rfl, ?_⟩⟩
          · exact Same.back' s4 hD
          · rw [upd_same]
            show some (HO.dK (putK [] _ (V.int (v % 2147483647)))) = _
            rw [em]
            rfl
        · exact absurd hi (Nat.lt_irrefl 1)
      · obtain ⟨s3, ⟨z, _⟩ | ⟨_, h3⟩⟩ := p
        · cases z
        refine ⟨s3 _ _ upd_same, ?_⟩
        have s5 := s2.trans (unlock hd2 s3)
        have hD5 : upd H3 d (.dK [(.inl 0, .int v)]) D = some (.dK [(.inl 0, .int v)]) := by rw [upd_ne nD]; exact h3
        have hP5 := unlock hd2 s3 _ _ hP2
        have hQ5 := unlock hd2 s3 _ _ hQ2
        generalize upd H3 d (.dK [(.inl 0, .int v)]) = H5 at *
        have nDp : D ≠ p := fun z => by rw [z, hP5] at hD5; cases hD5
        refine ⟨fun _ σ H' => σ = _ ∧ H' = H5, ⟨0, rfl, rfl⟩, ?_⟩
        rintro m σ H' ⟨rfl, rfl⟩
        refine ⟨_, rfl, D, _, rfl, hD5, _, _, rfl, rfl, _, rfl, iteT ?_⟩
        refine ⟨_, rfl, D, _, rfl, hD5, fun L hL => ⟨L, [0], rfl, SqL.of upd_same, by decide, fun m hm _ => ?_⟩⟩
        obtain rfl : m = 0 := by simpa using hm
        have pL : L ≠ p := fun z => by rw [z, hP5] at hL; cases hL
        refine ⟨_, rfl, p, none, rfl, DGet.k (k := .inl 0) (kvs := []) (by rw [upd_ne (Ne.symm pL)]; exact hP5), ?_⟩
        refine ⟨_, rfl, iteF ?_⟩
        have s6 := s5.trans (Same.new (o := .lst [V.int 0]) hL)
        have hD6 := Same.new (o := .lst [V.int 0]) hL _ _ hD5
        have hP6 := Same.new (o := .lst [V.int 0]) hL _ _ hP5
        have hQ6 := Same.new (o := .lst [V.int 0]) hL _ _ hQ5
        refine ⟨_, rfl, D, _, rfl, hD6, _, _, rfl, rfl, _, rfl, iteT ?_⟩
        refine ⟨_, rfl, D, _, rfl, hD6, fun M hM => ⟨M, [0], rfl, SqL.of upd_same, by decide, fun m2 hm2 _ => ?_⟩⟩
        obtain rfl : m2 = 0 := by simpa using hm2
        have s7 := s6.trans (Same.new (o := .lst [V.int 0]) hM)
        have hD7 := Same.new (o := .lst [V.int 0]) hM _ _ hD6
        have hP7 := Same.new (o := .lst [V.int 0]) hM _ _ hP6
        have hQ7 := Same.new (o := .lst [V.int 0]) hM _ _ hQ6
        refine ⟨_, rfl, _, rfl, D, .int v, rfl, DGet.k (k := .inl 0) hD7, v, rfl, by omega, v1, fun r H8 r0 r1 s8 => ?_⟩
        have s9 := s7.trans s8
        have hD8 := s8 _ _ hD7
        have hP8 := s8 _ _ hP7
        have hQ8 := s8 _ _ hQ7
        refine ⟨D, _, hD8, trivial, fun oe => ⟨_, rfl, D, oe, _, rfl, upd_same, fun B hB => ?_⟩⟩
        have nB : B ≠ D := fun z => by rw [z, upd_same] at hB; cases hB
        have hB8 : H8 B = none := by rw [upd_ne nB] at hB; exact hB
        refine dc_it walk_items (fun i H' => Same (upd H8 D (.frz oe (.dK [(.inl 0, .int v)]))) H' ∧ ∃ kvs, H' B = some (.dK kvs) ∧ kvs.length ≤ i) ⟨Same.new hB, [], upd_same, Nat.le_refl _⟩ (fun i H' _ p => p.1 _ _ upd_same) (fun i x H3 H4 hi p y => ?_) fun H9 p => ?_
        · obtain ⟨t, x1, x2, rfl, ht, rfl, e1, e2⟩ := y
          obtain ⟨sa, kvs, ha, la⟩ := p
          have i0 : i = 0 := by simpa using hi
          subst i0
          cases e1
          cases e2
          have nt : B ≠ t := fun z => by rw [← z, ha] at ht; cases ht
          have sb := sa.trans (Same.new (o := .tup [kV (.inl 0), .int v]) ht)
          refine ⟨t, _, rfl, SqT.of upd_same, rfl, _, _, rfl, _, _, rfl, rfl, rfl, ?_⟩
          refine iteT (B := True) ⟨_, rfl, _, rfl, _, rfl, _, _, rfl, rfl, .inl ⟨by omega, by omega⟩, _, _, rfl, rfl, (by show (0 : Int) < 2147483647; decide), _, DPut.k (k := .inl 0) (by rw [upd_ne nt]; exact ha) (Nat.lt_of_le_of_lt la (by decide)), Same.back' sb hB, _, upd_same, ?_⟩
          exact Nat.le_trans (length_putK kvs _ _) (Nat.succ_le_succ la)
        · obtain ⟨sa, kvs, ha, la⟩ := p
          refine ⟨sa _ _ upd_same, ?_⟩
          have sc := unlock hD8 sa
          have hPa := sc _ _ hP8
          have hQa := sc _ _ hQ8
          have sd := s9.trans sc
          have nBp : B ≠ p := fun z => by rw [z, hP8] at hB8; cases hB8
          generalize upd H9 D (.dK [(.inl 0, .int v)]) = Ha at *
          refine ⟨_, rfl, _, rfl, p, _, rfl, DPut.k (k := .inl 0) hPa (by decide), ?_⟩
          have se : Same H (upd Ha p (.dK (putK [] (.inl 0) (.ref B)))) := Same.back sd hp
          have hQb : upd Ha p (.dK (putK [] (.inl 0) (.ref B))) q = some (.lst []) := by rw [upd_ne nqp]; exact hQa
          refine ⟨_, rfl, .inl ⟨rfl, _, SqL.of hQb⟩, _, rfl, q, [], _, rfl, rfl, hQb, by decide, ?_⟩
          refine ⟨Same.back se nq0, .inr ⟨rfl, upd_same, _, _, _, _, _, _, _, _, rfl⟩⟩
    · exact absurd hi (Nat.lt_irrefl 1)
  · obtain ⟨s1, ⟨z, _⟩ | ⟨_, h1, o2, o3, o4, o5, o6, o7, o8, o9, rfl⟩⟩ := p
    · cases z
    · exact ⟨_, rfl, k _ _ s1 h1⟩
end
end K9
namespace K9
open PySem PySem.Spec PyProof.Rows L2 RZ Dic
/-- an expression that is never reached -/
theorem pe_no {X : Cx} {e : Expr} : PE X e (fun _ _ _ => False) := ⟨fun _ _ _ _ _ _ h => h.elim⟩
section
variable {P : Program} {w : World} {K : PySem.W.Frag} {mg : Str → Option Value} {base : Heap} {fW fI fP : Addr} {dW dI dP : FuncData}
theorem ok_allmade {f : Addr} {fd : FuncData} (F : Fun K "are_all_made" "are_all_made" sAreAllMade f fd) (T : Txt K mg) (gP : mg "independent_places" = some (.ref fP)) (kP : PySem.W.keepIn K (.ref fP) = true) (bP : Binds K dP ["rows", "width"] [])
    (FP : FnOk P w K mg base CX0 2 fP dP ["rows", "width"] spPlaces1) : FnOk P w K mg base CX0 3 f fd ["rows", "width"] spAllMade1 := by
  refine F.ok scAM (fun vs H Q E h => ?_) (fun cdv A outer s H vs Q E hr h => ?_)
  · obtain ⟨l, d, v, rfl, _⟩ := h; rfl
  obtain ⟨l, d, v, rfl, hl, hd, v0, v1, k⟩ := h
  refine ⟨_, pss_one (ps_ret (pe_or (pe_cmpR op_eq (pe_callB call_len_seq (by rfl) T.len PySem.boot_len (pa_cons (pe_call FP hr (by rfl) gP kP bP .nil pass0 (pa_cons (pv 0) (pa_cons (pv 1) pa_nil))) pa_nil)) (pv 1) (nomark _)) pe_no)), ?_⟩
  refine ⟨_, rfl, _, rfl, l, d, v, rfl, hl, hd, v0, v1, fun H1 p s1 hp => ⟨p, _, rfl, .inl (SqL.of hp), _, rfl, rfl, true, rfl, iteT ?_⟩⟩
  exact k H1 s1
end
end K9
namespace K9
open PySem PySem.Spec PyProof.Rows L2 RZ Dic
/-! ### one word listed: its tuple is a new one -/
def WordT (H : Hp) (v : V) : Option (List Int) → Prop
  | none => v = .non
  | some w => ∃ t, v = .ref t ∧ H t = some (.tup (iV w))
def spFirst1 (K : PySem.W.Frag) : Sp := fun vs H Q _ => ∃ (a c : Addr) (L : List Int) (N d : Nat), vs = [.ref a, .ref c, .int (d : Int)] ∧ SqT K H a (iV L) ∧ Cnts H c L N ∧ Lt L ∧ N ≤ 900 ∧ d ≤ N ∧ ∀ H' v, Same H H' → WordT H' v (wds L d).head? → Q v H'
def spListed1 (K : PySem.W.Frag) : Sp := fun vs H Q _ => ∃ (a : Addr) (L : List Int) (d : Nat), vs = [.ref a, .int (d : Int)] ∧ SqT K H a (iV L) ∧ Lt L ∧ d ≤ 80 ∧
  ((wds L d = [] ∧ ∀ H' p, Same H H' → H' p = some (.lst []) → Q (.ref p) H') ∨ ∃ u, wds L d = [u] ∧ ∀ H' p t, Same H H' → H' p = some (.lst [.ref t]) → H' t = some (.tup (iV u)) → Q (.ref p) H')
section
variable {P : Program} {w : World} {K : PySem.W.Frag} {mg : Str → Option Value} {base : Heap} {fS fF fN : Addr} {dS dF dN : FuncData}
theorem ok_first1 {fE : Addr} {dE : FuncData} {f : Addr} {fd : FuncData} (F : Fun K "first_word" "first_word" sFirst f fd) (T : Txt K mg) (gE : mg "_least_exponents" = some (.ref fE)) (kE : PySem.W.keepIn K (.ref fE) = true) (bE : Binds K dE ["letters", "counts", "start", "rest"] [])
    (FE : FnOk P w K mg base CX0 1 fE dE ["letters", "counts", "start", "rest"] (spLeast K)) : FnOk P w K mg base CX0 2 f fd ["letters", "counts", "degree"] (spFirst1 K) := by
  refine F.ok scFirst (fun vs H Q E h => ?_) (fun cdv A outer s H vs Q E hr h => ?_)
  · obtain ⟨a, c, L, N, d, rfl, _⟩ := h; rfl
  obtain ⟨a, c, L, N, d, rfl, ha, hc, hL, hN, hd, k⟩ := h
  refine ⟨_, pss_cons (ps_if (pt_cmpR op_eq (pe_ix ix_list (pe_ix ix_list (pv 1) pe_int (fun _ _ => rfl)) (pv 2) (fun _ _ => rfl)) pe_int (nomark _)) (pss_one (ps_ret pe_non)) pss_nil)
    (pss_one (ps_ret (pe_callTy call_tuple_of (by rfl) T.tuple bootTuple (pa_cons (pe_call FE hr (by rfl) gE kE bE .nil pass0 (pa_cons (pv 0) (pa_cons (pv 1) (pa_cons pe_int (pa_cons (pv 2) pa_nil))))) pa_nil)))), ?_⟩
  obtain ⟨xs, hx, lx, hrow⟩ := id hc
  obtain ⟨x, gx, rr, rfl, hrr⟩ := hrow 0 (Nat.zero_le _)
  rw [List.drop_zero] at hrr
  have hh := wds_head (d := d) hL.pos
  refine ⟨_, rfl, c, xs, _, _, rfl, rfl, SqL.of hx, atI_nat gx, _, rfl, rr, _, _, _, rfl, rfl, SqL.of hrr, atI_nat (rowOf_get hd), rfl, _, rfl, ite2 (fun ct => ?_) (fun ct => ?_)⟩
  · have ct := V.int.inj (of_decide_eq_true ct)
    rw [if_neg (by omega)] at hh
    refine k H _ (Same.refl _) ?_
    rw [hh]
    rfl
  · have ct : ¬ ((cnt L d : Int) = 0) := fun z => ct (decide_eq_true (congrArg V.int z))
    rw [if_pos (by omega)] at hh
    refine ⟨_, rfl, _, rfl, _, rfl, a, c, L, N, 0, d, rfl, ha, hc, hL, hN, Nat.zero_le _, hd, by rw [List.drop_zero]; omega, fun H1 p s1 hp h1 => ?_⟩
    rw [List.drop_zero] at h1
    refine ⟨p, _, rfl, .inl ⟨SqL.of h1, fun t ht => ?_⟩⟩
    refine k _ _ (s1.trans (Same.new ht)) ?_
    rw [hh]
    exact ⟨t, rfl, upd_same⟩
theorem ok_listed1 {f : Addr} {fd : FuncData} (F : Fun K "listed_words" "listed_words" sListed f fd) (gS : mg "suffix_counts" = some (.ref fS)) (kS : PySem.W.keepIn K (.ref fS) = true) (bS : Binds K dS ["letters", "most"] [])
    (FS : FnOk P w K mg base CX0 2 fS dS ["letters", "most"] (spSuf K)) (gF : mg "first_word" = some (.ref fF)) (kF : PySem.W.keepIn K (.ref fF) = true) (bF : Binds K dF ["letters", "counts", "degree"] [])
    (FF : FnOk P w K mg base CX0 2 fF dF ["letters", "counts", "degree"] (spFirst1 K)) (gN : mg "next_word" = some (.ref fN)) (kN : PySem.W.keepIn K (.ref fN) = true) (bN : Binds K dN ["letters", "counts", "word"] [])
    (FN : FnOk P w K mg base CX0 2 fN dN ["letters", "counts", "word"] (spNext K)) : FnOk P w K mg base CX0 3 f fd ["letters", "degree"] (spListed1 K) := by
  refine F.ok scListed (fun vs H Q E h => ?_) (fun cdv A outer s H vs Q E hr h => ?_)
  · obtain ⟨a, L, d, rfl, _⟩ := h; rfl
  obtain ⟨a, L, d, rfl, ha, hL, hd, k⟩ := h
  refine ⟨_, pss_cons (ps_if (pt_cmpR op_lt (pv 1) pe_int (nomark _)) (pss_one (ps_ret (pe_lst pa_nil))) pss_nil)
    (pss_cons (ps_set (i := 2) scListed.nd rfl (.inl rfl) (pe_call FS hr (by rfl) gS kS bS .nil pass0 (pa_cons (pv 0) (pa_cons (pv 1) pa_nil))))
    (pss_cons (ps_set (i := 3) scListed.nd rfl (.inl rfl) (pe_lst pa_nil))
    (pss_cons (ps_set (i := 4) scListed.nd rfl (.inl rfl) (pe_call FF hr (by rfl) gF kF bF .nil pass0 (pa_cons (pv 0) (pa_cons (pv 2) (pa_cons (pv 1) pa_nil)))))
    (pss_cons (ps_while PassesOwn.never (pt_cmpR op_notN (pv 4) pe_non (nomark _))
      (pss_cons (ps_expr (pe_bm PySem.F.plainAttrs_list PySem.F.slot_list_append PySem.F.type_list_append mt_append (pv 3) (pa_cons (pv 4) pa_nil)))
      (pss_one (ps_set (i := 4) scListed.nd rfl (.inl rfl) (pe_call FN hr (by rfl) gN kN bN .nil pass0 (pa_cons (pv 0) (pa_cons (pv 2) (pa_cons (pv 4) pa_nil))))))))
    (pss_one (ps_ret (pv 3))))))), ?_⟩
  refine ⟨_, rfl, _, _, rfl, rfl, _, rfl, ?_⟩
  rw [decide_eq_false (by omega)]
  refine iteF ⟨_, rfl, _, rfl, a, L, d, rfl, ha, hL.len, fun y hy => ⟨hL.lo y hy, hL.hi y hy⟩, by omega, fun H1 c s1 hc1 hc => ?_⟩
  refine ⟨(by show 0 ≤ sizeLine; decide), fun q hq => ?_⟩
  have s2 := Same.new (o := .lst []) hq
  have hq0 : H q = none := none_of s1 hq
  refine ⟨_, rfl, _, rfl, _, rfl, a, c, L, d, d, rfl, tupSame (s1.trans s2) ha, hc.mono s2, hL, by omega, Nat.le_refl _, fun H2 v s3 hv => ?_⟩
  have s12 := s1.trans (s2.trans s3)
  have hq2 := s3 _ _ (upd_same (H := H1) (a := q) (o := .lst []))
  rcases k with ⟨e, k⟩ | ⟨u, e, k⟩
  · rw [e] at hv
    obtain rfl : v = .non := hv
    refine ⟨fun m σ H' => σ = [some (.ref a), some (.int (d : Int)), some (.ref c), some (.ref q), some .non] ∧ H' = H2, ⟨0, rfl, rfl⟩, ?_⟩
    rintro m σ H' ⟨rfl, rfl⟩
    exact ⟨_, rfl, rfl, _, rfl, iteF ⟨_, rfl, k _ q s12 hq2⟩⟩
  · rw [e] at hv
    obtain ⟨t, rfl, ht⟩ := hv
    have hu0 : (wds L d)[0]? = some u := by rw [e]; rfl
    obtain ⟨wo, we⟩ := wds_mem hL.pos (List.mem_of_getElem? hu0)
    refine ⟨fun m σ H' => ∃ v, σ = [some (.ref a), some (.int (d : Int)), some (.ref c), some (.ref q), some v] ∧ ((m = 1 ∧ v = .ref t ∧ H' = H2) ∨ (m = 0 ∧ v = .non ∧ Same H H' ∧ H' q = some (.lst [.ref t]) ∧ H' t = some (.tup (iV u)))), ⟨1, .ref t, rfl, .inl ⟨rfl, rfl, rfl⟩⟩, ?_⟩
    rintro m σ H' ⟨v, rfl, ⟨rfl, rfl, rfl⟩ | ⟨rfl, rfl, sh, hh1, hh2⟩⟩
    · refine ⟨_, rfl, rfl, _, rfl, iteT ⟨fun σ' H'' => σ' = [some (.ref a), some (.int (d : Int)), some (.ref c), some (.ref q), some .non] ∧ Same H H'' ∧ H'' q = some (.lst [.ref t]) ∧ H'' t = some (.tup (iV u)), fun σ' H'' ⟨e1, e2, e3, e4⟩ => ⟨0, by decide, .non, e1, .inr ⟨rfl, rfl, e2, e3, e4⟩⟩, ?_⟩⟩
      refine ⟨_, rfl, .inl ⟨rfl, _, SqL.of hq2⟩, _, rfl, q, [], _, rfl, rfl, hq2, by decide, ?_⟩
      have ntq : t ≠ q := fun z => by rw [z, hq2] at ht; cases ht
      have ht' : upd H' q (.lst ([] ++ [.ref t])) t = some (.tup (iV u)) := by rw [upd_ne ntq]; exact ht
      have s5 : Same H1 (upd H' q (.lst ([] ++ [.ref t]))) := Same.back (s2.trans s3) hq
      refine ⟨_, rfl, _, rfl, _, rfl, a, c, t, L, u, d, d, rfl, tupSame (s1.trans s5) ha, hc.mono s5, hL, by omega, SqT.of ht', wo, we, Nat.le_refl _, fun H5 v5 s6 hv5 => ?_⟩
      have g := nxt_good L d hL.pos 0 u hu0
      rw [e] at g
      have g : nxt L u = none := g
      rw [g] at hv5
      obtain rfl : v5 = .non := hv5
      exact ⟨rfl, s1.trans (s5.trans s6), s6 _ _ upd_same, s6 _ _ ht'⟩
    · exact ⟨_, rfl, rfl, _, rfl, iteF ⟨_, rfl, k _ q t sh hh1 hh2⟩⟩
end
end K9
namespace K9
open PySem PySem.Spec PyProof.Rows L2 RZ Dic
theorem walkP {d : Addr} {o : Obj} {kvs : List (List Key × V)} : Walk (ItP d o kvs) kvs.length (fun H => H d = some (.frz o (.dT kvs)))
    (fun i H x H' => ∃ (T : Addr) (k : List Key) (v : V) (q : Addr), kvs[i]? = some (k, v) ∧ H q = some (.tup (k.map kV)) ∧ x = .ref T ∧ H T = none ∧ H' = upd H T (.tup [.ref q, v])) :=
  ⟨fun _ _ hi g => ⟨g, hi⟩, fun _ g => ⟨g, Nat.le_refl _⟩, fun _ _ _ _ _ _ y => y⟩
theorem walkV {d : Addr} {o : Obj} {kvs : List (List Key × V)} : Walk (ItV d o kvs) kvs.length (fun H => H d = some (.frz o (.dT kvs))) (fun i H x H' => H' = H ∧ ∃ k : List Key, kvs[i]? = some (k, x)) :=
  ⟨fun _ _ hi g => ⟨g, hi⟩, fun _ g => ⟨g, Nat.le_refl _⟩, fun _ _ _ _ _ _ y => y⟩
/-! ### the rows of one part: {(2,): v} at the degree 4 -/
def spMade1 (K : PySem.W.Frag) : Sp := fun vs H Q _ => ∃ (e ps d t q : Addr) (v : Int), vs = [.ref e, .ref ps, .int 4] ∧ SqT K H e (iV [2]) ∧ H ps = some (.lst [.ref t]) ∧ SqT K H t [.int 4, .ref d] ∧ H d = some (.dT [([.inl 2], .ref q)]) ∧ SqT K H q [.int v, .int 1] ∧
  ∀ (H' : Hp) (p b r c : Addr), Same H H' → SqT K H' p [.ref b, .ref r] → H' r = some (.lst [.ref c]) → H' c = some (.dK [(.inl 0, .ref q)]) → Q (.ref p) H'
abbrev nMR : List Str := ["evens", "parts", "degree", "places", "products", "rows", "part", "size", "numbers", "word", "at", "other", "number"]
theorem scMR : FnScope nMR ["evens", "parts", "degree"] (defScope sMadeRows) := ⟨rfl, rfl, rfl, by decide +kernel, rfl, by decide +kernel, by decide +kernel⟩
section
variable {P : Program} {w : World} {K : PySem.W.Frag} {mg : Str → Option Value} {base : Heap} {fL fJ : Addr} {dL dJ : FuncData}
theorem ok_made1 {f : Addr} {fd : FuncData} (F : Fun K "made_rows" "made_rows" sMadeRows f fd) (T : Txt K mg) (gL : mg "listed_words" = some (.ref fL)) (kL : PySem.W.keepIn K (.ref fL) = true) (bL : Binds K dL ["letters", "degree"] [])
    (FL : FnOk P w K mg base CX0 3 fL dL ["letters", "degree"] (spListed1 K)) (gJ : mg "_joined" = some (.ref fJ)) (kJ : PySem.W.keepIn K (.ref fJ) = true) (bJ : Binds K dJ ["word", "other"] [])
    (FJ : FnOk P w K mg base CX0 1 fJ dJ ["word", "other"] (spJoined K)) : FnOk P w K mg base CX0 4 f fd ["evens", "parts", "degree"] (spMade1 K) := by
  refine F.ok scMR (fun vs H Q E h => ?_) (fun cdv A outer s H vs Q E hr h => ?_)
  · obtain ⟨e, ps, d, t, q, v, rfl, _⟩ := h; rfl
  obtain ⟨e, ps, d, t, q, v, rfl, he, hps, ht, hd, hq, k⟩ := h
  have hr1 : Room 1 _ := hr.mono (by decide)
  refine ⟨_, pss_cons (ps_set (i := 3) scMR.nd rfl (.inr rfl) (pe_dct .t (hu_of hr) rfl scMR.nd (own := [("word", 9), ("at", 10)]) (g := gTup K 2 (gCons (gName 10) (gCons (gName 9) gNil))) (pi_enum (by rfl) T.enumerate (pa_cons (pe_call FL hr (by rfl) gL kL bL .nil pass0 (by exact (pa_cons (pv 0) (pa_cons (pv 2) pa_nil)))) pa_nil)) (blkOk_by (N := nMR) (sc := defScope sMadeRows) (by decide +kernel)) (fun _ _ _ _ _ => pg_tup (by rfl) (pgs_cons (pg_name (i := 10) scMR.nd rfl (.inl rfl)) (pgs_cons (pg_name (i := 9) scMR.nd rfl (.inl rfl)) pgs_nil)))
          (fun _ _ _ _ _ => pts_nil) (fun _ _ _ _ _ => pv 9) (fun _ _ _ _ _ => pv 10)))
    (pss_cons (ps_par (i := 4) (j := 5) rfl scMR.nd rfl rfl (by decide) rfl rfl (pa_cons (pe_lst pa_nil) (pa_cons (pe_lst pa_nil) pa_nil)) (by rfl))
    (pss_cons (ps_for PassesOwn.never rfl (pi_enum (by rfl) T.enumerate (pa_cons (pv 1) pa_nil)) (pg_tup (by rfl) (pgs_cons (pg_name (i := 6) scMR.nd rfl (.inl rfl)) (pgs_cons (pg_tup (by rfl) (pgs_cons (pg_name (i := 7) scMR.nd rfl (.inl rfl)) (pgs_cons (pg_name (i := 8) scMR.nd rfl (.inl rfl)) pgs_nil))) pgs_nil)))
      (pss_one (ps_if (pt_cmpR op_gt (pe_callB call_len_dT (by rfl) T.len PySem.boot_len (pa_cons (pv 8) pa_nil)) pe_int (nomark _))
        (pss_one (ps_for PassesOwn.never rfl (pi_list (pe_call FL hr (by rfl) gL kL bL .nil pass0 (pa_cons (pv 0) (pa_cons (pe_op op_sub (pv 2) (pv 7)) pa_nil)))) (pg_name (i := 9) scMR.nd rfl (.inr rfl))
          (pss_cons (ps_expr (pe_bm PySem.F.plainAttrs_list PySem.F.slot_list_append PySem.F.type_list_append mt_append (pv 4) (pa_cons (pe_tup (pa_cons (pv 6) (pa_cons (pv 9) pa_nil))) pa_nil)))
          (pss_one (ps_expr (pe_bm PySem.F.plainAttrs_list PySem.F.slot_list_append PySem.F.type_list_append mt_append (pv 5) (pa_cons (pe_lock (pe_dct .k (hu_of hr) rfl scMR.nd (own := [("other", 11), ("number", 12)]) (g := gTup K 2 (gCons (gName 11) (gCons (gName 12) gNil))) (pi_pairs (pv 8)) (blkOk_by (N := nMR) (sc := defScope sMadeRows) (by decide +kernel)) (fun _ _ _ _ _ => pg_tup (by rfl) (pgs_cons (pg_name (i := 11) scMR.nd rfl (.inl rfl)) (pgs_cons (pg_name (i := 12) scMR.nd rfl (.inl rfl)) pgs_nil)))
            (fun _ _ _ _ _ => pts_nil) (fun _ _ _ _ _ => pe_dget (hu_of hr) (pv 3) (pe_call FJ hr1 (by rfl) gJ kJ bJ .nil pass0 (by exact (pa_cons (pv 9) (pa_cons (pv 11) pa_nil)))) (fun _ _ => rfl)) (fun _ _ _ _ _ => pv 12))) pa_nil))))))) pss_nil)))
    (pss_one (ps_ret (pe_tup (pa_cons (pv 4) (pa_cons (pv 5) pa_nil))))))), ?_⟩
  have lt2 : Lt [2] := ⟨by decide, by decide, by decide⟩
  refine ⟨_, rfl, _, rfl, e, [2], 4, rfl, he, lt2, by decide, .inr ⟨[2], by decide +kernel, fun H1 p0 t0 s1 hp0 ht0 => ⟨p0, _, rfl, SqL.of hp0, fun D hD => ?_⟩⟩⟩
  have nD : H D = none := none_of s1 hD
  refine dc_it (walk_enum (K := K) (a := p0) (xs := [V.ref t0])) (fun i H' => Same H1 H' ∧ ((i = 0 ∧ H' D = some (.dT [])) ∨ (i = 1 ∧ H' D = some (.dT [([.inl 2], .int 0)])))) ⟨Same.new hD, .inl ⟨rfl, upd_same⟩⟩ (fun i H' _ p => SqL.of (p.1 _ _ hp0)) (fun i x H3 H4 hi p y => ?_) fun H2 p => ?_
  · obtain ⟨T, x0, y0, rfl, hT, rfl, e1, e2⟩ := y
    obtain ⟨s3, ⟨rfl, h3⟩ | ⟨rfl, _⟩⟩ := p
    · cases e1
      cases e2
      have nt : D ≠ T := fun z => by rw [← z, h3] at hT; cases hT
      have s4 := s3.trans (Same.new (o := .tup [V.int ((0 : Nat) : Int), V.ref t0]) hT)
      refine ⟨T, _, rfl, SqT.of upd_same, rfl, _, _, rfl, _, _, rfl, rfl, rfl, iteT (B := True) ⟨_, rfl, _, rfl, _, DPut.t (k := [.inl 2]) (by rw [upd_ne nt]; exact h3) (s4 _ _ ht0) (by decide), Same.back' s4 hD, .inr ⟨rfl, upd_same⟩⟩⟩
    · exact absurd hi (Nat.lt_irrefl 1)
  obtain ⟨s2, ⟨z, _⟩ | ⟨_, h2⟩⟩ := p
  · cases z
  have s12 := s1.trans s2
  refine ⟨(by show 0 ≤ sizeLine; decide), fun b hb => ⟨(by show 0 ≤ sizeLine; decide), fun r hrr => ⟨_, _, rfl, ?_⟩⟩⟩
  have nrb : r ≠ b := fun z => by rw [z, upd_same] at hrr; cases hrr
  have hr2 : H2 r = none := by rw [upd_ne nrb] at hrr; exact hrr
  have nb : H b = none := none_of s12 hb
  have nr : H r = none := none_of s12 hr2
  have s3 : Same H2 (upd (upd H2 b (.lst [])) r (.lst [])) := (Same.new hb).trans (Same.new hrr)
  have hb3 : upd (upd H2 b (.lst [])) r (.lst []) b = some (.lst []) := by rw [upd_ne (Ne.symm nrb)]; exact upd_same
  have hr3 : upd (upd H2 b (.lst [])) r (.lst []) r = some (.lst []) := upd_same
  have s123 := s12.trans s3
  have h3 := s3 _ _ h2
  generalize upd (upd H2 b (.lst [])) r (.lst []) = H3 at *
  refine ⟨_, rfl, ps, _, rfl, SqL.of (s123 _ _ hps), ?_⟩
  refine for_it (walk_enum (K := K) (a := ps) (xs := [V.ref t])) (fun i σ H' => Same H H' ∧ ((i = 0 ∧ σ = L2.start nMR [.ref e, .ref ps, .int 4, .ref D, .ref b, .ref r] ∧ H' = H3) ∨ (i = 1 ∧ (∃ c, H' r = some (.lst [.ref c]) ∧ H' c = some (.dK [(.inl 0, .ref q)])) ∧ ∃ o3 o6 o7 o8 o9 oa ob oc, σ = [some (.ref e), some (.ref ps), some (.int 4), o3, some (.ref b), some (.ref r), o6, o7, o8, o9, oa, ob, oc]))) ⟨s123, .inl ⟨rfl, rfl, rfl⟩⟩ (fun i σ H' _ p => SqL.of (p.1 _ _ hps)) (fun i x σ H4 H5 hi p y => ?_) (fun σ H4 p => ?_)
  · obtain ⟨T, x0, y0, rfl, hT, rfl, e1, e2⟩ := y
    obtain ⟨s4, ⟨rfl, rfl, rfl⟩ | ⟨rfl, _⟩⟩ := p
    · cases e1
      cases e2
      have s5 := s4.trans (Same.new (o := .tup [V.int ((0 : Nat) : Int), V.ref t]) hT)
      have st := Same.new (o := .tup [V.int ((0 : Nat) : Int), V.ref t]) hT
      refine ⟨T, _, rfl, SqT.of upd_same, rfl, _, _, rfl, _, _, rfl, t, _, rfl, tupSame s5 ht, rfl, _, _, rfl, _, _, rfl, rfl, rfl, ?_⟩
      have h5 := st _ _ h3
      have hb5 := st _ _ hb3
      have hr5 := st _ _ hr3
      generalize upd H4 T (.tup [V.int ((0 : Nat) : Int), V.ref t]) = H5 at *
      refine ⟨_, rfl, d, _, rfl, s5 _ _ hd, _, _, rfl, rfl, _, rfl, iteT ?_⟩
      refine ⟨_, rfl, _, rfl, _, rfl, _, _, rfl, rfl, e, [2], 0, rfl, tupSame s5 he, lt2, by decide, .inr ⟨[0], by decide +kernel, fun H6 p1 t1 s6 hp1 ht1 => ⟨p1, rfl, ⟨_, SqL.of hp1⟩, ?_⟩⟩⟩
      have s56 := s5.trans s6
      have h6 := s6 _ _ h5
      have hb6 := s6 _ _ hb5
      have hr6 := s6 _ _ hr5
      refine for_it (walk_list (K := K) (a := p1) (xs := [V.ref t1])) (fun i σ H' => Same H H' ∧ H' p1 = some (.lst [.ref t1]) ∧ ((i = 0 ∧ σ = L2.start nMR [.ref e, .ref ps, .int 4, .ref D, .ref b, .ref r, .int ((0 : Nat) : Int), .int 4, .ref d] ∧ H' = H6) ∨ (i = 1 ∧ (∃ c, H' r = some (.lst [.ref c]) ∧ H' c = some (.dK [(.inl 0, .ref q)])) ∧ ∃ o3 o6 o7 o8 o9 oa ob oc, σ = [some (.ref e), some (.ref ps), some (.int 4), o3, some (.ref b), some (.ref r), o6, o7, o8, o9, oa, ob, oc])))
        ⟨s56, hp1, .inl ⟨rfl, rfl, rfl⟩⟩ (fun i σ H' _ p => SqL.of p.2.1) (fun i x σ H7 H8 hi p y => ?_) (fun σ H7 p => ?_)
      · obtain ⟨rfl, hx⟩ := y
        obtain ⟨s7, hp7, ⟨rfl, rfl, rfl⟩ | ⟨rfl, _⟩⟩ := p
        · cases hx
          refine ⟨_, rfl, .inl ⟨rfl, _, SqL.of hb6⟩, _, rfl, _, rfl, (by show 2 ≤ sizeLine; decide), fun T3 hT3 => ⟨b, [], _, rfl, rfl, Same.new hT3 _ _ hb6, by decide, ?_⟩⟩
          have sT := s7.trans (Same.new (o := .tup [V.int ((0 : Nat) : Int), V.ref t1]) hT3)
          have s8 : Same H (upd (upd H8 T3 (.tup [V.int ((0 : Nat) : Int), V.ref t1])) b (.lst ([] ++ [V.ref T3]))) := Same.back sT nb
          have go : ∀ (c : Addr) (o : HO), c ≠ b → H8 c = some o → upd (upd H8 T3 (.tup [V.int ((0 : Nat) : Int), V.ref t1])) b (.lst ([] ++ [V.ref T3])) c = some o := fun c o n h => by
            rw [upd_ne n]
            exact Same.new hT3 _ _ h
          have hr8 := go r _ nrb hr6
          have hD8 := go D _ (fun z => by rw [z, hb6] at h6; cases h6) h6
          have ht8 := go t1 _ (fun z => by rw [z, hb6] at ht1; cases ht1) ht1
          have hp8 := go p1 _ (fun z => by rw [z, hb6] at hp1; cases hp1) hp1
          have hd8 := s8 _ _ hd
          generalize upd (upd H8 T3 (.tup [V.int ((0 : Nat) : Int), V.ref t1])) b (.lst ([] ++ [V.ref T3])) = H8 at *
          refine ⟨_, rfl, .inl ⟨rfl, _, SqL.of hr8⟩, d, _, hd8, trivial, fun od => ⟨_, rfl, d, od, _, rfl, upd_same, fun C hC => ?_⟩⟩
          have nC : C ≠ d := fun z => by rw [z, upd_same] at hC; cases hC
          have nrd : r ≠ d := fun z => by rw [z, hd8] at hr8; cases hr8
          have nDd : D ≠ d := fun z => by rw [z, hd8] at hD8; cases hD8
          refine dc_it walkP (fun i H' => Same (upd H8 d (.frz od (.dT [([.inl 2], .ref q)]))) H' ∧ ((i = 0 ∧ H' C = some (.dK [])) ∨ (i = 1 ∧ H' C = some (.dK [(.inl 0, .ref q)])))) ⟨Same.new hC, .inl ⟨rfl, upd_same⟩⟩ (fun i H' _ p => p.1 _ _ upd_same) (fun i x H9 Ha hi p y => ?_) fun H9 p => ?_
          · obtain ⟨T4, k4, v4, q4, e1, hq4, rfl, hT4, rfl⟩ := y
            obtain ⟨s9, ⟨rfl, h9⟩ | ⟨rfl, _⟩⟩ := p
            · cases e1
              have nt : C ≠ T4 := fun z => by rw [← z, h9] at hT4; cases hT4
              have sa := s9.trans (Same.new (o := .tup [V.ref q4, V.ref q]) hT4)
              have ht9 : upd H9 T4 (.tup [V.ref q4, V.ref q]) t1 = some (.tup (iV [0])) := sa _ _ (locked (fun z => by rw [z, hd8] at ht8; cases ht8) ht8)
              have hD9 : upd H9 T4 (.tup [V.ref q4, V.ref q]) D = some (.dT [([.inl 2], .int 0)]) := sa _ _ (locked nDd hD8)
              have hq9 : upd H9 T4 (.tup [V.ref q4, V.ref q]) q4 = some (.tup (iV [2])) := Same.new hT4 _ _ hq4
              refine ⟨T4, _, rfl, SqT.of upd_same, rfl, _, _, rfl, _, _, rfl, rfl, rfl, iteT (B := True) ⟨_, rfl, _, rfl, _, rfl, t1, q4, [0], [2], rfl, SqT.of ht9, SqT.of hq9, by decide, rfl, fun Hb p sb hp0 hp => ?_⟩⟩
              refine ⟨D, .int 0, rfl, DGet.t (k := [.inl 2]) (sb _ _ hD9) hp, _, rfl, _, DPut.k (k := .inl 0) (sb _ _ (by rw [upd_ne nt]; exact h9)) (by decide), Same.back' (sa.trans sb) hC, .inr ⟨rfl, upd_same⟩⟩
            · exact absurd hi (Nat.lt_irrefl 1)
          · obtain ⟨s9, ⟨z, _⟩ | ⟨_, h9⟩⟩ := p
            · cases z
            refine ⟨s9 _ _ upd_same, ?_⟩
            have su := unlock hd8 s9
            have hr9 := su _ _ hr8
            have hp9 := su _ _ hp8
            have hC9 : upd H9 d (.dT [([.inl 2], .ref q)]) C = some (.dK [(.inl 0, .ref q)]) := by rw [upd_ne nC]; exact h9
            have s89 := s8.trans su
            have nCr : C ≠ r := fun z => by rw [z, hr9] at hC9; cases hC9
            have npr : p1 ≠ r := fun z => by
              rw [z, hr9] at hp9
              cases hp9
            generalize upd H9 d (.dT [([.inl 2], .ref q)]) = H9 at *
            exact ⟨r, [], _, rfl, rfl, hr9, by decide, Same.back s89 nr, by rw [upd_ne npr]; exact hp9, .inr ⟨rfl, ⟨C, upd_same, by rw [upd_ne nCr]; exact hC9⟩, _, _, _, _, _, _, _, _, rfl⟩⟩
        · exact absurd hi (Nat.lt_irrefl 1)
      · obtain ⟨s7, hp7, ⟨z, _⟩ | ⟨_, hc, hs⟩⟩ := p
        · cases z
        · exact ⟨s7, .inr ⟨rfl, hc, hs⟩⟩
    · exact absurd hi (Nat.lt_irrefl 1)
  · obtain ⟨s4, ⟨z, _⟩ | ⟨_, ⟨c, hc1, hc2⟩, o3, o6, o7, o8, o9, oa, ob, oc, rfl⟩⟩ := p
    · cases z
    · refine ⟨_, rfl, _, rfl, (by show 2 ≤ sizeLine; decide), fun T hT => ?_⟩
      have st := Same.new (o := .tup [V.ref b, V.ref r]) hT
      exact k _ _ _ _ _ (s4.trans st) (SqT.of upd_same) (st _ _ hc1) (st _ _ hc2)
end
end K9
namespace K9
open PySem PySem.Spec PyProof.Rows L2 RZ Dic
/-! ### the first open degree: none -/
/-- even degrees (2,) with one part {(2,): v} at 4, or no even degrees -/
inductive Parts (K : PySem.W.Frag) (H : Hp) (e ps : Addr) (bd : Int) : Prop
  | no (h : SqT K H e (iV []))
  | one {d t q : Addr} {v : Int} (he : SqT K H e (iV [2])) (hb : bd = 2) (hps : H ps = some (.lst [.ref t])) (ht : SqT K H t [.int 4, .ref d]) (hd : H d = some (.dT [([.inl 2], .ref q)])) (hq : SqT K H q [.int v, .int 1]) (v0 : 0 < v) (v1 : v < 2 ^ 29)
def spOpen (K : PySem.W.Frag) : Sp := fun vs H Q _ => ∃ (e ps : Addr) (bd : Int), vs = [.ref e, .ref ps, .int bd] ∧ Parts K H e ps bd ∧ ∀ H', Same H H' → Q .non H'
abbrev nOD : List Str := ["evens", "parts", "bound", "degree", "rows", "even"]
theorem scOD : FnScope nOD ["evens", "parts", "bound"] (defScope sOpenDegree) := ⟨rfl, rfl, rfl, by decide +kernel, rfl, by decide +kernel, by decide +kernel⟩
section
variable {P : Program} {w : World} {K : PySem.W.Frag} {mg : Str → Option Value} {base : Heap} {fF fW fM fA fC : Addr} {dF dW dM dA dC : FuncData}
theorem ok_open {f : Addr} {fd : FuncData} (F : Fun K "open_degree" "open_degree" sOpenDegree f fd) (T : Txt K mg) (gF : mg "first_power" = some (.ref fF)) (kF : PySem.W.keepIn K (.ref fF) = true) (bF : Binds K dF ["degree", "bound"] [])
    (FF : FnOk P w K mg base CX0 1 fF dF ["degree", "bound"] spFirstPow) (gW : mg "whole_rows" = some (.ref fW)) (kW : PySem.W.keepIn K (.ref fW) = true) (bW : Binds K dW ["rows"] [])
    (FW : FnOk P w K mg base CX0 2 fW dW ["rows"] (spRows1 K)) (gM : mg "made_rows" = some (.ref fM)) (kM : PySem.W.keepIn K (.ref fM) = true) (bM : Binds K dM ["evens", "parts", "degree"] [])
    (FM : FnOk P w K mg base CX0 4 fM dM ["evens", "parts", "degree"] (spMade1 K)) (gA : mg "are_all_made" = some (.ref fA)) (kA : PySem.W.keepIn K (.ref fA) = true) (bA : Binds K dA ["rows", "width"] [])
    (FA : FnOk P w K mg base CX0 3 fA dA ["rows", "width"] spAllMade1) (gC : mg "count_words" = some (.ref fC)) (kC : PySem.W.keepIn K (.ref fC) = true) (bC : Binds K dC ["letters", "degree"] [])
    (FC : FnOk P w K mg base CX0 3 fC dC ["letters", "degree"] (spCount K)) : FnOk P w K mg base CX0 5 f fd ["evens", "parts", "bound"] (spOpen K) := by
  refine F.ok scOD (fun vs H Q E h => ?_) (fun cdv A outer s H vs Q E hr h => ?_)
  · obtain ⟨e, ps, bd, rfl, _⟩ := h; rfl
  obtain ⟨e, ps, bd, rfl, hp, k⟩ := h
  have hr1 : Room 1 _ := hr.mono (by decide)
  have hr2 : Room 2 _ := hr.mono (by decide)
  have hr3 : Room 3 _ := hr.mono (by decide)
  refine ⟨_, pss_cons (ps_for PassesOwn.never rfl (pi_list (pe_callB (cr_sortedSet rfl) (by rfl) T.sorted bootSorted (pa_cons (pe_sct (z := ints0) (r := rSAdd) fresh_ints (fun _ => mt_sadd) rfl scOD.nd (own := [("even", 5)]) (g := gName 5) (pi_tup (pv 0)) (blkOk_by (N := nOD) (sc := defScope sOpenDegree) (by decide +kernel)) (fun _ _ _ _ _ => pg_name (i := 5) scOD.nd rfl (.inl rfl)) (fun _ _ _ _ _ => pts_nil)
          (fun _ _ _ _ _ => pe_op op_mul (pv 5) (pe_call FF hr1 (by rfl) gF kF bF .nil pass0 (by exact (pa_cons (pv 5) (pa_cons (pv 2) pa_nil)))))) pa_nil))) (pg_name (i := 3) scOD.nd rfl (.inl rfl))
      (pss_cons (ps_set (i := 4) scOD.nd rfl (.inl rfl) (pe_call FW hr2 (by rfl) gW kW bW .nil pass0 (pa_cons (pe_ix (ixT K) (pe_call FM hr (by rfl) gM kM bM .nil pass0 (pa_cons (pv 0) (pa_cons (pv 1) (pa_cons (pv 3) pa_nil)))) pe_int (fun _ _ => rfl)) pa_nil)))
      (pss_one (ps_if (pt_not (pt_val (pe_call FA hr3 (by rfl) gA kA bA .nil pass0 (pa_cons (pv 4) (pa_cons (pe_call FC hr3 (by rfl) gC kC bC .nil pass0 (pa_cons (pv 0) (pa_cons (pv 3) pa_nil))) pa_nil))))) (pss_one (ps_ret (pv 3))) pss_nil))))
    (pss_one (ps_ret pe_non)), ?_⟩
  cases hp with
  | no he =>
    refine ⟨_, rfl, e, rfl, ⟨_, he⟩, fun D hD => ?_⟩
    refine sc_it (walk_tup (K := K) (a := e) (xs := iV [])) (fun i H' => H' = upd H D (SetO w D (fun _ => false) 0)) rfl (fun i H' _ p => by rw [p]; exact tupSame (Same.new hD) he) (fun i x H1 H2 hi p y => absurd hi (Nat.not_lt_zero _)) fun H1 p => ?_
    obtain rfl := p
    refine ⟨D, _, 0, rfl, upd_same, by decide, fun ns p _ _ hz hp => ⟨p, rfl, ⟨_, SqL.of (K := K) upd_same⟩, ?_⟩⟩
    obtain rfl := List.eq_nil_of_length_eq_zero hz
    have s1 := (Same.new (o := SetO w D (fun _ => false) 0) hD).trans (Same.new (o := .lst (([] : List Int).map V.int)) hp)
    refine for_it (walk_list (K := K) (a := p) (xs := ([] : List Int).map V.int)) (fun i σ H' => H' = upd (upd H D (SetO w D (fun _ => false) 0)) p (.lst (([] : List Int).map V.int))) rfl (fun i σ H' _ q => by rw [q]; exact SqL.of upd_same) (fun i x σ H1 H2 hi p y => absurd hi (Nat.not_lt_zero _)) fun σ H1 q => ?_
    obtain rfl := q
    exact k _ s1
  | @one d t q v he hb hps ht hd hq v0 v1 =>
    subst hb
    have lt2 : Lt [2] := ⟨by decide, by decide, by decide⟩
    have hcnt : cnt [2] 4 = 1 := by decide +kernel
    refine ⟨_, rfl, e, rfl, ⟨_, he⟩, fun D hD => ?_⟩
    refine sc_it (walk_tup (K := K) (a := e) (xs := iV [2])) (fun i H' => Same H H' ∧ ((i = 0 ∧ H' D = some (SetO w D (fun _ => false) 0)) ∨ (i = 1 ∧ H' D = some (SetO w D (fun j => false || decide (j = 4)) 1)))) ⟨Same.new hD, .inl ⟨rfl, upd_same⟩⟩ (fun i H' _ p => tupSame p.1 he) (fun i x H1 H2 hi p y => ?_) fun H1 p => ?_
    · obtain ⟨rfl, hx⟩ := y
      obtain ⟨s1, ⟨rfl, h1⟩ | ⟨rfl, _⟩⟩ := p
      · cases hx
        refine ⟨rfl, iteT (B := True) ⟨_, rfl, _, rfl, _, rfl, 2, 2, rfl, by decide, by decide, _, _, rfl, rfl, .inl ⟨by decide, by decide⟩, D, _, _, 0, rfl, rfl, h1, by decide, Same.back s1 hD, .inr ⟨rfl, upd_same⟩⟩⟩
      · exact absurd hi (Nat.lt_irrefl 1)
    obtain ⟨s1, ⟨z, _⟩ | ⟨_, h1⟩⟩ := p
    · cases z
    refine ⟨D, _, 1, rfl, h1, by decide, fun ns p _ hm hz hp => ?_⟩
    obtain rfl : ns = [4] := by
      match ns, hz with
      | [n], _ =>
        have := (hm n).mp List.mem_cons_self
        rw [Bool.false_or] at this
        rw [of_decide_eq_true this]
    have s2 := s1.trans (Same.new (o := .lst (([4] : List Int).map V.int)) hp)
    refine ⟨p, rfl, ⟨_, SqL.of (K := K) upd_same⟩, ?_⟩
    have hp2 : upd H1 p (.lst (([4] : List Int).map V.int)) p = some (.lst [.int 4]) := upd_same
    generalize upd H1 p (.lst (([4] : List Int).map V.int)) = H2 at *
    refine for_it (walk_list (K := K) (a := p) (xs := ([4] : List Int).map V.int)) (fun i σ H' => Same H2 H' ∧ ((i = 0 ∧ σ = L2.start nOD [.ref e, .ref ps, .int 2]) ∨ (i = 1 ∧ ∃ o3 o4 o5, σ = [some (.ref e), some (.ref ps), some (.int 2), o3, o4, o5]))) ⟨Same.refl _, .inl ⟨rfl, rfl⟩⟩ (fun i σ H' _ q => SqL.of (q.1 _ _ hp2)) (fun i x σ H3 H4 hi p y => ?_) (fun σ H3 p => ?_)
    · obtain ⟨rfl, hx⟩ := y
      obtain ⟨s3, ⟨rfl, rfl⟩ | ⟨rfl, _⟩⟩ := p
      · cases hx
        have s23 := s2.trans s3
        refine ⟨_, rfl, _, rfl, _, rfl, e, ps, d, t, q, v, rfl, tupSame s23 he, s23 _ _ hps, tupSame s23 ht, s23 _ _ hd, tupSame s23 hq, fun H5 p b r c s5 hp5 hr5 hc5 => ?_⟩
        have s25 := s23.trans s5
        refine ⟨p, _, _, _, rfl, rfl, hp5, rfl, r, c, [(0, v)], [(.inl 0, .ref q)], rfl, hr5, ⟨hc5, .cons ⟨rfl, q, rfl, tupSame s25 hq⟩ .nil⟩, (by show 1 ≤ 900; decide), List.nodup_cons.mpr ⟨List.not_mem_nil, List.nodup_nil⟩, fun H6 p6 e6 s6 hp6 he6 => ?_⟩
        have s26 := s25.trans s6
        refine ⟨_, rfl, _, rfl, _, rfl, e, [2], 4, rfl, tupSame s26 he, lt2, by decide, fun H7 s7 => ?_⟩
        rw [hcnt]
        refine ⟨p6, e6, v, rfl, s7 _ _ hp6, s7 _ _ he6, v0, v1, fun H8 s8 => ⟨true, rfl, iteF ?_⟩⟩
        exact ⟨s3.trans (s5.trans (s6.trans (s7.trans s8))), .inr ⟨rfl, _, _, _, rfl⟩⟩
      · exact absurd hi (Nat.lt_irrefl 1)
    · obtain ⟨s3, ⟨z, _⟩ | ⟨_, o3, o4, o5, rfl⟩⟩ := p
      · cases z
      · exact k _ (s2.trans s3)
end
end K9
namespace K9
open PySem PySem.Spec PyProof.Rows L2 RZ Dic ZpG
/-! ### whether steps end -/
def spRatio1 : Sp := fun vs H Q _ => ∃ n : Int, vs = [.int n] ∧ ∀ (H' : Hp) (p : Addr), Same H H' → H' p = some (.tup [.int n, .int 1]) → Q (.ref p) H'
/-- steps that end: one step for (2,) and (3,), or steps of nothing -/
inductive Steps (H : Hp) (EV OD : List Int) (xs : List V) : Prop
  | no (e : EV = []) (n : xs.length = OD.length) (l : xs.length ≤ 10) (h : ∀ x ∈ xs, ∃ a, x = .ref a ∧ H a = some (.dT []))
  | one {a : Addr} {v : Int} (e : EV = [2]) (o : OD = [3]) (hx : xs = [.ref a]) (ha : H a = some (.dT [([.inl 2], .int v)])) (v0 : 0 < v) (v1 : v < 2 ^ 29)
theorem Steps.mono {H H' : Hp} {EV OD : List Int} {xs : List V} (h : Steps H EV OD xs) (s : Same H H') : Steps H' EV OD xs := by
  cases h with
  | no e n l h => exact .no e n l fun x hx => let ⟨a, e, q⟩ := h x hx; ⟨a, e, s _ _ q⟩
  | one e o hx ha v0 v1 => exact .one e o hx (s _ _ ha) v0 v1
def spEnds (K : PySem.W.Frag) : Sp := fun vs H Q _ => ∃ (e o l : Addr) (EV OD : List Int) (xs : List V), vs = [.ref e, .ref o, .ref l] ∧ SqT K H e (iV EV) ∧ SqT K H o (iV OD) ∧ OD.length ≤ 10 ∧ (∀ d ∈ OD, 0 ≤ d ∧ d ≤ 100) ∧ H l = some (.lst xs) ∧ Steps H EV OD xs ∧ ∀ H', Same H H' → Q (.bl true) H'
theorem scAR : FnScope ["number"] ["number"] (defScope sAsRatio) := ⟨rfl, rfl, rfl, by decide +kernel, rfl, by decide +kernel, by decide +kernel⟩
abbrev nSE : List Str := ["evens", "odds", "steps", "parts", "odd", "step", "word", "number"]
theorem scSE : FnScope nSE ["evens", "odds", "steps"] (defScope sDoStepsEnd) := ⟨rfl, rfl, rfl, by decide +kernel, rfl, by decide +kernel, by decide +kernel⟩
theorem Steps.at' {H : Hp} {EV OD : List Int} {xs : List V} (h : Steps H EV OD xs) {i : Nat} {x : V} (e : xs[i]? = some x) : ∃ (a : Addr) (kvs : List (List Key × V)), x = .ref a ∧ H a = some (.dT kvs) ∧
    (kvs = [] ∨ ∃ v : Int, kvs = [([.inl 2], .int v)] ∧ 0 < v ∧ v < 2 ^ 29) ∧ (EV = [] ∨ (EV = [2] ∧ OD = [3] ∧ i = 0 ∧ kvs ≠ [])) := by
  cases h with
  | no e0 n l h =>
    obtain ⟨a, ex, ha⟩ := h x (List.mem_of_getElem? e)
    exact ⟨a, [], ex, ha, .inl rfl, .inl e0⟩
  | @one a v e0 o hx ha v0 v1 =>
    subst hx
    match i, e with
    | 0, e =>
      cases e
      exact ⟨a, _, rfl, ha, .inr ⟨v, rfl, v0, v1⟩, .inr ⟨e0, o, rfl, fun z => nomatch z⟩⟩
theorem Steps.len {H : Hp} {EV OD : List Int} {xs : List V} (h : Steps H EV OD xs) : xs.length = OD.length := by
  cases h with
  | no e0 n l h => exact n
  | one e0 o hx ha v0 v1 => rw [o, hx]; rfl
section
variable {P : Program} {w : World} {K : PySem.W.Frag} {mg : Str → Option Value} {base : Heap} {fR fO fB : Addr} {dR dO dB : FuncData}
theorem ok_ratio1 {f : Addr} {fd : FuncData} (F : Fun K "as_ratio" "as_ratio" sAsRatio f fd) (T : Txt K mg) : FnOk P w K mg base CX0 1 f fd ["number"] spRatio1 := by
  refine F.ok scAR (fun vs H Q E h => ?_) (fun cdv A outer s H vs Q E hr h => ?_)
  · obtain ⟨n, rfl, _⟩ := h; rfl
  obtain ⟨n, rfl, k⟩ := h
  refine ⟨_, pss_one (ps_ret (pe_ifExp (pt_val (pe_callB call_isi (by rfl) T.isi bootIsi (pa_cons (pv 0) (pa_cons (pe_bltn (v := .ty "tuple") (by rfl) T.tuple bootTuple rfl) pa_nil)))) (pv 0) (pe_tup (pa_cons (pv 0) (pa_cons pe_int pa_nil))))), ?_⟩
  exact ⟨_, rfl, _, _, _, _, false, rfl, .ty "tuple", .base (.int _), kit_ty (by decide +kernel), _, rfl, iteF ⟨_, rfl, (by show 2 ≤ sizeLine; decide), fun p hp => k _ p (Same.new hp) upd_same⟩⟩
theorem ok_ends {f : Addr} {fd : FuncData} (F : Fun K "_do_steps_end" "_do_steps_end" sDoStepsEnd f fd) (T : Txt K mg) (gR : mg "as_ratio" = some (.ref fR)) (kR : PySem.W.keepIn K (.ref fR) = true) (bR : Binds K dR ["number"] [])
    (FR : FnOk P w K mg base CX0 1 fR dR ["number"] spRatio1) (gO : mg "open_degree" = some (.ref fO)) (kO : PySem.W.keepIn K (.ref fO) = true) (bO : Binds K dO ["evens", "parts", "bound"] [])
    (FO : FnOk P w K mg base CX0 5 fO dO ["evens", "parts", "bound"] (spOpen K)) (gB : mg "bound_of" = some (.ref fB)) (kB : PySem.W.keepIn K (.ref fB) = true) (bB : Binds K dB ["letters"] [])
    (FB : FnOk P w K mg base CX0 1 fB dB ["letters"] (spBound K)) : FnOk P w K mg base CX0 6 f fd ["evens", "odds", "steps"] (spEnds K) := by
  refine F.ok scSE (fun vs H Q E h => ?_) (fun cdv A outer s H vs Q E hr h => ?_)
  · obtain ⟨e, o, l, EV, OD, xs, rfl, _⟩ := h; rfl
  obtain ⟨e, o, l, EV, OD, xs, rfl, he, ho, hn, hO, hl, st, k⟩ := h
  have hr1 : Room 1 _ := hr.mono (by decide)
  refine ⟨_, pss_cons (ps_set (i := 3) scSE.nd rfl (.inl rfl) (pe_lst pa_nil))
    (pss_cons (ps_for PassesOwn.never rfl (pi_zipG true false (by rfl) T.zip (pa_cons (pv 1) (pa_cons (pv 2) pa_nil))) (pg_tup (by rfl) (pgs_cons (pg_name (i := 4) scSE.nd rfl (.inl rfl)) (pgs_cons (pg_name (i := 5) scSE.nd rfl (.inl rfl)) pgs_nil)))
      (pss_one (ps_expr (pe_bm PySem.F.plainAttrs_list PySem.F.slot_list_append PySem.F.type_list_append mt_append (pv 3) (pa_cons (pe_tup (pa_cons (pe_op op_add (pv 4) pe_int) (pa_cons (pe_lock (pe_dct .t (hu_of hr) rfl scSE.nd (own := [("word", 6), ("number", 7)]) (g := gTup K 2 (gCons (gName 6) (gCons (gName 7) gNil))) (pi_pairs (pv 5)) (blkOk_by (N := nSE) (sc := defScope sDoStepsEnd) (by decide +kernel)) (fun _ _ _ _ _ => pg_tup (by rfl) (pgs_cons (pg_name (i := 6) scSE.nd rfl (.inl rfl)) (pgs_cons (pg_name (i := 7) scSE.nd rfl (.inl rfl)) pgs_nil)))
          (fun _ _ _ _ _ => pts_nil) (fun _ _ _ _ _ => pv 6) (fun _ _ _ _ _ => pe_call FR hr1 (by rfl) gR kR bR .nil pass0 (by exact (pa_cons (pv 7) pa_nil))))) pa_nil))) pa_nil)))))
    (pss_one (ps_ret (pe_cmpR op_isN (pe_call FO hr (by rfl) gO kO bO .nil pass0 (pa_cons (pv 0) (pa_cons (pv 3) (pa_cons (pe_call FB hr1 (by rfl) gB kB bB .nil pass0 (pa_cons (pe_op op_catA (pv 0) (pv 1)) pa_nil)) pa_nil)))) pe_non (nomark _))))), ?_⟩
  refine ⟨(by show 0 ≤ sizeLine; decide), fun p hp => ?_⟩
  have s1 := Same.new (o := .lst []) hp
  refine ⟨_, rfl, _, rfl, o, l, _, _, rfl, tupSame s1 ho, SqL.of (s1 _ _ hl), ?_⟩
  have lx := st.len
  have lo : (iV OD).length = OD.length := List.length_map ..
  have hE : (EV = [] ∨ (EV = [2] ∧ OD = [3])) := by
    cases st with
    | no e0 n l h => exact .inl e0
    | one e0 o hx ha v0 v1 => exact .inr ⟨e0, o⟩
  refine for_it (walkZ (K := K) (a := o) (b := l) (t := true) (u := false) (xs := iV OD) (ys := xs) (n := OD.length) (by rw [lo, lx]; exact (Nat.min_self _).symm)) (fun i σ H' => (∃ o4 o5 o6 o7, σ = [some (.ref e), some (.ref o), some (.ref l), some (.ref p), o4, o5, o6, o7]) ∧ Same H H' ∧ ∃ ps, H' p = some (.lst ps) ∧ ps.length = i ∧
      (EV = [2] → 0 < i → ∃ (t d q : Addr) (v : Int), ps = [.ref t] ∧ SqT K H' t [.int 4, .ref d] ∧ H' d = some (.dT [([.inl 2], .ref q)]) ∧ SqT K H' q [.int v, .int 1] ∧ 0 < v ∧ v < 2 ^ 29))
    ⟨⟨_, _, _, _, rfl⟩, s1, [], upd_same, rfl, fun _ z => absurd z (Nat.lt_irrefl 0)⟩ (fun i σ H' _ q => ⟨tupSame q.2.1 ho, SqL.of (q.2.1 _ _ hl)⟩) (fun i x σ H1 H2 hi q y => ?_) (fun σ H1 q => ?_)
  · obtain ⟨⟨o4, o5, o6, o7, rfl⟩, s2, ps, hps, lp, _⟩ := q
    obtain ⟨T, x0, y0, rfl, hT, rfl, e1, e2⟩ := y
    obtain ⟨dg, hdg, rfl⟩ : ∃ d, OD[i]? = some d ∧ V.int d = x0 := by
      have e1 : (OD.map V.int)[i]? = some x0 := e1
      rw [List.getElem?_map] at e1
      exact Option.map_eq_some_iff.mp e1
    obtain ⟨a, kvs, rfl, ha, hk, hEi⟩ := st.at' e2
    refine ⟨T, _, rfl, SqT.of upd_same, rfl, _, _, rfl, _, _, rfl, rfl, ?_⟩
    have s3 := s2.trans (Same.new (o := .tup [V.int dg, V.ref a]) hT)
    have hp3 := Same.new (o := .tup [V.int dg, V.ref a]) hT _ _ hps
    have ha3 := s3 _ _ ha
    generalize upd H1 T (.tup [V.int dg, V.ref a]) = H3 at *
    refine ⟨_, rfl, .inl ⟨rfl, _, SqL.of hp3⟩, _, rfl, _, _, rfl, rfl, a, _, ha3, trivial, fun od => ⟨_, rfl, a, od, _, rfl, upd_same, fun D hD => ?_⟩⟩
    have nD : D ≠ a := fun z => by rw [z, upd_same] at hD; cases hD
    have npa : p ≠ a := fun z => by rw [z, ha3] at hp3; cases hp3
    have lk : kvs.length ≤ 1 := by
      rcases hk with rfl | ⟨v, rfl, _, _⟩
      · exact Nat.zero_le _
      · exact Nat.le_refl _
    refine dc_it walkP (fun j H' => Same (upd H3 a (.frz od (.dT kvs))) H' ∧ ∃ kv2, H' D = some (.dT kv2) ∧ kv2.length = j ∧ (0 < j → ∃ (q : Addr) (v : Int), kvs = [([.inl 2], .int v)] ∧ kv2 = [([.inl 2], .ref q)] ∧ SqT K H' q [.int v, .int 1])) ⟨Same.new hD, [], upd_same, rfl, fun z => absurd z (Nat.lt_irrefl 0)⟩ (fun i H' _ p => p.1 _ _ upd_same) (fun j x H4 H5 hj q y => ?_) fun H4 q => ?_
    · obtain ⟨T4, k4, v4, q4, e4, hq4, rfl, hT4, rfl⟩ := y
      obtain ⟨s4, kv2, h4, l4, _⟩ := q
      obtain rfl : j = 0 := by omega
      obtain rfl := List.eq_nil_of_length_eq_zero l4
      rcases hk with rfl | ⟨v, rfl, v0, v1⟩
      · exact absurd hj (Nat.not_lt_zero _)
      cases e4
      have nt : D ≠ T4 := fun z => by rw [← z, h4] at hT4; cases hT4
      have sa := s4.trans (Same.new (o := .tup [V.ref q4, V.int v]) hT4)
      have hq5 : upd H4 T4 (.tup [V.ref q4, V.int v]) q4 = some (.tup (iV [2])) := Same.new hT4 _ _ hq4
      have hD5 : upd H4 T4 (.tup [V.ref q4, V.int v]) D = some (.dT []) := by rw [upd_ne nt]; exact h4
      refine ⟨T4, _, rfl, SqT.of upd_same, rfl, _, _, rfl, _, _, rfl, rfl, rfl, iteT (B := True) ⟨_, rfl, _, rfl, v, rfl, fun H6 q6 s6 h6 => ?_⟩⟩
      have hD6 := s6 _ _ hD5
      have nq6 : D ≠ q6 := fun z => by rw [← z, hD6] at h6; cases h6
      refine ⟨_, DPut.t (k := [.inl 2]) hD6 (s6 _ _ hq5) (by decide), Same.back' (sa.trans s6) hD, _, upd_same, rfl, fun _ => ⟨q6, v, rfl, rfl, SqT.of (by rw [upd_ne (Ne.symm nq6)]; exact h6)⟩⟩
    · obtain ⟨s4, kv2, h4, l4, f4⟩ := q
      refine ⟨s4 _ _ upd_same, (by show 2 ≤ sizeLine; decide), fun T2 hT2 => ?_⟩
      have su := unlock ha3 s4
      have hp4 := su _ _ hp3
      have hD4 : upd H4 a (.dT kvs) D = some (.dT kv2) := by rw [upd_ne nD]; exact h4
      have f5 : 0 < kvs.length → ∃ (q : Addr) (v : Int), kvs = [([.inl 2], .int v)] ∧ kv2 = [([.inl 2], .ref q)] ∧ SqT K (upd H4 a (.dT kvs)) q [.int v, .int 1] := fun z => by
        obtain ⟨q, v, e1, e2, e3⟩ := f4 z
        have hf : H4 a = some (.frz od (.dT kvs)) := s4 _ _ upd_same
        refine ⟨q, v, e1, e2, ?_⟩
        rcases e3 with (e3 | ⟨ob, e3⟩) | e3
        · exact .inl (.inl (by rw [upd_ne (fun z => by rw [z, hf] at e3; cases e3)]; exact e3))
        · exact .inl (.inr ⟨ob, by rw [upd_ne (fun z => by rw [z, hf] at e3; cases e3)]; exact e3⟩)
        · exact .inr e3
      have s34 := s3.trans su
      generalize upd H4 a (.dT kvs) = H5 at *
      have st2 := Same.new (o := .tup [V.int (dg + 1), V.ref D]) hT2
      refine ⟨p, ps, _, rfl, rfl, st2 _ _ hp4, Nat.lt_of_le_of_lt (by omega : ps.length ≤ 10) (by decide), ⟨_, _, _, _, rfl⟩, Same.back' (s34.trans st2) hp, _, upd_same, by rw [List.length_append, lp]; rfl, fun eE _ => ?_⟩
      rcases hEi with z | ⟨_, eO, ei, kne⟩
      · rw [eE] at z; cases z
      subst ei
      rw [eO] at hdg
      cases hdg
      obtain ⟨q, v, ek, e2', e3⟩ := f5 (List.length_pos_iff.mpr kne)
      obtain rfl := List.eq_nil_of_length_eq_zero lp
      rcases hk with z | ⟨v', ek', v0, v1⟩
      · exact absurd z kne
      rw [ek] at ek'
      cases ek'
      have nTp : T2 ≠ p := fun z => by rw [z, hp4] at hT2; cases hT2
      have g : ∀ {b : Addr} {o : HO}, b ≠ p → H5 b = some o → upd (upd H5 T2 (.tup [V.int (3 + 1), V.ref D])) p (.lst ([] ++ [V.ref T2])) b = some o := fun n h => by rw [upd_ne n]; exact st2 _ _ h
      refine ⟨T2, D, q, v, rfl, SqT.of (by rw [upd_ne nTp]; exact upd_same), ?_, ?_, v0, v1⟩
      · rw [← e2']
        exact g (fun z => by rw [z, hp4] at hD4; cases hD4) hD4
      · rcases e3 with (e3 | ⟨ob, e3⟩) | e3
        · exact .inl (.inl (g (fun z => by rw [z, hp4] at e3; cases e3) e3))
        · exact .inl (.inr ⟨ob, g (fun z => by rw [z, hp4] at e3; cases e3) e3⟩)
        · exact .inr e3
  · obtain ⟨⟨o4, o5, o6, o7, rfl⟩, s2, ps, hps, lp, f⟩ := q
    have hEl : EV.length ≤ 1 := by
      rcases hE with rfl | ⟨rfl, _⟩
      · exact Nat.zero_le _
      · exact Nat.le_refl _
    refine ⟨_, rfl, _, rfl, _, rfl, _, rfl, cat_tup (tupSame s2 he) (tupSame s2 ho) (by rw [List.length_map, List.length_map]; omega) fun H3 q s3 hq => ?_⟩
    have ap : iV EV ++ iV OD = iV (EV ++ OD) := (List.map_append ..).symm
    rw [ap] at hq
    refine ⟨q, EV ++ OD, rfl, hq, by rw [List.length_append]; omega, fun d hd => ?_, fun H4 s4 => ?_⟩
    · rcases List.mem_append.mp hd with z | z
      · rcases hE with rfl | ⟨rfl, _⟩
        · cases z
        · obtain rfl : d = 2 := by simpa using z
          exact ⟨by decide, by decide⟩
      · have := hO d z
        omega
    have s24 := s2.trans (s3.trans s4)
    refine ⟨e, p, bndI (EV ++ OD), rfl, ?_, fun H5 s5 => ⟨rfl, k _ (s24.trans s5)⟩⟩
    rcases hE with rfl | ⟨rfl, rfl⟩
    · exact .no (tupSame s24 he)
    · obtain ⟨t, d, q, v, rfl, h1, h2, h3, v0, v1⟩ := f rfl (by decide)
      have s34 := s3.trans s4
      exact .one (tupSame s24 he) (by decide) (s34 _ _ hps) (tupSame s34 h1) (s34 _ _ h2) (tupSame s34 h3) v0 v1
end
end K9
namespace K9
open PySem PySem.Spec PyProof.Rows L2 RZ Dic ZpG
/-! ### the words that are needed -/
def spWithin0 (K : PySem.W.Frag) : Sp := fun vs H Q _ => ∃ (a b : Addr) (xs ys : List V), vs = [.ref a, .ref b] ∧ SqT K H a xs ∧ SqT K H b ys ∧ ys.length ≤ xs.length ∧ Q (.bl false) H
def spNeeded (K : PySem.W.Frag) : Sp := fun vs H Q _ => ∃ (e : Addr) (d : Nat), vs = [.ref e, .int (d : Int)] ∧
  ((SqT K H e (iV []) ∧ d = 40 ∧ ∀ H' p, Same H H' → H p = none → H' p = some (.lst []) → Q (.ref p) H') ∨ (SqT K H e (iV [2]) ∧ d = 4 ∧ ∀ H' p t, Same H H' → H p = none → H' p = some (.lst [.ref t]) → H' t = some (.tup (iV [2])) → Q (.ref p) H'))
def spListed2 (K : PySem.W.Frag) : Sp := fun vs H Q _ => ∃ (a : Addr) (L : List Int) (d : Nat), vs = [.ref a, .int (d : Int)] ∧ SqT K H a (iV L) ∧ Lt L ∧ d ≤ 80 ∧ (wds L d = [] ∨ wds L d = [[2]]) ∧
  ∀ H' p ws, Same H H' → H' p = some (.lst ws) → (ws = [] ∧ wds L d = [] ∨ ∃ t, wds L d = [[2]] ∧ ws = [.ref t] ∧ H' t = some (.tup (iV [2]))) → Q (.ref p) H'
theorem listed2 {K : PySem.W.Frag} : ∀ vs H Q E, spListed2 K vs H Q E → spListed1 K vs H Q E := by
  rintro vs H Q E ⟨a, L, d, rfl, ha, hL, hd, h | h, k⟩
  · exact ⟨a, L, d, rfl, ha, hL, hd, .inl ⟨h, fun H' p s hp => k H' p [] s hp (.inl ⟨rfl, h⟩)⟩⟩
  · exact ⟨a, L, d, rfl, ha, hL, hd, .inr ⟨[2], h, fun H' p t s hp ht => k H' p _ s hp (.inr ⟨t, h, rfl, ht⟩)⟩⟩
theorem scWt : FnScope ["lot", "other", "index"] ["lot", "other"] (defScope sIsWithin) := ⟨rfl, rfl, rfl, by decide +kernel, rfl, by decide +kernel, by decide +kernel⟩
theorem crAny (K : PySem.W.Frag) {X : Cx} (hc : X.calm = true) (h : X.K = K := by rfl) : CallR X (.builtin "any") (rAny K) := h ▸ cr_any hc
abbrev scIn : Scope := { kind := .function, names := [(".0", .local), ("own", .cell), ("any", .globalImplicit), ("words", .cell)], isGenerator := false, isCoroutine := false }
abbrev nNW : List Str := ["evens", "degree", "words", "word", "lot", "least", "index", "exponent", "own", "other"]
theorem scNW : FnScope nNW ["evens", "degree"] (defScope sNeededWords) := ⟨rfl, rfl, rfl, by decide +kernel, rfl, by decide +kernel, by decide +kernel⟩
section
variable {P : Program} {w : World} {K : PySem.W.Frag} {mg : Str → Option Value} {base : Heap} {fL fN fW : Addr} {dL dN dW : FuncData}
theorem ok_within0 {f : Addr} {fd : FuncData} (F : Fun K "_is_within" "_is_within" sIsWithin f fd) (T : Txt K mg) : FnOk P w K mg base CX0 1 f fd ["lot", "other"] (spWithin0 K) := by
  refine F.ok scWt (fun vs H Q E h => ?_) (fun cdv A outer s H vs Q E hr h => ?_)
  · obtain ⟨a, b, xs, ys, rfl, _⟩ := h; rfl
  obtain ⟨a, b, xs, ys, rfl, ha, hb, hl, k⟩ := h
  refine ⟨_, pss_one (ps_ret (pe_and (pe_cmpR op_lt (pe_callB call_len_seq (by rfl) T.len PySem.boot_len (pa_cons (pv 0) pa_nil)) (pe_callB call_len_seq (by rfl) T.len PySem.boot_len (pa_cons (pv 1) pa_nil)) (nomark _)) pe_no)), ?_⟩
  refine ⟨_, rfl, a, _, rfl, .inr ha, _, rfl, b, _, rfl, .inr hb, _, _, rfl, rfl, false, ?_, iteF k⟩
  exact congrArg V.bl (decide_eq_false (by omega))
theorem ok_needed {f : Addr} {fd : FuncData} (F : Fun K "_needed_words" "_needed_words" sNeededWords f fd) (T : Txt K mg) (gL : mg "listed_words" = some (.ref fL)) (kL : PySem.W.keepIn K (.ref fL) = true) (bL : Binds K dL ["letters", "degree"] [])
    (FL : FnOk P w K mg base CX0 3 fL dL ["letters", "degree"] (spListed1 K)) (gN : mg "length_of" = some (.ref fN)) (kN : PySem.W.keepIn K (.ref fN) = true) (bN : Binds K dN ["word"] [])
    (FN : FnOk P w K mg base CX0 1 fN dN ["word"] (spLen K)) (gW : mg "_is_within" = some (.ref fW)) (kW : PySem.W.keepIn K (.ref fW) = true) (bW : Binds K dW ["lot", "other"] [])
    (FW : FnOk P w K mg base CX0 1 fW dW ["lot", "other"] (spWithin0 K)) : FnOk P w K mg base CX0 4 f fd ["evens", "degree"] (spNeeded K) := by
  refine F.ok scNW (fun vs H Q E h => ?_) (fun cdv A outer s H vs Q E hr h => ?_)
  · obtain ⟨e, d, rfl, _⟩ := h; rfl
  obtain ⟨e, d, rfl, k⟩ := h
  obtain ⟨L, he, hL, hd, hw, k⟩ : ∃ L, SqT K H e (iV L) ∧ Lt L ∧ d ≤ 80 ∧ (wds L d = [] ∨ wds L d = [[2]]) ∧ ∀ H' p ws, Same H H' → H p = none → H' p = some (.lst ws) → (ws = [] ∧ wds L d = [] ∨ ∃ t, wds L d = [[2]] ∧ ws = [.ref t] ∧ H' t = some (.tup (iV [2]))) → Q (.ref p) H' := by
    rcases k with ⟨he, rfl, k⟩ | ⟨he, rfl, k⟩
    · refine ⟨[], he, ⟨by decide, by decide, by decide⟩, by decide, .inl (by decide +kernel), fun H' p ws s h0 hp z => ?_⟩
      rcases z with ⟨rfl, _⟩ | ⟨t, z, _⟩
      · exact k H' p s h0 hp
      · exact absurd z (by decide +kernel)
    · refine ⟨[2], he, ⟨by decide, by decide, by decide⟩, by decide, .inr (by decide +kernel), fun H' p ws s h0 hp z => ?_⟩
      rcases z with ⟨_, z⟩ | ⟨t, _, rfl, ht⟩
      · exact absurd z (by decide +kernel)
      · exact k H' p t s h0 hp ht
  have FL := FL.imp listed2
  have hr1 : Room 1 _ := hr.mono (by decide)
  refine ⟨_, pss_cons (ps_set (i := 2) scNW.nd rfl (.inr rfl) pe_dnewT)
    (pss_cons (ps_for PassesOwn.never rfl (pi_list (pe_call FL hr (by rfl) gL kL bL .nil pass0 (pa_cons (pv 0) (pa_cons (pv 1) pa_nil)))) (pg_name (i := 3) scNW.nd rfl (.inl rfl))
      (pss_one (ps_if (pt_cmpR op_gt (pe_call FN hr1 (by rfl) gN kN bN .nil pass0 (pa_cons (pv 3) pa_nil)) pe_int (nomark _))
        (pss_cons (ps_set (i := 4) scNW.nd rfl (.inl rfl) (pe_callTy call_tuple_of (by rfl) T.tuple bootTuple (pa_cons (pe_lc (own := [("index", 6), ("exponent", 7)]) (g := gTup K 2 (gCons (gName 6) (gCons (gName 7) gNil))) rfl scNW.nd (pi_enumT (by rfl) T.enumerate (pa_cons (pv 3) pa_nil)) (blkOk_by (N := nNW) (sc := defScope sNeededWords) (by decide +kernel)) (fun _ _ _ _ _ => pg_tup (by rfl) (pgs_cons (pg_name (i := 6) scNW.nd rfl (.inl rfl)) (pgs_cons (pg_name (i := 7) scNW.nd rfl (.inl rfl)) pgs_nil)))
          (fun _ _ _ _ _ => pts_one (pt_cmpR op_gt (pv 7) pe_int (nomark _))) (fun _ _ _ _ _ => pv 6)) pa_nil)))
        (pss_one (ps_dput (hu_of hr) (pv 2) (pv 4) (pv 3) rfl))) pss_nil)))
    (pss_cons (ps_lock (ps_setLc (i := 5) (own := [("own", 8)]) (g := gName 8) rfl scNW.nd rfl rfl (by rfl) (pi_keys (pv 2)) (blkOk_by (N := nNW) (sc := defScope sNeededWords) (by decide +kernel)) (fun _ _ _ _ _ => pg_name (i := 8) scNW.nd rfl (.inr rfl))
      (fun _ _ _ _ _ => pts_one (pt_not (pt_val (pe_callB (crAny K rfl) (by rfl) T.any bootAny (pa_cons (pe_lc (own := [("other", 9)]) (g := gName 9) rfl scNW.nd (pi_keys (pv 2)) (blkOk_by (N := nNW) (sc := scIn) (by decide +kernel)) (fun _ _ _ _ _ => pg_name (i := 9) scNW.nd rfl (.inl rfl)) (fun _ _ _ _ _ => pts_nil)
        (fun _ _ _ _ _ => pe_call FW hr1 (by rfl) gW kW bW .nil pass0 (by exact (pa_cons (pv 9) (pa_cons (pv 8) pa_nil))))) pa_nil))))) (fun _ _ _ _ _ => pv 8)))
    (pss_one (ps_ret (pe_lc (own := [("own", 8)]) (g := gName 8) rfl scNW.nd (pi_list (pv 5)) (blkOk_by (N := nNW) (sc := defScope sNeededWords) (by decide +kernel)) (fun _ _ _ _ _ => pg_name (i := 8) scNW.nd rfl (.inl rfl)) (fun _ _ _ _ _ => pts_nil) (fun _ _ _ _ _ => pe_dget (hu_of hr) (pv 2) (pv 8) (fun _ _ => rfl))))))), ?_⟩
  refine fun w0 hw0 => ?_
  have s1 := Same.new (o := .dT []) hw0
  refine ⟨_, rfl, _, rfl, e, L, d, rfl, tupSame s1 he, hL, hd, hw, fun H1 p0 ws s2 hp0 hws => ⟨p0, rfl, ⟨_, SqL.of hp0⟩, ?_⟩⟩
  have s12 := s1.trans s2
  have hq1 := s2 _ _ (upd_same (H := H) (a := w0) (o := .dT []))
  have lw : ws.length ≤ 1 := by
    rcases hws with ⟨rfl, _⟩ | ⟨t, _, rfl, _⟩
    · exact Nat.zero_le _
    · exact Nat.le_refl _
  refine for_it (walk_list (K := K) (a := p0) (xs := ws)) (fun i σ H' => Same H H' ∧ H' p0 = some (.lst ws) ∧ (∃ o3 o4 o5 o6 o7 o8 o9, σ = [some (.ref e), some (.int (d : Int)), some (.ref w0), o3, o4, o5, o6, o7, o8, o9]) ∧ (ws = [] ∧ wds L d = [] ∨ ∃ t, wds L d = [[2]] ∧ ws = [.ref t] ∧ H' t = some (.tup (iV [2]))) ∧
      ∃ kvs, H' w0 = some (.dT kvs) ∧ ((i = 0 ∧ kvs = []) ∨ (i = 1 ∧ ∃ t, ws = [.ref t] ∧ kvs = [([.inl 0], .ref t)]))) ⟨s12, hp0, ⟨_, _, _, _, _, _, _, rfl⟩, hws, [], hq1, .inl ⟨rfl, rfl⟩⟩ (fun i σ H' _ q => SqL.of q.2.1) (fun i x σ H2 H3 hi q y => ?_) (fun σ H2 q => ?_)
  · obtain ⟨rfl, hx⟩ := y
    obtain ⟨s3, hp3, ⟨o3, o4, o5, o6, o7, o8, o9, rfl⟩, hws3, kvs, hk3, ⟨rfl, rfl⟩ | ⟨rfl, _⟩⟩ := q
    · rcases hws3 with ⟨rfl, _⟩ | ⟨t, hwd, rfl, ht⟩
      · exact absurd hi (Nat.not_lt_zero _)
      cases hx
      refine ⟨_, rfl, t, [2], rfl, SqT.of ht, _, _, rfl, rfl, _, rfl, iteT ?_⟩
      refine ⟨_, rfl, t, iV [2], rfl, SqT.of ht, fun D hD => ?_⟩
      have nDw : D ≠ w0 := fun z => by rw [z, hk3] at hD; cases hD
      refine lc_it (walk_enumT (K := K) (a := t) (xs := iV [2])) (fun j H' => Same H3 H' ∧ ((j = 0 ∧ H' D = some (.lst [])) ∨ (j = 1 ∧ H' D = some (.lst [.int 0])))) ⟨Same.new hD, .inl ⟨rfl, upd_same⟩⟩ (fun j H' _ p => SqT.of (p.1 _ _ ht)) (fun j x H4 H5 hj p y => ?_) fun H4 p => ?_
      · obtain ⟨T, x0, y0, rfl, hT, rfl, e1, e2⟩ := y
        obtain ⟨s4, ⟨rfl, h4⟩ | ⟨rfl, _⟩⟩ := p
        · cases e1
          cases e2
          have sT := Same.new (o := .tup [V.int ((0 : Nat) : Int), V.int 2]) hT
          refine ⟨T, _, rfl, SqT.of upd_same, rfl, _, _, rfl, _, _, rfl, rfl, rfl, _, rfl, _, _, rfl, rfl, _, rfl, iteT (B := True) ⟨_, rfl, [], sT _ _ h4, by decide, Same.back' (s4.trans sT) hD, .inr ⟨rfl, upd_same⟩⟩⟩
        · exact absurd hj (Nat.lt_irrefl 1)
      obtain ⟨s4, ⟨z, _⟩ | ⟨_, h4⟩⟩ := p
      · cases z
      refine ⟨D, _, rfl, .inl ⟨SqL.of h4, fun l hl => ?_⟩⟩
      have s5 := s4.trans (Same.new (o := .tup [V.int 0]) hl)
      have hl5 : upd H4 l (.tup [V.int 0]) l = some (.tup [V.int 0]) := upd_same
      have hw5 := s5 _ _ hk3
      have hp5 := s5 _ _ hp3
      have ht5 := s5 _ _ ht
      have s35 := s3.trans s5
      refine ⟨_, rfl, _, rfl, _, rfl, w0, _, rfl, DPut.t (k := [.inl 0]) hw5 hl5 (by decide), ?_⟩
      refine ⟨Same.back' s35 hw0, by rw [upd_ne (fun z => by rw [z, hw5] at hp5; cases hp5)]; exact hp5, ⟨_, _, _, _, _, _, _, rfl⟩, .inr ⟨t, hwd, rfl, by rw [upd_ne (fun z => by rw [z, hw5] at ht5; cases ht5)]; exact ht5⟩, _, upd_same, .inr ⟨rfl, t, rfl, rfl⟩⟩
    · exact absurd hi (by omega)
  · obtain ⟨s3, hp3, ⟨o3, o4, o5, o6, o7, o8, o9, rfl⟩, hws3, kvs, hk3, hkc⟩ := q
    have hkk : kvs = [] ∨ ∃ t, kvs = [([.inl 0], .ref t)] := by
      rcases hkc with ⟨_, z⟩ | ⟨_, t, _, z⟩
      · exact .inl z
      · exact .inr ⟨t, z⟩
    have lk : kvs.length ≤ 1 := by
      rcases hkk with rfl | ⟨t, rfl⟩
      · exact Nat.zero_le _
      · exact Nat.le_refl _
    have key : ∀ {j : Nat} {k : List Key} {v : V}, kvs[j]? = some (k, v) → j = 0 ∧ k = [.inl 0] ∧ ∃ t, v = .ref t ∧ kvs = [([.inl 0], .ref t)] := fun {j k v} e => by
      rcases hkk with rfl | ⟨t, rfl⟩
      · cases e
      · match j, e with
        | 0, e => cases e; exact ⟨rfl, rfl, t, rfl, rfl⟩
    refine ⟨w0, _, hk3, trivial, fun od => ⟨_, rfl, w0, od, rfl, .inr ⟨kvs, upd_same, fun D hD => ?_⟩⟩⟩
    have nD : D ≠ w0 := fun z => by rw [z, upd_same] at hD; cases hD
    have hD2 : H2 D = none := by rw [upd_ne nD] at hD; exact hD
    refine lc_it (walk_keysT (d := w0) (o := od) (kvs := kvs)) (fun j H' => Same (upd H2 w0 (.frz od (.dT kvs))) H' ∧ ∃ acc, H' D = some (.lst acc) ∧ acc.length = j ∧ (acc = [] ∨ ∃ q, acc = [.ref q] ∧ H' q = some (.tup [.int 0]))) ⟨Same.new hD, [], upd_same, rfl, .inl rfl⟩ (fun j H' _ p => p.1 _ _ upd_same) (fun j x H4 H5 hj p y => ?_) fun H4 p => ?_
    · obtain ⟨rfl, k4, v4, q4, e4, rfl, hq4⟩ := y
      obtain ⟨s4, acc, ha4, la, _⟩ := p
      obtain ⟨rfl, rfl, t, rfl, ek⟩ := key e4
      obtain rfl := List.eq_nil_of_length_eq_zero la
      refine ⟨rfl, _, rfl, w0, od, rfl, .inr ⟨kvs, s4 _ _ upd_same, fun B hB => ?_⟩⟩
      refine lc_it (walk_keysT (d := w0) (o := od) (kvs := kvs)) (fun m H' => Same H5 H' ∧ ∃ bs : List Bool, H' B = some (.lst (bs.map V.bl)) ∧ bs.length = m ∧ bs.any id = false) ⟨Same.new hB, [], upd_same, rfl, rfl⟩ (fun m H' _ p => p.1 _ _ (s4 _ _ upd_same)) (fun m x H6 H7 hm p y => ?_) fun H6 p => ?_
      · obtain ⟨rfl, k6, v6, q6, e6, rfl, hq6⟩ := y
        obtain ⟨s6, bs, hb, lb, ab⟩ := p
        obtain ⟨rfl, rfl, t', rfl, _⟩ := key e6
        refine ⟨rfl, iteT (B := True) ⟨_, rfl, _, rfl, q6, q4, _, _, rfl, SqT.of hq6, SqT.of (s6 _ _ hq4), Nat.le_refl _, bs.map V.bl, hb, by rw [List.length_map, lb]; decide, Same.back' s6 hB, bs ++ [false], ?_, by rw [List.length_append, lb]; rfl, by rw [List.any_append, ab]; rfl⟩⟩
        rw [upd_same, List.map_append]
        rfl
      · obtain ⟨s6, bs, hb, lb, ab⟩ := p
        refine ⟨B, bs, rfl, SqL.of hb, _, rfl, ?_⟩
        rw [ab]
        refine iteT ⟨_, rfl, [], s6 _ _ ha4, by decide, Same.back' (s4.trans s6) hD, _, upd_same, rfl, .inr ⟨q4, rfl, ?_⟩⟩
        rw [upd_ne (fun z => by rw [z, ha4] at hq4; cases hq4)]
        exact s6 _ _ hq4
    · obtain ⟨s4, acc, ha4, la, hac⟩ := p
      have su := unlock hk3 s4
      refine ⟨s4 _ _ upd_same, ?_⟩
      have hk5 : upd H4 w0 (.dT kvs) w0 = some (.dT kvs) := upd_same
      have ha5 : upd H4 w0 (.dT kvs) D = some (.lst acc) := by rw [upd_ne nD]; exact ha4
      have hac5 : acc = [] ∨ ∃ q, acc = [.ref q] ∧ upd H4 w0 (.dT kvs) q = some (.tup [.int 0]) := by
        have hf : H4 w0 = some (.frz od (.dT kvs)) := s4 _ _ upd_same
        rcases hac with z | ⟨q, z, hq⟩
        · exact .inl z
        · exact .inr ⟨q, z, by rw [upd_ne (fun z => by rw [z, hf] at hq; cases hq)]; exact hq⟩
      have s35 := s3.trans su
      generalize upd H4 w0 (.dT kvs) = H5 at *
      refine ⟨_, rfl, D, rfl, ⟨_, SqL.of ha5⟩, fun G hG => ?_⟩
      refine lc_it (walk_list (K := K) (a := D) (xs := acc)) (fun j H' => Same H5 H' ∧ ∃ rs, H' G = some (.lst rs) ∧ rs.length = j ∧ (rs = [] ∨ ∃ t, kvs = [([.inl 0], .ref t)] ∧ rs = [.ref t])) ⟨Same.new hG, [], upd_same, rfl, .inl rfl⟩ (fun j H' _ p => SqL.of (p.1 _ _ ha5)) (fun j x H6 H7 hj p y => ?_) fun H6 p => ?_
      · obtain ⟨rfl, hx⟩ := y
        obtain ⟨s6, rs, hrs, lr, _⟩ := p
        rcases hac5 with rfl | ⟨q, rfl, hq⟩
        · exact absurd hj (Nat.not_lt_zero _)
        obtain rfl : j = 0 := by
          have : j < 1 := hj
          omega
        cases hx
        obtain rfl := List.eq_nil_of_length_eq_zero lr
        rcases hkk with rfl | ⟨t, rfl⟩
        · cases la
        refine ⟨rfl, iteT (B := True) ⟨_, rfl, _, rfl, w0, .ref t, rfl, DGet.t (k := [.inl 0]) (s6 _ _ hk5) (s6 _ _ hq), [], hrs, by decide, Same.back' s6 hG, _, upd_same, rfl, .inr ⟨t, rfl, rfl⟩⟩⟩
      · obtain ⟨s6, rs, hrs, lr, hrs2⟩ := p
        refine k _ G rs (s35.trans s6) (none_of s35 hG) hrs ?_
        rcases hkc with ⟨lz, kz⟩ | ⟨lz, t, hwt, kz⟩
        · rw [kz] at la
          have lr := lr.trans la
          refine .inl ⟨List.eq_nil_of_length_eq_zero lr, ?_⟩
          rcases hws3 with ⟨_, z⟩ | ⟨t, z, e2, _⟩
          · exact z
          · rw [e2] at lz
            cases lz
        · rcases hws3 with ⟨z, _⟩ | ⟨t', hwd, e2, ht'⟩
          · rw [z] at hwt; cases hwt
          · rw [hwt] at e2
            cases e2
            rcases hrs2 with z | ⟨t2, ek, er⟩
            · rw [kz] at la
              have lr := lr.trans la
              rw [z] at lr
              cases lr
            · rw [kz] at ek
              cases ek
              exact .inr ⟨t, hwd, er, (su.trans s6) _ _ ht'⟩
end
end K9
namespace K9
open PySem PySem.Spec PyProof.Rows L2 RZ Dic ZpG
/-! ### steps that end, found -/
def spSteps (K : PySem.W.Frag) : Sp := fun vs H Q _ => ∃ (e o : Addr) (EV OD : List Int), vs = [.ref e, .ref o] ∧ SqT K H e (iV EV) ∧ SqT K H o (iV OD) ∧ (EV = [2] ∧ OD = [3] ∨ EV = [] ∧ OD = List.replicate 10 39) ∧ ∀ (H' : Hp) (p : Addr), Same H H' → H' p ≠ none → Q (.ref p) H'
abbrev nES : List Str := ["evens", "odds", "words", "number", "steps", "row", "step", "word", "odd"]
theorem scES : FnScope nES ["evens", "odds"] (defScope sEndingSteps) := ⟨rfl, rfl, rfl, by decide +kernel, rfl, by decide +kernel, by decide +kernel⟩
/-- a row of needed words -/
def RowOk (EV : List Int) (H : Hp) (x : V) : Prop := ∃ (r : Addr) (ts : List V), x = .ref r ∧ H r = some (.lst ts) ∧ (EV = [] ∧ ts = [] ∨ EV = [2] ∧ ∃ t, ts = [.ref t] ∧ H t = some (.tup (iV [2])))
theorem RowOk.mono {EV : List Int} {H H' : Hp} {x : V} (h : RowOk EV H x) (s : Same H H') : RowOk EV H' x := by
  obtain ⟨r, ts, e, h1, h2⟩ := h
  refine ⟨r, ts, e, s _ _ h1, ?_⟩
  rcases h2 with z | ⟨z, t, e2, ht⟩
  · exact .inl z
  · exact .inr ⟨z, t, e2, s _ _ ht⟩
theorem RowOk.put {EV : List Int} {H : Hp} {x : V} {D : Addr} {acc : List V} {o : HO} (h : RowOk EV H x) (n : x ≠ .ref D) (hD : H D = some (.lst acc)) : RowOk EV (upd H D o) x := by
  obtain ⟨r, ts, e, h1, h2⟩ := h
  refine ⟨r, ts, e, by rw [upd_ne (fun z => n (by rw [e, z]))]; exact h1, ?_⟩
  rcases h2 with z | ⟨z, t, e2, ht⟩
  · exact .inl z
  · exact .inr ⟨z, t, e2, by rw [upd_ne (fun z => by rw [z, hD] at ht; cases ht)]; exact ht⟩
/-- a step -/
def StepOk (EV : List Int) (H : Hp) (x : V) : Prop := ∃ (a : Addr) (kvs : List (List Key × V)), x = .ref a ∧ H a = some (.dT kvs) ∧ (EV = [] ∧ kvs = [] ∨ EV = [2] ∧ kvs = [([.inl 2], .int 22)])
theorem StepOk.mono {EV : List Int} {H H' : Hp} {x : V} (h : StepOk EV H x) (s : Same H H') : StepOk EV H' x := let ⟨a, kvs, e, h1, h2⟩ := h; ⟨a, kvs, e, s _ _ h1, h2⟩
theorem StepOk.put {EV : List Int} {H : Hp} {x : V} {D : Addr} {acc : List V} {o : HO} (h : StepOk EV H x) (hD : H D = some (.lst acc)) : StepOk EV (upd H D o) x := by
  obtain ⟨a, kvs, e, h1, h2⟩ := h
  exact ⟨a, kvs, e, by rw [upd_ne (fun z => by rw [z, hD] at h1; cases h1)]; exact h1, h2⟩
section
variable {P : Program} {w : World} {K : PySem.W.Frag} {mg : Str → Option Value} {base : Heap} {fN fS : Addr} {dN dS : FuncData}
theorem ok_steps {f : Addr} {fd : FuncData} (F : Fun K "_ending_steps" "_ending_steps" sEndingSteps f fd) (T : Txt K mg) (gN : mg "_needed_words" = some (.ref fN)) (kN : PySem.W.keepIn K (.ref fN) = true) (bN : Binds K dN ["evens", "degree"] [])
    (FN : FnOk P w K mg base CX0 4 fN dN ["evens", "degree"] (spNeeded K)) (gS : mg "_do_steps_end" = some (.ref fS)) (kS : PySem.W.keepIn K (.ref fS) = true) (bS : Binds K dS ["evens", "odds", "steps"] [])
    (FS : FnOk P w K mg base CX0 6 fS dS ["evens", "odds", "steps"] (spEnds K)) : FnOk P w K mg base CX0 7 f fd ["evens", "odds"] (spSteps K) := by
  refine F.ok scES (fun vs H Q E h => ?_) (fun cdv A outer s H vs Q E hr h => ?_)
  · obtain ⟨e, o, EV, OD, rfl, _⟩ := h; rfl
  obtain ⟨e, o, EV, OD, rfl, he, ho, hEO, k⟩ := h
  have hr4 : Room 4 _ := hr.mono (by decide)
  obtain ⟨t1, m1⟩ := T.cFACTOR
  obtain ⟨t2, m2⟩ := T.cPRIMEdegrees
  obtain ⟨t3, m3⟩ := T.cMOSTNUMBER
  refine ⟨_, pss_cons (ps_setLc (i := 2) (own := [("odd", 8)]) (g := gName 8) rfl scES.nd rfl rfl (by rfl) (pi_tup (pv 1)) (blkOk_by (N := nES) (sc := defScope sEndingSteps) (by decide +kernel)) (fun _ _ _ _ _ => pg_name (i := 8) scES.nd rfl (.inl rfl)) (fun _ _ _ _ _ => pts_nil)
      (fun _ _ _ _ _ => pe_call FN hr4 (by rfl) gN kN bN .nil pass0 (by exact (pa_cons (pv 0) (pa_cons (pe_op op_add (pv 8) pe_int) pa_nil)))))
    (pss_cons (ps_set (i := 3) scES.nd rfl (.inl rfl) pe_int)
    (pss_one (ps_while PassesOwn.never (pt_val pe_bl)
      (pss_cons (ps_set (i := 4) scES.nd rfl (.inl rfl) (pe_lst pa_nil))
      (pss_cons (ps_for PassesOwn.never rfl (pi_list (pv 2)) (pg_name (i := 5) scES.nd rfl (.inl rfl))
        (pss_cons (ps_set (i := 6) scES.nd rfl (.inl rfl) pe_dnewT)
        (pss_cons (ps_for PassesOwn.never rfl (pi_list (pv 5)) (pg_name (i := 7) scES.nd rfl (.inl rfl))
          (pss_cons (ps_set (i := 3) scES.nd rfl (.inl rfl) (pe_op op_mod (pe_op op_mul (pv 3) (pe_glob (v := .int 48271) (by rfl) m1 ⟨_, rfl⟩)) (pe_glob (v := .int 2147483647) (by rfl) m2 ⟨_, rfl⟩)))
          (pss_one (ps_dput (hu_of hr) (pv 6) (pv 7) (pe_op op_add pe_int (pe_op op_mod (pv 3) (pe_glob (v := .int 50) (by rfl) m3 ⟨_, rfl⟩))) rfl))))
        (pss_one (ps_expr (pe_bm PySem.F.plainAttrs_list PySem.F.slot_list_append PySem.F.type_list_append mt_append (pv 4) (pa_cons (pv 6) pa_nil)))))))
      (pss_one (ps_if (pt_val (pe_call FS hr (by rfl) gS kS bS .nil pass0 (pa_cons (pv 0) (pa_cons (pv 1) (pa_cons (pv 4) pa_nil))))) (pss_one (ps_ret (pe_callTy call_tuple_of (by rfl) T.tuple bootTuple (pa_cons (pv 4) pa_nil)))) pss_nil))))))), ?_⟩
  have hlen : OD.length ≤ 10 := by
    rcases hEO with ⟨_, rfl⟩ | ⟨_, rfl⟩
    · decide
    · decide
  have hdd : ∀ d ∈ OD, EV = [2] ∧ d = 3 ∨ EV = [] ∧ d = 39 := fun d hd => by
    rcases hEO with ⟨e1, rfl⟩ | ⟨e1, rfl⟩
    · exact .inl ⟨e1, by simpa using hd⟩
    · exact .inr ⟨e1, List.eq_of_mem_replicate hd⟩
  refine ⟨_, rfl, o, rfl, ⟨_, ho⟩, fun D hD => ?_⟩
  refine lc_it (walk_tup (K := K) (a := o) (xs := iV OD)) (fun j H' => Same H H' ∧ ∃ ws, H' D = some (.lst ws) ∧ ws.length = j ∧ ∀ x ∈ ws, RowOk EV H' x ∧ x ≠ .ref D) ⟨Same.new hD, [], upd_same, rfl, fun x hx => nomatch hx⟩ (fun j H' _ p => tupSame p.1 ho) (fun j x H1 H2 hj p y => ?_) fun H1 p => ?_
  · obtain ⟨rfl, hx⟩ := y
    obtain ⟨s1, ws, hws, lw, hall⟩ := p
    have hx : (OD.map V.int)[j]? = some x := hx
    rw [List.getElem?_map] at hx
    obtain ⟨d, hd, rfl⟩ := Option.map_eq_some_iff.mp hx
    have hj : j < OD.length := by rw [← List.length_map (f := V.int)]; exact hj
    have done : ∀ (H3 : Hp) (p : Addr) (ts : List V), Same H2 H3 → H2 p = none → H3 p = some (.lst ts) → (EV = [] ∧ ts = [] ∨ EV = [2] ∧ ∃ t, ts = [.ref t] ∧ H3 t = some (.tup (iV [2]))) →
        ∃ acc, H3 D = some (.lst acc) ∧ acc.length < sizeLine ∧ Same H (upd H3 D (.lst (acc ++ [.ref p]))) ∧ ∃ ws, upd H3 D (.lst (acc ++ [.ref p])) D = some (.lst ws) ∧ ws.length = j + 1 ∧ ∀ x ∈ ws, RowOk EV (upd H3 D (.lst (acc ++ [.ref p]))) x ∧ x ≠ .ref D := fun H3 p ts s3 hp0 hp ht => by
      have hw3 := s3 _ _ hws
      have npD : p ≠ D := fun z => by rw [z, hws] at hp0; cases hp0
      have npD' : V.ref p ≠ .ref D := fun z => npD (by cases z; rfl)
      refine ⟨ws, hw3, Nat.lt_of_le_of_lt (by omega : ws.length ≤ 10) (by decide), Same.back' (s1.trans s3) hD, _, upd_same, by rw [List.length_append, lw]; rfl, fun x hx => ?_⟩
      rcases List.mem_append.mp hx with z | z
      · exact ⟨((hall x z).1.mono s3).put (hall x z).2 hw3, (hall x z).2⟩
      · obtain rfl : x = .ref p := by simpa using z
        exact ⟨RowOk.put ⟨p, ts, rfl, hp, ht⟩ npD' hw3, npD'⟩
    rcases hdd d (List.mem_of_getElem? hd) with ⟨eE, rfl⟩ | ⟨eE, rfl⟩
    · refine ⟨rfl, iteT (B := True) ⟨_, rfl, _, rfl, _, _, rfl, rfl, e, 4, rfl, .inr ⟨by rw [← eE]; exact tupSame s1 he, rfl, fun H3 p t s3 hp0 hp ht => done H3 p _ s3 hp0 hp (.inr ⟨eE, t, rfl, ht⟩)⟩⟩⟩
    · refine ⟨rfl, iteT (B := True) ⟨_, rfl, _, rfl, _, _, rfl, rfl, e, 40, rfl, .inl ⟨by rw [← eE]; exact tupSame s1 he, rfl, fun H3 p s3 hp0 hp => done H3 p _ s3 hp0 hp (.inl ⟨eE, rfl⟩)⟩⟩⟩
  · obtain ⟨s1, ws, hws, lw, hall⟩ := p
    have lw : ws.length = OD.length := by rw [lw]; exact List.length_map ..
    refine ⟨fun _ σ H' => σ = L2.start nES [.ref e, .ref o, .ref D, .int 1] ∧ H' = H1, ⟨0, rfl, rfl⟩, ?_⟩
    rintro m σ H' ⟨rfl, rfl⟩
    refine ⟨true, rfl, iteT ⟨fun _ _ => False, fun _ _ z => z.elim, (by show 0 ≤ sizeLine; decide), fun st hst => ?_⟩⟩
    have s2 := Same.new (o := .lst []) hst
    have s12 := s1.trans s2
    have nst : H st = none := none_of s1 hst
    refine ⟨_, rfl, D, rfl, ⟨_, SqL.of (s2 _ _ hws)⟩, ?_⟩
    have nDst : D ≠ st := fun z => by rw [z, hst] at hws; cases hws
    refine for_it (walk_list (K := K) (a := D) (xs := ws)) (fun i σ H2 => Same H' H2 ∧ ∃ ss, H2 st = some (.lst ss) ∧ ss.length = i ∧ (∀ x ∈ ss, StepOk EV H2 x) ∧ ∃ n o5 o6 o7 o8, σ = [some (.ref e), some (.ref o), some (.ref D), some (.int n), some (.ref st), o5, o6, o7, o8] ∧ (i = 0 → n = 1))
      ⟨s2, [], upd_same, rfl, (fun x hx => nomatch hx), 1, _, _, _, _, rfl, fun _ => rfl⟩ (fun i σ H2 _ q => SqL.of (q.1 _ _ hws)) (fun i x σ H2 H3 hi q y => ?_) (fun σ H2 q => ?_)
    · obtain ⟨rfl, hx⟩ := y
      obtain ⟨s3, ss, hss, ls, hsa, n, o5, o6, o7, o8, rfl, hn⟩ := q
      obtain ⟨r, ts, rfl, hrr, hts⟩ := (hall x (List.mem_of_getElem? hx)).1.mono s3
      refine fun a ha => ⟨_, rfl, r, rfl, ⟨_, SqL.of (Same.new ha _ _ hrr)⟩, ?_⟩
      have sa := Same.new (o := .dT []) ha
      refine for_it (walk_list (K := K) (a := r) (xs := ts)) (fun m σ H4 => Same H3 H4 ∧ ∃ kvs, H4 a = some (.dT kvs) ∧ (m = 0 ∧ kvs = [] ∧ (∃ o7 o8, σ = [some (.ref e), some (.ref o), some (.ref D), some (.int n), some (.ref st), some (.ref r), some (.ref a), o7, o8]) ∨ m = 1 ∧ EV = [2] ∧ kvs = [([.inl 2], .int 22)] ∧ (∃ n o7 o8, σ = [some (.ref e), some (.ref o), some (.ref D), some (.int n), some (.ref st), some (.ref r), some (.ref a), o7, o8])))
        ⟨sa, [], upd_same, .inl ⟨rfl, rfl, _, _, rfl⟩⟩ (fun i σ H4 _ q => SqL.of (q.1 _ _ hrr)) (fun m x σ H4 H5 hm q y => ?_) (fun σ H4 q => ?_)
      · obtain ⟨rfl, hx2⟩ := y
        obtain ⟨s4, kvs, hk, ⟨rfl, rfl, o7, o8, rfl⟩ | ⟨rfl, _⟩⟩ := q
        · rcases hts with ⟨_, rfl⟩ | ⟨eE, t, rfl, ht⟩
          · exact absurd hm (Nat.not_lt_zero _)
          cases hx2
          have i0 : i = 0 := by
            rcases hEO with ⟨_, eO⟩ | ⟨eE', _⟩
            · rw [eO] at lw
              have h1 : ws.length = 1 := lw
              omega
            · rw [eE] at eE'; cases eE'
          obtain rfl := hn i0
          refine ⟨_, rfl, _, _, rfl, rfl, .inl ⟨by decide, by decide⟩, _, _, rfl, rfl, (by show (0 : Int) < 2147483647; decide), _, rfl, _, _, rfl, rfl, (by show (0 : Int) < 50; decide), _, _, rfl, rfl, _, rfl, _, rfl, a, _, rfl, DPut.t (k := [.inl 2]) hk (s4 _ _ ht) (by decide), ?_⟩
          exact ⟨Same.back s4 ha, _, upd_same, .inr ⟨rfl, eE, rfl, _, _, _, rfl⟩⟩
        · rcases hts with ⟨_, rfl⟩ | ⟨eE, t, rfl, ht⟩
          · exact absurd hm (Nat.not_lt_zero _)
          · exact absurd hm (Nat.lt_irrefl 1)
      · obtain ⟨s4, kvs, hk, hq⟩ := q
        have hss4 := s4 _ _ hss
        obtain ⟨n', o7', o8', rfl⟩ : ∃ n o7 o8, σ = [some (.ref e), some (.ref o), some (.ref D), some (.int n), some (.ref st), some (.ref r), some (.ref a), o7, o8] := by
          rcases hq with ⟨_, _, o7, o8, z⟩ | ⟨_, _, _, z⟩
          · exact ⟨_, _, _, z⟩
          · exact z
        refine ⟨_, rfl, .inl ⟨rfl, _, SqL.of hss4⟩, _, rfl, st, ss, _, rfl, rfl, hss4, Nat.lt_of_le_of_lt (by omega : ss.length ≤ 10) (by decide), Same.back (s3.trans s4) hst, _, upd_same, by rw [List.length_append, ls]; rfl, fun x hx => ?_, n', _, _, _, _, rfl, fun z => absurd z (Nat.succ_ne_zero i)⟩
        rcases List.mem_append.mp hx with z | z
        · exact ((hsa x z).mono s4).put hss4
        · obtain rfl : x = .ref a := by simpa using z
          refine StepOk.put ⟨a, kvs, rfl, hk, ?_⟩ hss4
          rcases hq with ⟨z1, z2, _⟩ | ⟨_, z1, z2, _⟩
          · rcases hts with ⟨z3, _⟩ | ⟨_, t, z3, _⟩
            · exact .inl ⟨z3, z2⟩
            · rw [z3] at z1; cases z1
          · exact .inr ⟨z1, z2⟩
    · obtain ⟨s3, ss, hss, ls, hsa, n, o5, o6, o7, o8, rfl, hn⟩ := q
      have s13 := s1.trans s3
      refine ⟨_, rfl, _, rfl, _, rfl, e, o, st, EV, OD, ss, rfl, tupSame s13 he, tupSame s13 ho, hlen, fun d hd => ?_, hss, ?_, fun H4 s4 => ⟨true, rfl, iteT ⟨_, rfl, st, ss, rfl, .inl ⟨SqL.of (s4 _ _ hss), fun l hl => k _ l ((s13.trans s4).trans (Same.new hl)) (by rw [upd_same]; exact fun z => nomatch z)⟩⟩⟩⟩
      · rcases hdd d hd with ⟨_, rfl⟩ | ⟨_, rfl⟩
        · exact ⟨by decide, by decide⟩
        · exact ⟨by decide, by decide⟩
      · rcases hEO with ⟨eE, eO⟩ | ⟨eE, eO⟩
        · have l1 : ss.length = 1 := by rw [ls, lw, eO]; rfl
          match ss, l1, hsa with
          | [x], _, hsa =>
            obtain ⟨a, kvs, rfl, ha, z | ⟨_, rfl⟩⟩ := hsa x List.mem_cons_self
            · rw [eE] at z; cases z.1
            · exact .one eE eO rfl ha (by decide) (by decide)
        · refine .no eE (ls.trans lw) (by omega) fun x hx => ?_
          obtain ⟨a, kvs, rfl, ha, ⟨_, rfl⟩ | z⟩ := hsa x hx
          · exact ⟨a, rfl, ha⟩
          · rw [eE] at z; cases z.1
end
end K9
namespace K9
open PySem PySem.Spec PyProof.Rows L2 RZ Dic ZpG
/-! ### papers about degrees: right ones, and too many -/
theorem fn_up {P : Program} {w : World} {K : PySem.W.Frag} {mg : Str → Option Value} {base : Heap} {CX : CXT} {k k' : Nat} {f : Addr} {fd : FuncData} {ps : List Str} {sp : Sp} (F : FnOk P w K mg base CX k f fd ps sp) (h : k ≤ k') : FnOk P w K mg base CX k' f fd ps sp :=
  ⟨F.len, fun A outer s H args us vs Q E hr e0 hb r q => F.run A outer s H args us vs Q E (hr.mono h) e0 hb r q⟩
theorem pt_no {X : Cx} {e : Expr} : PT X e (fun _ _ _ => False) := ⟨fun _ _ _ _ _ _ h => h.elim⟩
/-- a value that is no tuple of length 2 -/
inductive NoPair (K : PySem.W.Frag) (H : Hp) : V → Prop
  | non : NoPair K H .non
  | bl (b : Bool) : NoPair K H (.bl b)
  | int (i : Int) : NoPair K H (.int i)
  | str (z : Str) : NoPair K H (.str z)
  | lst {a : Addr} {xs : List V} (h : H a = some (.lst xs)) : NoPair K H (.ref a)
  | dic {a : Addr} {kvs : List (Key × V)} (h : H a = some (.dK kvs)) : NoPair K H (.ref a)
  | tup {a : Addr} {xs : List V} (h : SqT K H a xs) (l : xs.length ≠ 2) : NoPair K H (.ref a)
theorem NoPair.mono {K : PySem.W.Frag} {H H' : Hp} {x : V} (h : NoPair K H x) (s : Same H H') : NoPair K H' x := by
  cases h with
  | non => exact .non
  | bl b => exact .bl b
  | int i => exact .int i
  | str z => exact .str z
  | lst h => exact .lst (s _ _ h)
  | dic h => exact .dic (s _ _ h)
  | tup h n => exact .tup (tupSame s h) n
/-- the degrees whose papers are made -/
def Fine2 (EV OD : List Int) : Prop := EV = [2] ∧ OD = [3] ∨ EV = [] ∧ OD = List.replicate 10 39
theorem Fine2.ev {EV OD : List Int} (h : Fine2 EV OD) : Ev EV := by
  rcases h with ⟨rfl, _⟩ | ⟨rfl, _⟩
  · exact ⟨by decide, by decide, by decide⟩
  · exact ⟨by decide, by decide, by decide⟩
theorem Fine2.od {EV OD : List Int} (h : Fine2 EV OD) : Od OD := by
  rcases h with ⟨_, rfl⟩ | ⟨_, rfl⟩
  · exact ⟨by decide, by decide, by decide⟩
  · exact ⟨by decide, by decide, by decide⟩
theorem Fine2.bar {EV OD : List Int} (h : Fine2 EV OD) : barring EV OD = [] := by
  rcases h with ⟨rfl, rfl⟩ | ⟨rfl, rfl⟩
  · decide +kernel
  · decide +kernel
theorem Fine2.ends {EV OD : List Int} (h : Fine2 EV OD) : lotsEnd EV OD = none := by
  rcases h with ⟨rfl, rfl⟩ | ⟨rfl, rfl⟩
  · decide +kernel
  · decide +kernel
theorem Fine2.bnd {EV OD : List Int} (h : Fine2 EV OD) : 0 ≤ bndI (EV ++ OD) + 1 := by
  rcases h with ⟨rfl, rfl⟩ | ⟨rfl, rfl⟩
  · decide +kernel
  · decide +kernel
/-- degrees that are fine for barring_lots and can_end, and for papers -/
def spFineD (K : PySem.W.Frag) : Sp := fun vs H Q _ => ∃ (a b : Addr) (EV OD : List Int), vs = [.ref a, .ref b] ∧ SqT K H a (iV EV) ∧ SqT K H b (iV OD) ∧ Fine2 EV OD ∧ ∀ v H', Same H H' → Q v H'
def spManyD (K : PySem.W.Frag) (M : Addr) : Sp := fun vs H _ E => ∃ (a b : Addr) (EV OD : List Int) (i : Int), vs = [.ref a, .ref b] ∧ SqT K H a (iV EV) ∧ Ev EV ∧ SqT K H b (iV OD) ∧ Od OD ∧ 0 ≤ bndI (EV ++ OD) + 1 ∧ lotsEnd EV OD = some i ∧ ManyE E M i H
def spManyD3 (K : PySem.W.Frag) (M : Addr) : Sp := fun vs H _ E => ∃ (a b : Addr) (x : V) (EV OD : List Int) (i : Int), vs = [.ref a, .ref b, x] ∧ SqT K H a (iV EV) ∧ Ev EV ∧ SqT K H b (iV OD) ∧ Od OD ∧ 0 ≤ bndI (EV ++ OD) + 1 ∧ lotsEnd EV OD = some i ∧ ManyE E M i H
def spNoPair (K : PySem.W.Frag) : Sp := fun vs H Q _ => ∃ (a b : Addr) (x : V) (EV OD : List Int), vs = [.ref a, .ref b, x] ∧ SqT K H a (iV EV) ∧ SqT K H b (iV OD) ∧ Fine2 EV OD ∧ NoPair K H x ∧ ∀ H', Same H H' → Q (.bl false) H'
section
variable {P : Program} {w : World} {K : PySem.W.Frag} {mg : Str → Option Value} {base : Heap} {C M fC fS : Addr} {dC dS : FuncData}
theorem fine_bar {K : PySem.W.Frag} : ∀ vs H Q E, spFineD K vs H Q E → spBarring K vs H Q E := by
  rintro vs H Q E ⟨a, b, EV, OD, rfl, ha, hb, hf, k⟩
  exact ⟨a, b, EV, OD, rfl, ha, hf.ev, hb, hf.od, fun H' p ys s _ _ => k _ H' s⟩
theorem fine_can {K : PySem.W.Frag} : ∀ vs H Q E, spFineD K vs H Q E → spCanEnd K vs H Q E := by
  rintro vs H Q E ⟨a, b, EV, OD, rfl, ha, hb, hf, k⟩
  exact ⟨a, b, EV, OD, rfl, ha, hf.ev, hb, hf.od, fun H' s => k _ H' s⟩
theorem ok_degpFine {f : Addr} {fd : FuncData} (F : Fun K "degrees_paper" "degrees_paper" sDegreesPaper f fd) (T : Txt K mg) (gC : mg "_checked_lots" = some (.ref fC)) (kC : PySem.W.keepIn K (.ref fC) = true) (bC : Binds K dC ["evens", "odds"] [])
    (FC : FnOk P w K mg base (L2.CX P w) 6 fC dC ["evens", "odds"] (spChkLots K M)) (gS : mg "_ending_steps" = some (.ref fS)) (kS : PySem.W.keepIn K (.ref fS) = true) (bS : Binds K dS ["evens", "odds"] [])
    (FS : FnOk P w K mg base CX0 7 fS dS ["evens", "odds"] (spSteps K)) : FnOk P w K mg base (L2.CX P w) 12 f fd ["evens", "odds"] (spFineD K) := by
  refine F.okX scDegP (fun vs H Q E h => ?_) (fun cdv A outer s H vs Q E hr h => ?_)
  · obtain ⟨a, b, EV, OD, rfl, _⟩ := h; rfl
  obtain ⟨a, b, EV, OD, rfl, ha, hb, hf, k⟩ := h
  refine ⟨_, pss_cons (ps_set (i := 2) scDegP.nd rfl (.inl rfl) (pe_call FC (hr.mono (by decide)) (by rfl) gC kC bC .nil (passes_call (E := E) (takes_of rfl rfl rfl rfl) (fun _ _ _ _ h => h)) (pa_cons (pv 0) (pa_cons (pv 1) pa_nil))))
    (pss_cons (ps_if (pt_cmpR op_gt (pe_callB call_len_seq (by rfl) T.len PySem.boot_len (pa_cons (pv 2) pa_nil)) pe_int (nomark _)) (pss_one ps_never) pss_nil)
    (pss_one (ps_ret (pe_tup (pa_cons pe_str (pa_cons (pe_call FS (hr.mono (by decide)) (by rfl) gS kS bS .nil pass0 (pa_cons (pv 0) (pa_cons (pv 1) pa_nil))) pa_nil)))))), ?_⟩
  refine ⟨_, rfl, _, rfl, a, b, EV, OD, rfl, ha, hf.ev, hb, hf.od, fun _ => hf.bnd, (fun i z => by rw [hf.ends] at z; cases z), fun _ H1 p ys s1 hp tv => ?_⟩
  have ly : ys = [] := by
    have := tv_len tv
    rw [hf.bar] at this
    exact List.eq_nil_of_length_eq_zero this
  subst ly
  refine ⟨_, rfl, p, _, rfl, .inr (SqT.of hp), _, _, rfl, rfl, _, rfl, iteF ?_⟩
  refine ⟨_, rfl, _, rfl, a, b, EV, OD, rfl, tupSame s1 ha, tupSame s1 hb, hf, fun H2 q s2 hq => ⟨(by show 2 ≤ sizeLine; decide), fun t ht => k _ _ (s1.trans (s2.trans (Same.new ht)))⟩⟩
theorem ok_degpMany {f : Addr} {fd : FuncData} (F : Fun K "degrees_paper" "degrees_paper" sDegreesPaper f fd) (gC : mg "_checked_lots" = some (.ref fC)) (kC : PySem.W.keepIn K (.ref fC) = true) (bC : Binds K dC ["evens", "odds"] [])
    (FC : FnOk P w K mg base (L2.CX P w) 6 fC dC ["evens", "odds"] (spChkLots K M)) : FnOk P w K mg base (L2.CX P w) 12 f fd ["evens", "odds"] (spManyD K M) := by
  refine F.okX scDegP (fun vs H Q E h => ?_) (fun cdv A outer s H vs Q E hr h => ?_)
  · obtain ⟨a, b, EV, OD, i, rfl, _⟩ := h; rfl
  obtain ⟨a, b, EV, OD, i, rfl, ha, hE, hb, hO, hn, hl, k⟩ := h
  refine ⟨_, pss_cons (ps_set (i := 2) scDegP.nd rfl (.inl rfl) (pe_call FC (hr.mono (by decide)) (by rfl) gC kC bC .nil (passes_call (E := E) (takes_of rfl rfl rfl rfl) (fun _ _ _ _ h => h)) (pa_cons (pv 0) (pa_cons (pv 1) pa_nil)))) pss_never, ?_⟩
  exact ⟨_, rfl, _, rfl, a, b, EV, OD, rfl, ha, hE, hb, hO, fun _ => hn, (fun j z => by rw [hl] at z; cases z; exact k), (fun z => by rw [hl] at z; cases z)⟩
theorem ok_isdegpMany {f : Addr} {fd : FuncData} (F : Fun K "is_degrees_paper" "is_degrees_paper" sIsDegreesPaper f fd) (gC : mg "_checked_lots" = some (.ref fC)) (kC : PySem.W.keepIn K (.ref fC) = true) (bC : Binds K dC ["evens", "odds"] [])
    (FC : FnOk P w K mg base (L2.CX P w) 6 fC dC ["evens", "odds"] (spChkLots K M)) : FnOk P w K mg base (L2.CX P w) 12 f fd ["evens", "odds", "value"] (spManyD3 K M) := by
  refine F.okX scIsDegP (fun vs H Q E h => ?_) (fun cdv A outer s H vs Q E hr h => ?_)
  · obtain ⟨a, b, x, EV, OD, i, rfl, _⟩ := h; rfl
  obtain ⟨a, b, x, EV, OD, i, rfl, ha, hE, hb, hO, hn, hl, k⟩ := h
  refine ⟨_, pss_cons (ps_set (i := 3) scIsDegP.nd rfl (.inl rfl) (pe_call FC (hr.mono (by decide)) (by rfl) gC kC bC .nil (passes_call (E := E) (takes_of rfl rfl rfl rfl) (fun _ _ _ _ h => h)) (pa_cons (pv 0) (pa_cons (pv 1) pa_nil)))) pss_never, ?_⟩
  exact ⟨_, rfl, _, rfl, a, b, EV, OD, rfl, ha, hE, hb, hO, fun _ => hn, (fun j z => by rw [hl] at z; cases z; exact k), (fun z => by rw [hl] at z; cases z)⟩
theorem ok_isdegpNo {f : Addr} {fd : FuncData} (F : Fun K "is_degrees_paper" "is_degrees_paper" sIsDegreesPaper f fd) (T : Txt K mg) (gC : mg "_checked_lots" = some (.ref fC)) (kC : PySem.W.keepIn K (.ref fC) = true) (bC : Binds K dC ["evens", "odds"] [])
    (FC : FnOk P w K mg base (L2.CX P w) 6 fC dC ["evens", "odds"] (spChkLots K M)) : FnOk P w K mg base (L2.CX P w) 12 f fd ["evens", "odds", "value"] (spNoPair K) := by
  refine F.okX scIsDegP (fun vs H Q E h => ?_) (fun cdv A outer s H vs Q E hr h => ?_)
  · obtain ⟨a, b, x, EV, OD, rfl, _⟩ := h; rfl
  obtain ⟨a, b, x, EV, OD, rfl, ha, hb, hf, hx, k⟩ := h
  refine ⟨_, pss_cons (ps_set (i := 3) scIsDegP.nd rfl (.inl rfl) (pe_call FC (hr.mono (by decide)) (by rfl) gC kC bC .nil (passes_call (E := E) (takes_of rfl rfl rfl rfl) (fun _ _ _ _ h => h)) (pa_cons (pv 0) (pa_cons (pv 1) pa_nil))))
    (pss_cons (ps_if (PW.pt (pw_or (pt_not (pt_val (pe_callB call_isi (by rfl) T.isi bootIsi (pa_cons (pv 2) (pa_cons (pe_bltn (v := .ty "tuple") (by rfl) T.tuple bootTuple rfl) pa_nil)))))
        (pw_or (pt_cmpR op_ne (pe_callB call_len_seq (by rfl) T.len PySem.boot_len (pa_cons (pv 2) pa_nil)) pe_int (nomark _)) (pw_or1 pt_no)))) (pss_one (ps_ret pe_bl)) pss_nil) pss_never), ?_⟩
  refine ⟨_, rfl, _, rfl, a, b, EV, OD, rfl, ha, hf.ev, hb, hf.od, fun _ => hf.bnd, (fun i z => by rw [hf.ends] at z; cases z), fun _ H1 p ys s1 hp tv => ?_⟩
  have k := k H1 s1
  have hx := hx.mono s1
  cases hx with
  | non => exact ⟨_, rfl, _, _, _, _, false, rfl, .ty "tuple", .base .non, kit_ty (by decide +kernel), _, rfl, iteT (iteT k)⟩
  | bl b => exact ⟨_, rfl, _, _, _, _, false, rfl, .ty "tuple", .base (.bl _), kit_ty (by decide +kernel), _, rfl, iteT (iteT k)⟩
  | int i => exact ⟨_, rfl, _, _, _, _, false, rfl, .ty "tuple", .base (.int _), kit_ty (by decide +kernel), _, rfl, iteT (iteT k)⟩
  | str z => exact ⟨_, rfl, _, _, _, _, false, rfl, .ty "tuple", .base (.str _), kit_ty (by decide +kernel), _, rfl, iteT (iteT k)⟩
  | lst h => exact ⟨_, rfl, _, _, _, _, false, rfl, .ty "tuple", .base (.lst h), kit_ty (by decide +kernel), _, rfl, iteT (iteT k)⟩
  | dic h => exact ⟨_, rfl, _, _, _, _, false, rfl, .ty "tuple", .base (.dK h), kit_ty (by decide +kernel), _, rfl, iteT (iteT k)⟩
  | @tup a' xs h l =>
    refine ⟨_, rfl, _, _, _, _, true, rfl, .ty "tuple", tyT h, kit_ty (by decide +kernel), _, rfl, iteF ⟨_, rfl, _, _, rfl, .inr h, rfl, _, rfl, ?_⟩⟩
    rw [dInt, decide_eq_false (by omega)]
    exact iteT (iteT k)
end
end K9
namespace LamY
open PySem PySem.Spec PyProof.Rows L2 LamX
/-! ### objects that are known as they are: lambdas and cells -/
abbrev KnownO (o : Obj) : HO := .frz o (.own 0)
abbrev lamQ (X : Cx) : Str := X.env.qual ++ ("<lambda>" : Str)
abbrev LamO (q : Str) (params : Arguments) (body : Expr) (scope : Scope) (cl : List (Str × Addr)) (pm : Value) (c' : Addr) (ctv : Value) : HO := KnownO (PySem.W.kla_obj "<lambda>" q params body scope cl pm c' ctv)
theorem known_ok {P : Program} {w : World} {H : Hp} {h : Heap} {a : Addr} {o : Obj} (e : h.get? a = some o) : ObjOk P w H h a (KnownO o) := ⟨e, o, e⟩
section
variable {X : Cx} {pins : List (Addr × Obj)} {σ : L2.St} {H : Hp} {s : Shared} {T : List (Addr × Str)} {c P : Addr} {params : Arguments} {body : Expr} {scope : Scope} {pos : Pos} {E Q : Value → Shared → Prop}
theorem tabs_known {H H1 : Hp} {f : Addr} {o : HO} (t : Tabs T H1) (n : H1 f = none) : Tabs T (upd H1 f o) := fun p hp => (t p hp).ext fun b u e => by
  rw [upd_ne (ne_of_none e n)]
  exact e
theorem lam_make3 (I : L2.Inv X pins σ H s) (TB : TabB X.base X.mg c P) (hcode : X.env.code = .ref c) (hm : (P, lamQ X) ∈ T) (hu : ∀ p ∈ T, p.1 = P → p.2 = lamQ X) (hT : Tabs T H) (hdef : defaultsOf params X.env = ([], []))
    (hfree : ∀ y ∈ scope.names, y.2 = NameKind.free → ∃ c, X.env.cells.lookup y.1 = some c)
    (h : ∀ (f c' : Addr) (pm ctv : Value) (H1 : Hp) (s' : Shared), L2.Inv X pins σ (upd H1 f (LamO (lamQ X) params body scope (cloFrom X.env.cells scope.names []) pm c' ctv)) s' → ExtN H H1 → Tabs T H1 → H1 f = none → H1 c' = some (CodeO c' (lamQ X)) → Q (.ref f) s') :
    wpAny (model X.prog X.w) X.A (eval (.Lambda params body scope pos) X.env) Q E s := by
  obtain ⟨ps, hP, ht, ha⟩ := hT _ hm
  have bP := Heap.BuiltinsAt.keeps TB.bm I.bk
  have hP' := I.hok P (.tbl ps) hP
  refine W.kla_eval hdef ?_
  cases hc : codeAmong pos ps.toList with
  | none =>
    refine W.kla_makeFunction (closure_ok hfree) I.ok.glob (Heap.Ns.keeps I.mod.glob I.bk) hcode (W.CodeHd.keeps TB.code I.bk) hP' ht hc TB.gP bP fun c' ctv h' tk hx hge hlt hrec htb => ?_
    obtain ⟨c2, oc, vs, t, e2, hoc, hd, hv⟩ := hrec
    cases e2
    have hsz : s.heap.objs.size ≤ h'.objs.size := Nat.le_trans hge (Nat.le_of_lt hlt)
    have nC : H c' = none := HOk.fresh I.hok hge
    have I1 := inv_table (t' := tk) I hP hx htb hge ⟨oc, vs, t, hoc, hd, hv⟩
    have nP : P ≠ c' := fun z => by rw [z] at hP; rw [hP] at nC; cases nC
    have hE : ExtN H (upd (upd H P (.tbl (ps ++ #[rawInt pos.line, rawInt pos.col, .ref c']))) c' (CodeO c' (lamQ X))) := fun b o e n => by
      rw [upd_ne (ne_of_none e nC), upd_ne fun z => n ps (Option.some.inj (e.symm.trans (by rw [z]; exact hP)))]
      exact e
    have nf : upd (upd H P (.tbl (ps ++ #[rawInt pos.line, rawInt pos.col, .ref c']))) c' (CodeO c' (lamQ X)) h'.objs.size = none := HOk.fresh I1.hok (Nat.le_refl _)
    have got : (h'.push (PySem.W.kla_obj "<lambda>" (lamQ X) params body scope (cloFrom X.env.cells scope.names []) ((X.mg "__name__").getD Value.none) c' ctv)).get? h'.objs.size = some (PySem.W.kla_obj "<lambda>" (lamQ X) params body scope (cloFrom X.env.cells scope.names []) ((X.mg "__name__").getD Value.none) c' ctv) := Heap.get?_push_size _ rfl
    refine h h'.objs.size c' _ ctv _ _ (I1.laid (t' := tk) (o := LamO (lamQ X) params body scope (cloFrom X.env.cells scope.names []) ((X.mg "__name__").getD Value.none) c' ctv) (fun b u q => Heap.get?_push_of_some _ q) (Nat.le_refl _) (known_ok got)) hE (fun p hp => ?_) nf upd_same
    by_cases hb : p.1 = P
    · rw [hu p hp hb, hb]
      refine ⟨ps ++ #[rawInt pos.line, rawInt pos.col, .ref c'], by rw [upd_ne nP]; exact upd_same, ?_, fun p' cv hcv => ?_⟩
      · rw [Array.toList_append]
        exact TriplesOk_snoc _ _ _ _ ht
      · rw [Array.toList_append] at hcv
        rcases among_app ps.toList ht hcv with z | z
        · obtain ⟨c3, e3, h3⟩ := ha p' cv z
          exact ⟨c3, e3, hE _ _ h3 fun ps q => by unfold CodeO at q; cases q⟩
        · exact ⟨c', z, upd_same⟩
    · obtain ⟨ps', a1, a2, a3⟩ := hT p hp
      have n1 : p.1 ≠ c' := fun z => by rw [z, nC] at a1; cases a1
      refine ⟨ps', by rw [upd_ne n1, upd_ne hb]; exact a1, a2, fun p' cv hcv => ?_⟩
      obtain ⟨c3, e3, h3⟩ := a3 p' cv hcv
      exact ⟨c3, e3, hE _ _ h3 fun ps q => by unfold CodeO at q; cases q⟩
  | some cv =>
    obtain ⟨c', rfl, hco⟩ := ha pos cv hc
    refine W.kla_makeFunctionHit (closure_ok hfree) I.ok.glob (Heap.Ns.keeps I.mod.glob I.bk) hcode (W.CodeHd.keeps TB.code I.bk) hP' ht hc bP fun ctv h' tk hx hsz => ?_
    have got : (h'.push (PySem.W.kla_obj "<lambda>" (lamQ X) params body scope (cloFrom X.env.cells scope.names []) ((X.mg "__name__").getD Value.none) c' ctv)).get? h'.objs.size = some (PySem.W.kla_obj "<lambda>" (lamQ X) params body scope (cloFrom X.env.cells scope.names []) ((X.mg "__name__").getD Value.none) c' ctv) := Heap.get?_push_size _ rfl
    exact h h'.objs.size c' _ ctv H _ (I.laid (t' := tk) (o := LamO (lamQ X) params body scope (cloFrom X.env.cells scope.names []) ((X.mg "__name__").getD Value.none) c' ctv) (fun b u q => Heap.get?_push_of_some _ (hx b u q)) hsz (known_ok got)) (ExtN.refl H) hT (HOk.fresh I.hok hsz) hco
end
end LamY
namespace LamY
open PySem PySem.Spec PyProof.Rows L2 LamX
/-! ### cells that are known for the time of a call -/
/-- H without what stands at C -/
def minus (C : List Addr) (H : Hp) : Hp := fun b => if b ∈ C then none else H b
/-- H with what HZ tells of C -/
def plus (C : List Addr) (HZ H : Hp) : Hp := fun b => if b ∈ C then HZ b else H b
theorem minus_in {C : List Addr} {H : Hp} {b : Addr} (h : b ∈ C) : minus C H b = none := if_pos h
theorem minus_out {C : List Addr} {H : Hp} {b : Addr} (h : b ∉ C) : minus C H b = H b := if_neg h
theorem plus_in {C : List Addr} {HZ H : Hp} {b : Addr} (h : b ∈ C) : plus C HZ H b = HZ b := if_pos h
theorem plus_out {C : List Addr} {HZ H : Hp} {b : Addr} (h : b ∉ C) : plus C HZ H b = H b := if_neg h
/-- all that stands at C is known -/
def AllK (C : List Addr) (H : Hp) : Prop := ∀ b ∈ C, ∃ o, H b = some (KnownO o)
theorem known_ne {o : Obj} {u : HO} (h : ∀ o', u ≠ KnownO o') : some (KnownO o) ≠ some u := fun e => h o (Option.some.inj e).symm
section
variable {P : Program} {w : World} {C fs ex : List Addr} {H HZ H2 Hx : Hp} {h h' : Heap}
theorem hok_minus (ok : HOk P w Hx h) (k : AllK C Hx) : HOk P w (minus C Hx) h := fun a o e => by
  have na : a ∉ C := fun z => by rw [minus_in z] at e; cases e
  rw [minus_out na] at e
  have out : ∀ {b : Addr} {u : HO}, (∀ o', u ≠ KnownO o') → Hx b = some u → minus C Hx b = some u := fun {b u} n q => by
    refine (minus_out fun z => ?_).trans q
    obtain ⟨o', e'⟩ := k b z
    rw [e'] at q
    exact known_ne n q
  exact (ok a o e).stay (fun b u _ q => q) (fun b q => out (fun o' z => nomatch z) q) (fun b xs q => out (fun o' z => nomatch z) q)
/-- what is known at C may be told on top of what tells nothing of C -/
theorem hok_plus (ok : HOk P w H h) (n : ∀ b ∈ C, H b = none) (k : ∀ b ∈ C, ∃ o, HZ b = some (KnownO o) ∧ h.get? b = some o) : HOk P w (plus C HZ H) h := fun a o e => by
  by_cases na : a ∈ C
  · rw [plus_in na] at e
    obtain ⟨o', e1, e2⟩ := k a na
    rw [e1] at e
    cases e
    exact known_ok e2
  · rw [plus_out na] at e
    have out : ∀ {b : Addr} {u : HO}, H b = some u → plus C HZ H b = some u := fun {b u} q => by
      refine (plus_out fun z => ?_).trans q
      rw [n b z] at q
      cases q
    exact (ok a o e).stay (fun b u _ q => q) (fun b q => out q) (fun b xs q => out q)
/-- behind a call, what was told of C for its time is left out again -/
theorem un_minus (un : Un fs ex (plus C HZ H) H2 h h') (n : ∀ b ∈ C, H b = none) (k : ∀ b ∈ C, ∃ o, HZ b = some (KnownO o) ∧ h.get? b = some o) (d : ∀ b ∈ C, b ∉ fs) (ok : HOk P w H2 h') : Un fs ex H (minus C H2) h h' := by
  have at_ : ∀ b ∈ C, ∃ o, H2 b = some (KnownO o) ∧ h.get? b = some o ∧ h'.get? b = some o := fun b hb => by
    obtain ⟨o, e1, e2⟩ := k b hb
    have z := un.frzs b o (.own 0) ((plus_in hb).trans e1)
    exact ⟨o, z, e2, (ok b _ z).1⟩
  have same : ∀ {b : Addr} {u : HO}, H b = some u → b ∉ C := fun {b u} e z => by rw [n b z] at e; cases e
  refine ⟨fun b o e hb nf ne => ?_, fun b o e hb f ne => ?_, fun b o e hb ne => ?_, un.there, fun b xs e => ?_, fun b o u e => ?_, fun b ps e => ?_⟩
  · by_cases c : b ∈ C
    · obtain ⟨o', _, e2, e3⟩ := at_ b c
      rw [e] at e2
      cases e2
      exact e3
    · exact un.keep b o e ((plus_out c).trans hb) nf ne
  · exact un.slot b o e ((plus_out fun c => d b c f).trans hb) f ne
  · by_cases c : b ∈ C
    · exact minus_in c
    · exact (minus_out c).trans (un.free b o e ((plus_out c).trans hb) ne)
  · exact (minus_out (same e)).trans (un.tups b xs ((plus_out (same e)).trans e))
  · exact (minus_out (same e)).trans (un.frzs b o u ((plus_out (same e)).trans e))
  · obtain ⟨more, z⟩ := un.tbls b ps ((plus_out (same e)).trans e)
    exact ⟨more, (minus_out (same e)).trans z⟩
/-- within a call, what is known at C is left out for the time of a lambda's body -/
theorem un_plus (un : Un fs ex (minus C HZ) H2 h h') (k : AllK C HZ) : Un fs ex HZ (plus C HZ H2) h h' := by
  have kn : ∀ {b : Addr} {u : HO}, (∀ o', u ≠ KnownO o') → HZ b = some u → b ∉ C := fun {b u} n q z => by
    obtain ⟨o', e'⟩ := k b z
    rw [e'] at q
    exact known_ne n q
  have nn : ∀ {b : Addr}, HZ b = none → b ∉ C := fun {b} e z => by
    obtain ⟨o', e'⟩ := k b z
    rw [e'] at e
    cases e
  refine ⟨fun b o e hb nf ne => un.keep b o e ((minus_out (nn hb)).trans hb) nf ne, fun b o e hb f ne => un.slot b o e ((minus_out (nn hb)).trans hb) f ne,
    fun b o e hb ne => (plus_out (nn hb)).trans (un.free b o e ((minus_out (nn hb)).trans hb) ne), un.there, fun b xs e => ?_, fun b o u e => ?_, fun b ps e => ?_⟩
  · have c := kn (u := .tup xs) (fun o' z => nomatch z) e
    exact (plus_out c).trans (un.tups b xs ((minus_out c).trans e))
  · by_cases c : b ∈ C
    · exact (plus_in c).trans e
    · exact (plus_out c).trans (un.frzs b o u ((minus_out c).trans e))
  · have c := kn (u := .tbl ps) (fun o' z => nomatch z) e
    obtain ⟨more, z⟩ := un.tbls b ps ((minus_out c).trans e)
    exact ⟨more, (plus_out c).trans z⟩
end
section
variable {P : Program} {w : World} {outer : List Env} {C : List Addr} {H HZ : Hp} {s s' : Shared} {Q : VK} {E : XK} {u e : Value}
theorem ce_minus (h : CE outer P w (plus C HZ H) s (fun v H2 => Q v (minus C H2)) u s') (n : ∀ b ∈ C, H b = none) (k : ∀ b ∈ C, ∃ o, HZ b = some (KnownO o) ∧ s.heap.get? b = some o) (d : ∀ b ∈ C, b ∉ frs outer) : CE outer P w H s Q u s' := by
  obtain ⟨v, H', os, bare, un, ok, rv, q⟩ := h
  refine ⟨v, minus C H', os, bare, un_minus un n k d ok, hok_minus ok fun b hb => ?_, rv, q⟩
  obtain ⟨o, e1, _⟩ := k b hb
  exact ⟨o, un.frzs b o (.own 0) ((plus_in hb).trans e1)⟩
theorem ce_plus (h : CE outer P w (minus C HZ) s (fun v H2 => Q v (plus C HZ H2)) u s') (ok0 : HOk P w HZ s.heap) (k : AllK C HZ) (d : ∀ b ∈ C, b ∉ frs outer) : CE outer P w HZ s Q u s' := by
  obtain ⟨v, H', os, bare, un, ok, rv, q⟩ := h
  refine ⟨v, plus C HZ H', os, bare, un_plus un k, hok_plus ok (fun b hb => ?_) (fun b hb => ?_), rv, q⟩
  · obtain ⟨o, e⟩ := k b hb
    exact un.free b o (ok0 b _ e).1 (minus_in hb) (by simp)
  · obtain ⟨o, e⟩ := k b hb
    exact ⟨o, e, un.keep b o (ok0 b _ e).1 (minus_in hb) (d b hb) (by simp)⟩
theorem cx_plus (h : L2.CX P w outer (minus C HZ) s (fun cls d H2 => (∀ b ∈ C, H2 b = none) → E cls d (plus C HZ H2)) e s') (ok0 : HOk P w HZ s.heap) (k : AllK C HZ) (dj : ∀ b ∈ C, b ∉ frs outer) : L2.CX P w outer HZ s E e s' := by
  obtain ⟨a, B, H', cls, d, rfl, fly, ok, ub, na, os, bare, q⟩ := h
  have at_ : ∀ b ∈ C, ∃ o, HZ b = some (KnownO o) ∧ s.heap.get? b = some o ∧ B.get? b = some o := fun b hb => by
    obtain ⟨o, e⟩ := k b hb
    have g := (ok0 b _ e).1
    exact ⟨o, e, g, ub.keep b o g (minus_in hb) (dj b hb)⟩
  have aC : a ∉ C := fun z => by
    obtain ⟨o, _, _, e⟩ := at_ a z
    rw [fly.2.1] at e
    cases e
  have kn : ∀ {b : Addr} {u : HO}, (∀ o', u ≠ KnownO o') → HZ b = some u → b ∉ C := fun {b u} n q z => by
    obtain ⟨o', e'⟩ := k b z
    rw [e'] at q
    exact known_ne n q
  have nn : ∀ {b : Addr}, HZ b = none → b ∉ C := fun {b} e z => by
    obtain ⟨o', e'⟩ := k b z
    rw [e'] at e
    cases e
  refine ⟨a, B, plus C HZ H', cls, d, rfl, fly, hok_plus ok (fun b hb => ?_) (fun b hb => ?_), ⟨fun b o e hb nf => ub.keep b o e ((minus_out (nn hb)).trans hb) nf, ub.slot, fun b o e hb => (plus_out (nn hb)).trans (ub.free b o e ((minus_out (nn hb)).trans hb)), ub.there,
    fun b xs e => ?_, fun b o u e => ?_, fun b ps e => ?_⟩, (plus_out aC).trans na, os, bare, q fun b hb => ?_⟩
  · obtain ⟨o, _, g, _⟩ := at_ b hb
    exact ub.free b o g (minus_in hb)
  · obtain ⟨o, e, _, g⟩ := at_ b hb
    exact ⟨o, e, g⟩
  · have c := kn (u := .tup xs) (fun o' z => nomatch z) e
    exact (plus_out c).trans (ub.tups b xs ((minus_out c).trans e))
  · by_cases c : b ∈ C
    · exact (plus_in c).trans e
    · exact (plus_out c).trans (ub.frzs b o u ((minus_out c).trans e))
  · have c := kn (u := .tbl ps) (fun o' z => nomatch z) e
    obtain ⟨more, z⟩ := ub.tbls b ps ((minus_out c).trans e)
    exact ⟨more, (plus_out c).trans z⟩
  · obtain ⟨o, _, g, _⟩ := at_ b hb
    exact ub.free b o g (minus_in hb)
end
end LamY
namespace LamY
open PySem PySem.Spec PyProof.Rows L2 LamX
/-! ### a lambda's body, begun wherever the lambda is known -/
abbrev cellsOf (X : Cx) : List Addr := X.env.cells.map (·.2)
theorem cell_in {X : Cx} {x : Str} {c : Addr} (h : X.env.cells.lookup x = some c) : c ∈ cellsOf X := List.mem_map.mpr ⟨(x, c), PySem.mem_of_lookup h, rfl⟩
theorem allK_free {C : List Addr} {H : Hp} {outer : List Env} (k : AllK C H) (f : ∀ b ∈ frs outer, H b = none) : ∀ b ∈ C, b ∉ frs outer := fun b hb z => by
  obtain ⟨o, e⟩ := k b hb
  rw [f b z] at e
  cases e
theorem env0_minus {P : Program} {w : World} {K : PySem.W.Frag} {mg : Str → Option Value} {base : Heap} {A : Around} {outer : List Env} {s : Shared} {HZ : Hp} {C : List Addr} (e : Env0 P w K mg base A outer s HZ) (k : AllK C HZ) : Env0 P w K mg base A outer s (minus C HZ) := by
  have m : ∀ {b : Addr}, HZ b = none → minus C HZ b = none := fun {b} z => by
    unfold minus
    split
    · rfl
    · exact z
  exact ⟨e.frames, e.mod, fun b o q => ⟨(e.bs b o q).1, m (e.bs b o q).2⟩, e.bsz, e.funs, fun b hb => m (e.frf b hb), hok_minus e.hok k, e.bare⟩
/-- what is told of a variable's cell -/
def CellV (X : Cx) (σ : L2.St) (H : Hp) : Prop := ∀ (i : Nat) (x : Str) (v : V) (c : Addr), X.N[i]? = some x → σ[i]? = some (some v) → X.env.cells.lookup x = some c → ∃ o u, H c = some (KnownO o) ∧ o.data = .cell (some u) ∧ L2.RelV v u
/-- all cells are known -/
def CellK (X : Cx) (H : Hp) : Prop := ∀ b ∈ cellsOf X, ∃ o v, H b = some (KnownO o) ∧ o.data = .cell v
theorem CellK.all {X : Cx} {H : Hp} (h : CellK X H) : AllK (cellsOf X) H := fun b hb => by
  obtain ⟨o, _, e, _⟩ := h b hb
  exact ⟨o, e⟩
theorem lam_start3 {X : Cx} {σ : L2.St} {HZ : Hp} {s1 : Shared} {A : Around} {outer : List Env} {E : XK} {scope : Scope} {f c' : Addr} {h₁ : Heap} {tk : Nat} (L : LamS X.env.scope scope)
    (inj : ∀ (x y : Str) (c : Addr), X.env.cells.lookup x = some c → X.env.cells.lookup y = some c → x = y) (hfree : ∀ y ∈ scope.names, y.2 = NameKind.free → ∃ c, X.env.cells.lookup y.1 = some c) (len : σ.length = X.N.length)
    (e0 : Env0 X.prog X.w X.K X.mg X.base A outer s1 HZ) (hd : A.handled = none) (ck : CellK X HZ) (cv : CellV X σ HZ) (hns : h₁.Ns s1.heap.objs.size fun y => [].reverse.lookup y) (kp : ∀ (b : Addr) (o : Obj), s1.heap.get? b = some o → h₁.get? b = some o) :
    L2.Inv (lamCx X A outer s1 (minus (cellsOf X) HZ) E scope f c') [] σ (minus (cellsOf X) HZ) { heap := h₁, gens := s1.gens, drawn := s1.drawn, toks := tk, os := s1.os } := by
  have em := env0_minus e0 ck.all
  have cm : ∀ {y : Str} {c : Addr}, (cloFrom X.env.cells scope.names []).lookup y = some c → X.env.cells.lookup y = some c := fun {y c} e => by
    rcases cloFrom_mem (PySem.mem_of_lookup e) with hm | ⟨h1, h2⟩
    · cases hm
    · obtain ⟨c1, hc⟩ := hfree (y, .free) h1 rfl
      have hc : X.env.cells.lookup y = some c1 := hc
      rw [h2, hc]
      rfl
  have look : ∀ {y : Str}, scope.names.lookup y = some NameKind.free → ∃ c, (cloFrom X.env.cells scope.names []).lookup y = some c := fun {y} hl => mem_lookup (cloFrom_has (PySem.mem_of_lookup hl))
  have noA : ∀ b : Addr, b ∉ ([] : List Addr) := fun b z => nomatch z
  have cellAt : ∀ {c : Addr} {o : Obj}, HZ c = some (KnownO o) → h₁.get? c = some o := fun {c o} e => kp c o (e0.hok c _ e).1
  refine { ok := ?_, os := rfl, bare := e0.bare, base := Un.kept kp, loc := ?_, cell := ?_, free := ?_, freeC := ?_, pin := ?_, hok := ?_, len := len }
  · have has' : ∀ y : Str, (lamEnv X scope s1.heap.objs.size f c').kindOf y = some .cell ∨ (lamEnv X scope s1.heap.objs.size f c').kindOf y = some .free → ∃ c, (lamEnv X scope s1.heap.objs.size f c').cells.lookup y = some c := fun y hy => by
      rcases hy with hy | hy
      · exact absurd rfl (L.own (y, .cell) (PySem.mem_of_lookup hy)).2
      · exact look hy
    exact ⟨e0.mod, L.kind, rfl, rfl, Nat.le_refl s1.heap.objs.size, fun y z c e1 e2 => inj y z c (cm e1) (cm e2), has', fun y c z _ => (nomatch (show false = true from z)), fun _ => hd, Around.frames_deeper e0.frames, .inr ⟨rfl, rfl⟩, fun b z => absurd z (noA b), em.bs, e0.bsz, fun b _ _ => noA b, fun b z => absurd z (noA b), e0.funs, em.frf⟩
  · refine ⟨_, hns, fun i x v e1 e2 e3 => ?_⟩
    have k : scope.names.lookup x = some NameKind.free := by
      rcases e3 with k | k | k
      · exact absurd rfl (L.own (x, .local) (PySem.mem_of_lookup k)).1
      · exact absurd rfl (L.own (x, .cell) (PySem.mem_of_lookup k)).2
      · exact k
    obtain ⟨c2, h2⟩ := look k
    obtain ⟨o, u, g1, g2, g3⟩ := cv i x v c2 e1 e2 (cm h2)
    exact ⟨u, g3, .inr ⟨.inr k, c2, h2, o, cellAt g1, g2⟩⟩
  · intro x c e
    obtain ⟨o, v, g1, g2⟩ := ck c (cell_in (cm e))
    exact ⟨v, o, cellAt g1, g2⟩
  · exact HOk.fresh em.hok (Nat.le_refl _)
  · exact fun x c e => minus_in (cell_in (cm e))
  · exact fun p hp => nomatch hp
  · exact fun a o e => (em.hok a o e).stay (fun b u _ q => kp b u q) (fun _ q => q) (fun _ _ q => q)
/-- a lambda at f that may be called: tl tells what its body does -/
def LamIs (P : Program) (w : World) (K : PySem.W.Frag) (mg : Str → Option Value) (base : Heap) (k : Nat) (f : Addr) (tl : XK → Hp → VK → Prop) (H : Hp) : Prop :=
  ∃ (X : Cx) (params : Arguments) (body : Expr) (scope : Scope) (pm : Value) (c' : Addr) (ctv : Value) (σ : L2.St) (t : XK → TE), X.prog = P ∧ X.w = w ∧ X.K = K ∧ X.mg = mg ∧ X.base = base ∧
    H f = some (LamO (lamQ X) params body scope (cloFrom X.env.cells scope.names []) pm c' ctv) ∧ f ∉ cellsOf X ∧ H c' = some (CodeO c' (lamQ X)) ∧ LamS X.env.scope scope ∧
    (∀ (x y : Str) (c : Addr), X.env.cells.lookup x = some c → X.env.cells.lookup y = some c → x = y) ∧ (∀ y ∈ scope.names, y.2 = NameKind.free → ∃ c, X.env.cells.lookup y.1 = some c) ∧ σ.length = X.N.length ∧ CellK X H ∧ CellV X σ H ∧
    (∀ (q : Str) (cl : List (Str × Addr)) (pm cv ctv : Value), bindArgs (PySem.W.kla_fn "<lambda>" q params body scope cl pm cv ctv) {} = pure []) ∧
    (∀ (A : Around) (outer : List Env) (s : Shared) (H : Hp) (E : XK) (f c' : Addr), Room k (A.deeper (lamEnv X scope s.heap.objs.size f c')) → PE (lamCx X A outer s H E scope f c') body (t E)) ∧
    tl = fun E HZ Q => t (fun cls d H2 => (∀ b ∈ cellsOf X, H2 b = none) → E cls d (plus (cellsOf X) HZ H2)) σ (minus (cellsOf X) HZ) (fun v H2 => Q v (plus (cellsOf X) HZ H2))
theorem LamIs.mono {P : Program} {w : World} {K : PySem.W.Frag} {mg : Str → Option Value} {base : Heap} {k : Nat} {f : Addr} {tl : XK → Hp → VK → Prop} {H H' : Hp} (h : LamIs P w K mg base k f tl H) (s : Same H H') : LamIs P w K mg base k f tl H' := by
  obtain ⟨X, params, body, scope, pm, c', ctv, σ, t, h1, h2, h3, h4, h5, hf, hn, hc, L, inj, hfree, len, ck, cv, bd, hb, e⟩ := h
  refine ⟨X, params, body, scope, pm, c', ctv, σ, t, h1, h2, h3, h4, h5, s _ _ hf, hn, s _ _ hc, L, inj, hfree, len, fun b hb => ?_, fun i x v c e1 e2 e3 => ?_, bd, hb, e⟩
  · obtain ⟨o, v, g1, g2⟩ := ck b hb
    exact ⟨o, v, s _ _ g1, g2⟩
  · obtain ⟨o, u, g1, g2⟩ := cv i x v c e1 e2 e3
    exact ⟨o, u, s _ _ g1, g2⟩
theorem lam_runs {P : Program} {w : World} {K : PySem.W.Frag} {mg : Str → Option Value} {base : Heap} {k : Nat} {f : Addr} {tl : XK → Hp → VK → Prop} {HZ : Hp} {s1 : Shared} {A : Around} {outer : List Env} {E : XK} {Q : VK} (h : LamIs P w K mg base k f tl HZ)
    (e0 : Env0 P w K mg base A outer s1 HZ) (hr : Room (k + 1) A) (q : tl E HZ Q) : codeAny (model P w) A (.call (.ref f) ⟨[], []⟩) (CR (L2.CX P w) outer P w HZ s1 Q E) s1 := by
  obtain ⟨X, params, body, scope, pm, c', ctv, σ, t, rfl, rfl, rfl, rfl, rfl, hf, hn, hc, L, inj, hfree, len, ck, cv, bd, hb, rfl⟩ := h
  have of1 := (e0.hok f _ hf).1
  obtain ⟨⟨oc, vs, tt, hoc, hdc, hvc⟩, _⟩ := e0.hok c' _ hc
  have dj := allK_free ck.all e0.frf
  have lim : s1.heap.NoLimit := by
    obtain ⟨_, _, _, mc, h1, h2⟩ := e0.mod
    exact ⟨mc, Heap.Ns.keeps h1 (fun b o q => (e0.bs b o q).1), h2⟩
  refine PySem.W.kla_callFunE hr.depth of1 rfl L.co L.gen rfl ⟨c', oc, vs, tt, rfl, hoc, hdc, hvc⟩ ?_
  rw [bd]
  refine wpAny_pure (wpAny_newFunctionEnv (fun y hy => (L.own y hy).2) (fun y hy => absurd hy (by simp)) (fun h₁ hns hsb => ⟨Heap.NoLimit.fresh lim _ hsb, ?_⟩) L.kind)
  have kp : ∀ (b : Addr) (o : Obj), s1.heap.get? b = some o → h₁.get? b = some o := fun b o e => Heap.SameBut.extBut hsb b o (Nat.ne_of_lt (Heap.lt_size e)) (Heap.get?_push_of_some _ e)
  have J := lam_start3 (tk := s1.toks) (E := fun cls d H2 => (∀ b ∈ cellsOf X, H2 b = none) → E cls d (plus (cellsOf X) HZ H2)) (f := f) (c' := c') L inj hfree len e0 hr.hd ck cv hns kp
  refine PySem.W.kla_codeExpr (wpAny_mono ((hb A outer s1 (minus (cellsOf X) HZ) (fun cls d H2 => (∀ b ∈ cellsOf X, H2 b = none) → E cls d (plus (cellsOf X) HZ H2)) f c' (hr.deeper _)).run [] _ σ _ _ J q) (fun u s2 z => ?_) (fun e s2 z => ?_))
  · obtain ⟨v, H', J', rv, z⟩ := z
    exact ce_plus ⟨v, H', J'.os, J'.bare, J'.base, J'.hok, rv, z⟩ e0.hok ck.all dj
  · exact wpAny_mono z (fun _ s3 y => cx_plus y e0.hok ck.all dj) (fun e' s3 y => cx_plus y e0.hok ck.all dj)
/-- a() where a is a parameter that holds a lambda -/
theorem pe_actS {Z : Cx} {k i : Nat} {E : XK} {a : Str} {p1 p2 : Pos} (hps : Passes (L2.CX Z.prog Z.w) Z E) (hr : Room (k + 1) Z.A) (hN : Z.N[i]? = some a) (hv : Vis Z.env.scope a) (hd1 : (a == ("__debug__" : Str)) = false := by decide) (hd2 : (a == ("__classdict__" : Str)) = false := by decide) :
    PE Z (.Call (.Name a p1) [] [] p2) (fun σ H Q => ∃ f tl, σ[i]? = some (some (.ref f)) ∧ LamIs Z.prog Z.w Z.K Z.mg Z.base k f tl H ∧ tl E H Q) := by
  refine ⟨fun pins s σ H Q I h => ?_⟩
  obtain ⟨f, tl, hi, L, q⟩ := h
  refine wpAny_Call_Name_kw (thn ((pv (X := Z) (pos := p1) i hN hv hd1 hd2).run pins s σ H (fun v H1 => v = .ref f ∧ H1 = H) I ⟨_, hi, rfl, rfl⟩) fun u s1 z => ?_)
  obtain ⟨v, H1, I1, rv, rfl, rfl⟩ := z
  obtain rfl : u = Value.ref f := rv
  have e0 := I1.env0
  obtain ⟨X, params, body, scope, pm, c', ctv, σ', t, h1, h2, h3, h4, h5, hf, rest⟩ := L
  have of1 := (I1.hok f _ hf).1
  refine PySem.W.callWith_F0 ⟨_, _, _, _, of1⟩ ?_
  refine wpAny_call (codeAny_mono (lam_runs ⟨X, params, body, scope, pm, c', ctv, σ', t, h1, h2, h3, h4, h5, hf, rest⟩ e0 hr q) fun r s2 hq => ?_)
  cases r with
  | error e => exact hps pins σ _ s1 e s2 I1 hq
  | ok fl =>
    cases fl with
    | ret u => exact I1.after hq
    | next => exact hq.elim
    | brk => exact hq.elim
    | cont => exact hq.elim
end LamY
namespace LamY
open PySem PySem.Spec PyProof.Rows L2 LamX
/-! ### promises that lean on no repr being under way -/
structure FnG (P : Program) (w : World) (K : PySem.W.Frag) (mg : Str → Option Value) (base : Heap) (CX : CXT) (k : Nat) (f : Addr) (fd : FuncData) (ps : List Str) (sp : Sp) : Prop where
  len : ∀ vs H Q E, sp vs H Q E → vs.length = ps.length
  run : ∀ (A : Around) (outer : List Env) (s : Shared) (H : Hp) (args : Args) (us : List Value) (vs : List V) (Q : VK) (E : XK), A.guards = some [] → Room k A → Env0 P w K mg base A outer s H → BindsTo s fd args (ps.zip us) → Vals vs us → sp vs H Q E →
    codeAny (model P w) A (.call (.ref f) args) (CR CX outer P w H s Q E) s
theorem FnG.of {P : Program} {w : World} {K : PySem.W.Frag} {mg : Str → Option Value} {base : Heap} {CX : CXT} {k : Nat} {f : Addr} {fd : FuncData} {ps : List Str} {sp : Sp} (F : FnOk P w K mg base CX k f fd ps sp) : FnG P w K mg base CX k f fd ps sp :=
  ⟨F.len, fun A outer s H args us vs Q E _ => F.run A outer s H args us vs Q E⟩
theorem okG {P : Program} {w : World} {K : PySem.W.Frag} {mg : Str → Option Value} {base : Heap} {x qual : Str} {st : Stmt} {f : Addr} {fd : FuncData} {N ps : List Str} {k : Nat} {sp : Sp} (F : Fun K x qual st f fd) (sc : FnScope N ps (defScope st))
    (len : ∀ vs H Q E, sp vs H Q E → vs.length = ps.length)
    (hb : ∀ (cdv : Value) (A : Around) (outer : List Env) (s : Shared) (H : Hp) (vs : List V) (Q : VK) (E : XK), A.guards = some [] → Room k (A.deeper (envOfC qual (defScope st) s.heap.objs.size f cdv)) → sp vs H Q E →
      ∃ t, PSs (cxOf CX0 P w K mg base N qual (defScope st) f cdv A outer s H E).nox (defBody st) t ∧ t { nx := fun _ H' => Q .non H', rt := Q } (L2.start N vs) H) : FnG P w K mg base CX0 (k + 1) f fd ps sp := by
  obtain ⟨oc, od, kV, doc, pm, an, cdv, ct, osl, rfl, lk, hcd⟩ := F.ex
  refine ⟨len, fun A outer s H args us vs Q E hgd hr e0 hbd r h => run_ofS lk hcd sc hr e0 hbd r (len _ _ _ _ h) fun hr' => ?_⟩
  obtain ⟨t, h1, h2⟩ := hb cdv A outer s H vs Q E hgd hr' h
  exact ⟨t, h1.nox, h2⟩
/-! ### a lambda as a value -/
section
variable {X : Cx} {T : List (Addr × Str)} {c P : Addr}
/-- the new lambda is at f -/
def tLamV (X : Cx) (T : List (Addr × Str)) (params : Arguments) (body : Expr) (scope : Scope) : TE := fun _ H Q => Tabs T H ∧ ∀ (f c' : Addr) (pm ctv : Value) (H1 : Hp), ExtN H H1 → Tabs T H1 → H1 f = none → H1 c' = some (CodeO c' (lamQ X)) →
  Q (.ref f) (upd H1 f (LamO (lamQ X) params body scope (cloFrom X.env.cells scope.names []) pm c' ctv))
/-- each cell stands under its name -/
def Cells (X : Cx) : Prop := ∀ p ∈ X.env.cells, X.env.cells.lookup p.1 = some p.2
theorem cells_none {pins : List (Addr × Obj)} {σ : L2.St} {H : Hp} {s : Shared} (I : L2.Inv X pins σ H s) (hcl : Cells X) : ∀ b ∈ cellsOf X, H b = none := fun b hb => by
  obtain ⟨p, hp, rfl⟩ := List.mem_map.mp hb
  exact I.freeC p.1 p.2 (hcl p hp)
theorem cells_are {pins : List (Addr × Obj)} {σ : L2.St} {H : Hp} {s : Shared} (I : L2.Inv X pins σ H s) (hcl : Cells X) : ∀ b ∈ cellsOf X, ∃ o v, s.heap.get? b = some o ∧ o.data = .cell v := fun b hb => by
  obtain ⟨p, hp, rfl⟩ := List.mem_map.mp hb
  obtain ⟨v, o, h1, h2⟩ := I.cell p.1 p.2 (hcl p hp)
  exact ⟨o, v, h1, h2⟩
theorem pe_lamval {params : Arguments} {body : Expr} {scope : Scope} {pos : Pos} (TB : TabB X.base X.mg c P) (hcode : X.env.code = .ref c) (hm : (P, lamQ X) ∈ T) (hu : ∀ p ∈ T, p.1 = P → p.2 = lamQ X) (hdef : defaultsOf params X.env = ([], []))
    (hfree : ∀ y ∈ scope.names, y.2 = NameKind.free → ∃ c, X.env.cells.lookup y.1 = some c) : PE X (.Lambda params body scope pos) (tLamV X T params body scope) := by
  refine ⟨fun pins s σ H Q I h => ?_⟩
  obtain ⟨hT, h⟩ := h
  exact lam_make3 I TB hcode hm hu hT hdef hfree fun f c' pm ctv H1 s' I' e t n hc => ⟨.ref f, _, I', rfl, h f c' pm ctv H1 e t n hc⟩
/-! ### a call that hands lambdas on: the cells are known for its time -/
theorem pe_callC {k : Nat} {f : Addr} {fd : FuncData} {ps : List Str} {sp : Sp} {x : Str} {p pos : Pos} {e : Expr} {es : List Expr} {t : TA} (F : FnG X.prog X.w X.K X.mg X.base CX0 k f fd ps sp) (hgd : X.A.guards = some []) (hr : Room k X.A) (hg : Gl X x) (hm : X.mg x = some (.ref f))
    (hk : PySem.W.keepIn X.K (.ref f) = true) (hb : Binds X.K fd ps []) (hcl : Cells X) (hfn : ∀ y, X.fn y = true) (hvis : ∀ y c, X.env.cells.lookup y = some c → X.env.scope.names.lookup y = some NameKind.cell) (ha : PA X (e :: es) t)
    (hdb : (x == ("__debug__" : Str)) = false := by decide) (he : starEach (e :: es) X.env = (false, eval e X.env) :: starEach es X.env := by rfl) (hpl : (backTo pos (starEach es X.env)).any (·.1) = false := by rfl) :
    PE X (.Call (.Name x p) (e :: es) [] pos) (fun σ H Q => t σ H fun vs H1 => (∀ b ∈ cellsOf X, H1 b = none) → ∀ Hx, (∀ b, b ∉ cellsOf X → Hx b = H1 b) → CellK X Hx → CellV X σ Hx → sp vs Hx (fun v H2 => Q v (minus (cellsOf X) H2)) E0) := by
  refine ⟨fun pins s σ H Q I h => ?_⟩
  refine wpAny_Call_Name_kw (ld_glob I hg hm ?_ hdb)
  refine PySem.W.callWith_K (h₀ := X.base) I.ok.mod.kin hk (thn (ha.run pos pins s σ H _ I h) fun us s1 ⟨vs, H1, I1, r, q⟩ => ⟨I1.kIn, ?_⟩) he hpl
  let HZ : Hp := fun b => (s1.heap.get? b).map KnownO
  have n := cells_none I1 hcl
  have cells := cells_are I1 hcl
  have kz : ∀ b ∈ cellsOf X, ∃ o, HZ b = some (KnownO o) ∧ s1.heap.get? b = some o := fun b hb => by
    obtain ⟨o, v, g, _⟩ := cells b hb
    exact ⟨o, by show (s1.heap.get? b).map KnownO = _; rw [g]; rfl, g⟩
  have above : ∀ b ∈ cellsOf X, X.s_0.heap.objs.size ≤ b := fun b hb => by
    obtain ⟨p, hp, rfl⟩ := List.mem_map.mp hb
    exact I1.ok.cab p.1 p.2 (hfn _) (hcl p hp)
  have e0 := I1.env0
  have dj : ∀ b ∈ cellsOf X, b ∉ frs X.stack := fun b hb z => by
    rcases List.mem_cons.mp (I1.stkSub b z) with q | q
    · obtain ⟨o, v, g, d⟩ := cells b hb
      obtain ⟨m, ⟨o', es', ep', g', d', _⟩, _⟩ := I1.loc
      rw [q, g'] at g
      cases g
      rw [d'] at d
      cases d
    · obtain ⟨_, o', g', _⟩ := I1.ok.funs.mem (show b ∈ List.filterMap (fun x => x.frame) X.outer from q)
      exact Nat.lt_irrefl _ (Nat.lt_of_lt_of_le (Heap.lt_size g') (above b hb))
  have okx : HOk X.prog X.w (plus (cellsOf X) HZ H1) s1.heap := hok_plus I1.hok n kz
  have e1 : Env0 X.prog X.w X.K X.mg X.base X.A X.stack s1 (plus (cellsOf X) HZ H1) := by
    refine ⟨e0.frames, e0.mod, fun b o g => ⟨(e0.bs b o g).1, ?_⟩, e0.bsz, e0.funs, fun b hb => ?_, okx, e0.bare⟩
    · refine (plus_out fun hb => ?_).trans (e0.bs b o g).2
      exact Nat.lt_irrefl _ (Nat.lt_of_lt_of_le (Heap.lt_size g) (Nat.le_trans I1.ok.bsz (above b hb)))
    · exact (plus_out fun z => dj b z hb).trans (e0.frf b hb)
  have ck : CellK X (plus (cellsOf X) HZ H1) := fun b hb => by
    obtain ⟨o, v, g, d⟩ := cells b hb
    exact ⟨o, v, (plus_in hb).trans (by show (s1.heap.get? b).map KnownO = _; rw [g]; rfl), d⟩
  have cv : CellV X σ (plus (cellsOf X) HZ H1) := fun i y v c h1 h2 h3 => by
    obtain ⟨m, _, look⟩ := I1.loc
    obtain ⟨u, ru, lk⟩ := look i y v h1 h2 (.inr (.inl (hvis y c h3)))
    rcases lk with ⟨k', _⟩ | ⟨_, c2, e2, o, g, d⟩
    · rw [show X.env.kindOf y = X.env.scope.names.lookup y from rfl, hvis y c h3] at k'
      cases k'
    · rw [h3] at e2
      cases e2
      exact ⟨o, u, (plus_in (cell_in h3)).trans (by show (s1.heap.get? c).map KnownO = _; rw [g]; rfl), d, ru⟩
  have q' := q n _ (fun b hb => plus_out hb) ck cv
  have hl : us.length = ps.length := by rw [← r.length]; exact F.len _ _ _ _ q'
  refine wpAny_call (codeAny_mono (F.run X.A X.stack s1 (plus (cellsOf X) HZ H1) ⟨us, []⟩ us vs _ E0 hgd hr e1 ?_ r q') fun r' s2 hq => ?_)
  · have b := hb s1 us I1.kIn (by rw [List.append_nil]; exact hl)
    rw [List.append_nil] at b
    exact b
  · cases r' with
    | error e => exact hq.elim
    | ok fl =>
      cases fl with
      | ret u => exact I1.after (ce_minus hq n kz dj)
      | next => exact hq.elim
      | brk => exact hq.elim
      | cont => exact hq.elim
end
end LamY
namespace K9
open PySem PySem.Spec PyProof.Rows L2 LamX
theorem sl {n : Nat} (h : n ≤ 1000) : n ≤ sizeLine := Nat.le_of_lt (small1000 h)
/-! ### readings made stronger -/
theorem peImp {X : Cx} {e : Expr} {t t' : TE} (h : PE X e t) (i : ∀ σ H Q, t' σ H Q → t σ H Q) : PE X e t' := ⟨fun pins s σ H Q I q => h.run pins s σ H Q I (i _ _ _ q)⟩
theorem paImp {X : Cx} {es : List Expr} {t t' : TA} (h : PA X es t) (i : ∀ σ H Q, t' σ H Q → t σ H Q) : PA X es t' := ⟨fun pos pins s σ H Q I q => h.run pos pins s σ H Q I (i _ _ _ q)⟩
theorem psImp {X : Cx} {e : Stmt} {t t' : TS} (h : PS X e t) (i : ∀ D σ H, t' D σ H → t D σ H) : PS X e t' := ⟨fun pins s σ H Q I q => h.run pins s σ H Q I (i _ _ _ q)⟩
/-! ### what stays: all but the lists at S; all but these and the tables of code -/
def NoLst (o : HO) : Prop := ∀ xs, o ≠ .lst xs
def NoTbl (o : HO) : Prop := ∀ ps, o ≠ .tbl ps
def Kq (S : List Addr) (H H' : Hp) : Prop := ∀ b o, H b = some o → (b ∉ S ∨ NoLst o) → H' b = some o
def Kp (S : List Addr) (H H' : Hp) : Prop := ∀ b o, H b = some o → (b ∉ S ∨ NoLst o) → NoTbl o → H' b = some o
theorem tup_nl (xs : List V) : NoLst (.tup xs) := fun _ z => nomatch z
theorem tup_nt (xs : List V) : NoTbl (.tup xs) := fun _ z => nomatch z
theorem lst_nt (xs : List V) : NoTbl (.lst xs) := fun _ z => nomatch z
theorem dk_nl (kvs : List (Key × V)) : NoLst (.dK kvs) := fun _ z => nomatch z
theorem dk_nt (kvs : List (Key × V)) : NoTbl (.dK kvs) := fun _ z => nomatch z
theorem Kq.refl (S : List Addr) (H : Hp) : Kq S H H := fun _ _ h _ => h
theorem Kq.trans {S : List Addr} {H H1 H2 : Hp} (a : Kq S H H1) (b : Kq S H1 H2) : Kq S H H2 := fun c o h n => b c o (a c o h n) n
theorem Kp.refl (S : List Addr) (H : Hp) : Kp S H H := fun _ _ h _ _ => h
theorem Kp.trans {S : List Addr} {H H1 H2 : Hp} (a : Kp S H H1) (b : Kp S H1 H2) : Kp S H H2 := fun c o h n t => b c o (a c o h n t) n t
theorem Kq.kp {S : List Addr} {H H1 : Hp} (a : Kq S H H1) : Kp S H H1 := fun c o h n _ => a c o h n
theorem Kp.of {S : List Addr} {H H1 : Hp} (a : ExtN H H1) : Kp S H H1 := fun c o h _ t => a c o h t
theorem Kq.same {S : List Addr} {H H1 : Hp} (a : Same H H1) : Kq S H H1 := fun c o h _ => a c o h
theorem Kq.new {S : List Addr} {H : Hp} {p : Addr} {o : HO} (hp : H p = none) : Kq S H (upd H p o) := fun c u h _ => by
  rw [upd_ne (ne_of_none h hp)]
  exact h
theorem Kq.write {S : List Addr} {H : Hp} {s : Addr} {xs : List V} {o : HO} (hs : s ∈ S) (h : H s = some (.lst xs)) : Kq S H (upd H s o) := fun c u e n => by
  by_cases z : c = s
  · subst z
    rw [h] at e
    cases e
    rcases n with n | n
    · exact absurd hs n
    · exact absurd rfl (n xs)
  · rw [upd_ne z]
    exact e
theorem tab_kq {S : List Addr} {H H' : Hp} {P : Addr} {q : Str} (t : TabS H P q) (k : Kq S H H') : TabS H' P q := by
  obtain ⟨ps, h1, h2, h3⟩ := t
  refine ⟨ps, k _ _ h1 (.inr fun _ z => nomatch z), h2, fun pos cv hc => ?_⟩
  obtain ⟨c, e1, e2⟩ := h3 pos cv hc
  exact ⟨c, e1, k _ _ e2 (.inr fun _ z => by unfold CodeO at z; cases z)⟩
theorem tabs_kq {S : List Addr} {T : List (Addr × Str)} {H H' : Hp} (t : Tabs T H) (k : Kq S H H') : Tabs T H' := fun p hp => tab_kq (t p hp) k
theorem none_back {H H' : Hp} {p : Addr} (s : Same H H') (h : H' p = none) : H p = none := by
  cases e : H p with
  | none => rfl
  | some o =>
    rw [s p o e] at h
    cases h
/-! ### data -/
mutual
/-- x is the data d; its lists stand at addresses of N -/
inductive Da (N : Addr → Prop) (H : Hp) : V → PyData → Prop
  | non : Da N H .non .none
  | bl (b : Bool) : Da N H (.bl b) (.bool b)
  | int (i : Int) : Da N H (.int i) (.int i)
  | str (z : Str) : Da N H (.str z) (.str z)
  | tup {a : Addr} {xs : List V} {ds : List PyData} (e : H a = some (.tup xs)) (h : DaL N H xs ds) : Da N H (.ref a) (.tuple ds)
  | lst {a : Addr} {xs : List V} {ds : List PyData} (e : H a = some (.lst xs)) (n : N a) (h : DaL N H xs ds) : Da N H (.ref a) (.list ds)
  | dic {a : Addr} (e : H a = some (.dK [])) : Da N H (.ref a) (.dict [])
inductive DaL (N : Addr → Prop) (H : Hp) : List V → List PyData → Prop
  | nil : DaL N H [] []
  | cons {v : V} {vs : List V} {d : PyData} {ds : List PyData} (h : Da N H v d) (r : DaL N H vs ds) : DaL N H (v :: vs) (d :: ds)
end
section
variable {N M : Addr → Prop} {H H' : Hp} (f : ∀ a o, H a = some o → N a → M a) (k : ∀ b o, H b = some o → (N b ∨ NoLst o) → NoTbl o → H' b = some o)
include f k
mutual
theorem Da.map : ∀ (d : PyData) (x : V), Da N H x d → Da M H' x d
  | .none, _, h => by cases h; exact .non
  | .bool b, _, h => by cases h; exact .bl b
  | .int i, _, h => by cases h; exact .int i
  | .str z, _, h => by cases h; exact .str z
  | .tuple ds, _, h => by
    cases h with
    | tup e h => exact .tup (k _ _ e (.inr (tup_nl _)) (tup_nt _)) (DaL.map ds _ h)
  | .list ds, _, h => by
    cases h with
    | lst e n h => exact .lst (k _ _ e (.inl n) (lst_nt _)) (f _ _ e n) (DaL.map ds _ h)
  | .dict _, _, h => by
    cases h with
    | dic e => exact .dic (k _ _ e (.inr (dk_nl _)) (dk_nt _))
theorem DaL.map : ∀ (ds : List PyData) (xs : List V), DaL N H xs ds → DaL M H' xs ds
  | [], _, h => by cases h; exact .nil
  | d :: ds, _, h => by
    cases h with
    | cons h r => exact .cons (Da.map d _ h) (DaL.map ds _ r)
end
end
section
variable {S : List Addr} {H H' : Hp}
abbrev Ds (S : List Addr) (H : Hp) (x : V) (d : PyData) : Prop := Da (fun a => a ∉ S) H x d
abbrev DsL (S : List Addr) (H : Hp) (xs : List V) (ds : List PyData) : Prop := DaL (fun a => a ∉ S) H xs ds
abbrev Dn (H0 H : Hp) (x : V) (d : PyData) : Prop := Da (fun a => H0 a = none) H x d
abbrev DnL (H0 H : Hp) (xs : List V) (ds : List PyData) : Prop := DaL (fun a => H0 a = none) H xs ds
theorem Ds.mono {x : V} {d : PyData} (h : Ds S H x d) (k : Kp S H H') : Ds S H' x d := Da.map (fun _ _ _ n => n) k d x h
theorem DsL.mono {x : List V} {d : List PyData} (h : DsL S H x d) (k : Kp S H H') : DsL S H' x d := DaL.map (fun _ _ _ n => n) k d x h
theorem Da.mono {N M : Addr → Prop} {x : V} {d : PyData} (h : Da N H x d) (s : Same H H') (f : ∀ a, N a → M a) : Da M H' x d := Da.map (fun a _ _ n => f a n) (fun b o e _ _ => s b o e) d x h
theorem DaL.mono {N M : Addr → Prop} {x : List V} {d : List PyData} (h : DaL N H x d) (s : Same H H') (f : ∀ a, N a → M a) : DaL M H' x d := DaL.map (fun a _ _ n => f a n) (fun b o e _ _ => s b o e) d x h
theorem DaL.len {N : Addr → Prop} : ∀ {xs : List V} {ds : List PyData}, DaL N H xs ds → xs.length = ds.length
  | _, [], h => by cases h; rfl
  | _, d :: ds, h => by
    cases h with
    | cons h r => rw [List.length_cons, List.length_cons, DaL.len r]
theorem DaL.mem {N : Addr → Prop} {x : V} : ∀ {xs : List V} {ds : List PyData}, DaL N H xs ds → x ∈ xs → ∃ d, d ∈ ds ∧ Da N H x d
  | _, [], h, m => by cases h; cases m
  | _, d :: ds, h, m => by
    cases h with
    | cons h r =>
      rcases List.mem_cons.mp m with e | e
      · subst e
        exact ⟨_, List.mem_cons_self, h⟩
      · obtain ⟨d, h1, h2⟩ := DaL.mem r e
        exact ⟨d, List.mem_cons_of_mem _ h1, h2⟩
theorem DaL.append {N : Addr → Prop} {ys : List V} {es : List PyData} : ∀ {xs : List V} {ds : List PyData}, DaL N H xs ds → DaL N H ys es → DaL N H (xs ++ ys) (ds ++ es)
  | _, [], h, m => by cases h; exact m
  | _, d :: ds, h, m => by
    cases h with
    | cons h r => exact .cons h (DaL.append r m)
theorem DaL.rep {N : Addr → Prop} {xs : List V} {ds : List PyData} (h : DaL N H xs ds) : ∀ k : Nat, DaL N H (List.replicate k xs).flatten (List.replicate k ds).flatten
  | 0 => .nil
  | k + 1 => by
    rw [List.replicate_succ, List.replicate_succ, List.flatten_cons, List.flatten_cons]
    exact DaL.append h (DaL.rep h k)
/-- new data stand apart from what was there -/
theorem Dn.apart {H0 : Hp} {x : V} {d : PyData} (h : Dn H0 H x d) (hS : ∀ s ∈ S, H0 s ≠ none) : Ds S H x d := h.mono (Same.refl H) fun a n z => hS a z n
theorem DnL.apart {H0 : Hp} {x : List V} {d : List PyData} (h : DnL H0 H x d) (hS : ∀ s ∈ S, H0 s ≠ none) : DsL S H x d := h.mono (Same.refl H) fun a n z => hS a z n
end
/-- one address more that is left out: a new one -/
theorem Ds.more {S : List Addr} {H : Hp} {x : V} {d : PyData} {l : Addr} (h : Ds S H x d) (hl : H l = none) : Ds (l :: S) H x d :=
  Da.map (fun a o e n z => (List.mem_cons.mp z).elim (fun z => ne_of_none e hl z) n) (fun _ _ e _ _ => e) d x h
theorem Ds.sub {S M : List Addr} {H : Hp} {x : V} {d : PyData} (h : Ds S H x d) (hl : ∀ a, a ∈ M → a ∈ S) : Ds M H x d :=
  Da.map (fun a o e n z => n (hl a z)) (fun _ _ e _ _ => e) d x h
/-! ### displays of data -/
def tDat (d : PyData) : TE := fun _ H Q => ∀ x H', Same H H' → Dn H H' x d → Q x H'
def tDats (ds : List PyData) : TA := fun _ H Q => ∀ xs H', Same H H' → DnL H H' xs ds → Q xs H'
section
variable {X : Cx} {e : Expr} {es : List Expr} {d : PyData} {ds : List PyData} {pos : Pos}
theorem pd_non {j} : PE X (.Constant .none j pos) (tDat .none) := peImp pe_non fun _ H _ h => h _ _ (Same.refl H) .non
theorem pd_bl {b j} : PE X (.Constant (.bool b) j pos) (tDat (.bool b)) := peImp pe_bl fun _ H _ h => h _ _ (Same.refl H) (.bl b)
theorem pd_int {i j} : PE X (.Constant (.int i) j pos) (tDat (.int i)) := peImp pe_int fun _ H _ h => h _ _ (Same.refl H) (.int i)
theorem pd_str {z j} : PE X (.Constant (.str z) j pos) (tDat (.str z)) := peImp pe_str fun _ H _ h => h _ _ (Same.refl H) (.str z)
theorem pd_neg {i j p2} : PE X (.UnaryOp .USub (.Constant (.int i) j p2) pos) (tDat (.int (-i))) := peImp (pe_un un_neg pe_int) fun _ H _ h => ⟨i, rfl, h _ _ (Same.refl H) (.int (-i))⟩
theorem pd_pow {i k : Int} {j j2 p2 p3} (c : CPow i k) : PE X (.BinOp (.Constant (.int i) j p2) .Pow (.Constant (.int k) j2 p3) pos) (tDat (.int (i ^ k.toNat))) := peImp (pe_op op_pow pe_int pe_int) fun _ H _ h => ⟨i, k, rfl, rfl, c, h _ _ (Same.refl H) (.int _)⟩
theorem pd_dic : PE X (.Dict [] [] pos) (tDat (.dict [])) := peImp pe_dnewK fun _ H _ h p hp => h _ _ (Same.new hp) (.dic upd_same)
theorem pds_nil : PA X [] (tDats []) := paImp pa_nil fun _ H _ h => h _ _ (Same.refl H) .nil
theorem pds_cons (ha : PE X e (tDat d)) (hr : PA X es (tDats ds)) (hs : starEach (e :: es) X.env = (false, eval e X.env) :: starEach es X.env := by rfl) : PA X (e :: es) (tDats (d :: ds)) :=
  paImp (pa_cons ha hr hs) fun _ H _ h x H1 s1 d1 xs H2 s2 d2 => h (x :: xs) H2 (s1.trans s2) (.cons (d1.mono s2 fun _ n => n) (d2.mono (Same.refl H2) fun _ n => none_back s1 n))
theorem pd_tup {x1} (h : PA X es (tDats ds)) (hl : ds.length < 1000 := by decide) : PE X (.Tuple es x1 pos) (tDat (.tuple ds)) :=
  peImp (pe_tup h) fun _ H _ q xs H1 s1 d1 => ⟨sl (by rw [d1.len]; omega), fun p hp => q _ _ (s1.trans (Same.new hp)) (.tup upd_same (d1.mono (Same.new hp) fun _ n => n))⟩
theorem pd_lst (h : PA X es (tDats ds)) (hl : ds.length < 1000 := by decide) : PE X (.List es pos) (tDat (.list ds)) :=
  peImp (pe_lst h) fun _ H _ q xs H1 s1 d1 => ⟨sl (by rw [d1.len]; omega), fun p hp => q _ _ (s1.trans (Same.new hp)) (.lst upd_same (none_back s1 hp) (d1.mono (Same.new hp) fun _ n => n))⟩
/-- a tuple, some times -/
theorem pd_rep {k : Int} {j p2} (h : PE X e (tDat (.tuple ds))) (h0 : ds ≠ [] := by simp) (h1 : 2 ≤ k := by decide) (h2 : k ≤ 1000 := by decide) (hl : ds.length ≤ 1000 := by decide) : PE X (.BinOp e .Mult (.Constant (.int k) j p2) pos) (tDat (.tuple (List.replicate k.toNat ds).flatten)) :=
  peImp (pe_op op_repT h pe_int) fun _ H _ q x H1 s1 d1 => by
    cases d1 with
    | @tup a xs _ e d1 =>
      have l := d1.len
      exact ⟨a, k, xs, rfl, rfl, SqT.of e, fun z => h0 (List.eq_nil_of_length_eq_zero (by rw [← l, z]; rfl)), h1, h2, by omega, fun p hp => q _ _ (s1.trans (Same.new hp)) (.tup upd_same (DaL.rep (d1.mono (Same.new hp) fun _ n => n) _))⟩
theorem pd_cat {e2 : Expr} {es2 : List PyData} (h : PE X e (tDat (.tuple ds))) (g : PE X e2 (tDat (.tuple es2))) (h0 : ds ≠ [] := by simp) (h1 : es2 ≠ [] := by simp) (hl : ds.length + es2.length ≤ 1000 := by decide) : PE X (.BinOp e .Add e2 pos) (tDat (.tuple (ds ++ es2))) :=
  peImp (pe_op op_catT h g) fun _ H _ q x H1 s1 d1 y H2 s2 d2 => by
    cases d1 with
    | @tup a xs _ e d1 =>
      cases d2 with
      | @tup b ys _ e2 d2 =>
        have l := d1.len
        have l2 := d2.len
        exact ⟨a, b, xs, ys, rfl, rfl, SqT.of (s2 _ _ e), SqT.of e2, fun z => h0 (List.eq_nil_of_length_eq_zero (by rw [← l, z]; rfl)), sl (by omega), fun z => absurd (List.eq_nil_of_length_eq_zero (by rw [← l2, z]; rfl)) h1, fun _ p hp =>
          q _ _ ((s1.trans s2).trans (Same.new hp)) (.tup upd_same (DaL.append (d1.mono (s2.trans (Same.new hp)) fun _ n => n) (d2.mono (Same.new hp) fun _ n => none_back s1 n)))⟩
end
/-! ### what data are -/
section
variable {K : PySem.W.Frag} {N : Addr → Prop} {H : Hp}
theorem Da.vk {x : V} {d : PyData} (h : Da N H x d) : Vk K H x := by
  cases h with
  | non => exact .non
  | bl b => exact .bl b
  | int i => exact .int i
  | str z => exact .str z
  | tup e h => exact .tup (SqT.of e)
  | lst e n h => exact .lst e
  | dic e => exact .dic e
theorem DaL.vks {x : V} {xs : List V} {ds : List PyData} (h : DaL N H xs ds) (m : x ∈ xs) : Vk K H x := by
  obtain ⟨d, _, h⟩ := h.mem m
  exact h.vk
mutual
theorem Da.dp : ∀ (d : PyData) (x : V), d.hasDict = false → Da N H x d → Dp K H x d
  | .none, _, _, h => by cases h; exact .non
  | .bool b, _, _, h => by cases h; exact .bl b
  | .int i, _, _, h => by cases h; exact .int i
  | .str z, _, _, h => by cases h; exact .str z
  | .tuple ds, _, n, h => by
    cases h with
    | tup e h => exact .tup (SqT.of e) (DaL.dp ds _ n h)
  | .list ds, _, n, h => by
    cases h with
    | lst e _ h => exact .lst (SqL.of e) (DaL.dp ds _ n h)
  | .dict _, _, n, h => by cases n
theorem DaL.dp : ∀ (ds : List PyData) (xs : List V), PyData.hasDictAll ds = false → DaL N H xs ds → DpAll K H xs ds
  | [], _, _, h => by cases h; exact .nil
  | d :: ds, _, n, h => by
    cases h with
    | cons h r =>
      have n' : (d.hasDict || PyData.hasDictAll ds) = false := n
      rw [Bool.or_eq_false_iff] at n'
      exact .cons (Da.dp d _ n'.1 h) (DaL.dp ds _ n'.2 r)
end
end
end K9
namespace K9
open PySem PySem.Spec PyProof.Rows L2
/-! ### repr of data, where no repr is under way -/
/-- repr(x) is the text z -/
def Shown (K : PySem.W.Frag) (H : Hp) (x : V) (z : Str) : Prop := ∃ d : PyData, Dp K H x d ∧ d.showable = true ∧ d.hasDict = false ∧ d.depth ≤ 60 ∧ d.shown.length ≤ sizeLine ∧ z = d.shown
theorem call_reprS {X : Cx} (hg : X.A.guards = some []) (hu : X.A.units + 64 < cLine) : CallR X (.builtin "repr") (fun xs H Q => ∃ (x : V) (z : Str), xs = [x] ∧ Shown X.K H x z ∧ Q (.str z) H) := by
  intro pins s σ H xs us Q I r h
  obtain ⟨x, z, rfl, ⟨d, dp, sh, nd, de, le, rfl⟩, q⟩ := h
  obtain ⟨u, rfl, ru⟩ := vals1 r
  have ends : ∀ h' tk, (∀ b o, s.heap.get? b = some o → h'.get? b = some o) → ∀ t, EP X pins σ Q (.str d.shown t) { s with heap := h', toks := tk } := fun h' tk kp t => ⟨.str d.shown, H, I.kept kp, ⟨t, rfl⟩, q⟩
  cases dp with
  | non =>
    cases (show u = Value.none from ru)
    exact PySem.P.repr_of_none (ends _ _ (fun _ _ e => e) _)
  | bl b =>
    cases (show u = Value.bool b from ru)
    exact PySem.P.repr_of_bool (ends _ _ (fun _ _ e => e) _)
  | int i =>
    obtain ⟨t, e⟩ := (show ∃ t, u = Value.int i t from ru)
    subst e
    exact PySem.P.repr_of_int (of_decide_eq_true sh) (ends _ _ (fun _ _ e => e) _)
  | str y =>
    obtain ⟨t, e⟩ := (show ∃ t, u = Value.str y t from ru)
    subst e
    exact PySem.P.repr_of_str (ends _ _ (fun _ _ e => e) _) le
  | @lst a ys ds h1 h2 =>
    obtain ⟨as, rd⟩ := Dp.reads I _ _ _ (.lst h1 h2) ru
    cases (show u = Value.ref a from ru)
    exact repr_of_reads' rd sh (fun e => by rw [nd] at e; cases e) hg (by omega) (fun _ _ e => e) (fun h' u tk kp => ends h' tk kp u) le
  | @tup a ys ds h1 h2 =>
    obtain ⟨as, rd⟩ := Dp.reads I _ _ _ (.tup h1 h2) ru
    cases (show u = Value.ref a from ru)
    exact repr_of_reads' rd sh (fun e => by rw [nd] at e; cases e) hg (by omega) (fun _ _ e => e) (fun h' u tk kp => ends h' tk kp u) le
/-! ### try with several clauses, some with a name -/
abbrev Clause := Value × Option Nat × (Addr → Value → Option Addr → TS)
/-- behind a clause with a name the slot is empty -/
def gone (i : Nat) (D : Ends) : Ends := { nx := fun σ H => D.nx (σ.set i none) H, rt := D.rt, bk := fun σ H => D.bk (σ.set i none) H, ct := fun σ H => D.ct (σ.set i none) H }
/-- what a clause does with the error at a -/
def clauseRun (D : Ends) (ts : Addr → Value → Option Addr → TS) (a : Addr) (cls : Value) (d : Option Addr) (σ : L2.St) (H : Hp) : Option Nat → Prop
  | none => ts a cls d D σ H
  | some i => i < σ.length → ts a cls d (gone i D) (σ.set i (some (.ref a))) H
/-- the clauses one behind the other -/
def wMix (K : PySem.W.Frag) (D : Ends) : List Clause → WX
  | [] => fun _ _ _ _ => False
  | c :: r => fun cls d σ H => ∃ b, PySem.W.exmOne K cls c.1 = some b ∧ (b = true → ∀ a, H a = none → clauseRun D c.2.2 a cls d σ H c.2.1) ∧ (b = false → wMix K D r cls d σ H)
inductive MixOk (X : Cx) : List ExceptHandler → List Clause → Prop
  | nil : MixOk X [] []
  | plain {x : Str} {c : Value} {ts : Addr → Value → Option Addr → TS} {st : Stmt} {sts : List Stmt} {p p' : Pos} {hs : List ExceptHandler} {l : List Clause} (hc : Names X x c)
      (hsu : ∀ (a : Addr) (oe : Obj) (cls : Value) (d : Option Addr) (pn : List (Addr × Obj)), Zc cls d oe → (∃ vs, oe.data = .fields vs) → PSs (X.suite a ((a, oe) :: pn)) (st :: sts) (ts a cls d)) (r : MixOk X hs l) :
      MixOk X (.ExceptHandler (some (.Name x p)) none (st :: sts) p' :: hs) ((c, none, ts) :: l)
  | named {x n : Str} {c : Value} {i : Nat} {ts : Addr → Value → Option Addr → TS} {st : Stmt} {sts : List Stmt} {p p' : Pos} {hs : List ExceptHandler} {l : List Clause} (hc : Names X x c) (hi : X.N[i]? = some n) (hn : X.env.kindOf n = some .local)
      (hsu : ∀ (a : Addr) (oe : Obj) (cls : Value) (d : Option Addr) (pn : List (Addr × Obj)), Zc cls d oe → (∃ vs, oe.data = .fields vs) → PSs (X.suite a ((a, oe) :: pn)) (st :: sts) (ts a cls d)) (r : MixOk X hs l) :
      MixOk X (.ExceptHandler (some (.Name x p)) (some n) (st :: sts) p' :: hs) ((c, some i, ts) :: l)
section
variable {X : Cx} {body : List Stmt} {h1 : ExceptHandler} {hs : List ExceptHandler} {l : List Clause} {pos : Pos} {tb : WX → TS}
theorem ps_try_mix (hstk : X.stack = X.env :: X.outer) (hfr : X.env.frame = some X.env.locals) (hN : X.N.Nodup)
    (hbody : ∀ (W : WX) (pn : List (Addr × Obj)) (xe : Value → Shared → Prop), Takes (X.tr pn xe) W → PassesOwn (model X.prog X.w) X.A X.env xe → PSs (X.tr pn xe) body (tb W))
    (hclauses : MixOk X (h1 :: hs) l) : PS X (.Try body (h1 :: hs) [] [] pos) (fun D σ H => tb (wMix X.K D l) D σ H) := by
  refine ⟨fun pins s σ H D I h => ?_⟩
  have ok := I.ok
  have frames : X.A.frames = some (X.env :: X.outer) := by
    rw [ok.frames, hstk]
  refine wpAny_Try_except ?_
  refine wpAny_mono ((hbody (wMix X.K D l) (X.pn ++ pins)
      (fun e s1 => wpAny (model X.prog X.w) X.A (noteFrame e X.env) (fun _ s2 => wpAny (model X.prog X.w) X.A (setFlight e none)
        (fun _ s3 => wpAny (model X.prog X.w) X.A (handleBy e X.env (h1 :: hs)) (SP X pins D) X.xe s3) X.xe s2) X.xe s1)
      (fun u s' x => ?caught) PassesOwn.looking).run [] s σ H D (I.toTry _) h) (fun f s1 q => ?through) (fun e s1 q => q)
  case through =>
    cases f with
    | next =>
      obtain ⟨σ1, H1, J, q⟩ := q
      exact wpAny_execs_nil ⟨σ1, H1, J.ofTry ok, q⟩
    | brk =>
      obtain ⟨σ1, H1, J, q⟩ := q
      exact ⟨σ1, H1, J.ofTry ok, q⟩
    | cont =>
      obtain ⟨σ1, H1, J, q⟩ := q
      exact ⟨σ1, H1, J.ofTry ok, q⟩
    | ret u =>
      obtain ⟨v, σ1, H1, J, rv, q⟩ := q
      exact ⟨v, σ1, H1, J.ofTry ok, rv, q⟩
  case caught =>
    obtain ⟨a, B, sI, pins1, σ1, H1, cls, d, rfl, J0, nb, up, sky, na, hos, bare, wish⟩ := x
    have J : Inv X pins σ1 H1 sI := J0.ofTry ok
    have sky1 : Sky B (X.env :: X.outer) a (Zc cls d) X.env.locals s'.heap := by
      rw [← hstk]
      exact sky
    show wpAny (model X.prog X.w) X.A (noteFrame (.ref a) X.env) _ _ _
    refine Sky.land Zc.steady frames hfr sky1 fun g3 fly3 up3 => ?_
    have J3 : Inv X pins σ1 H1 { s' with heap := g3 } := J.landed nb fly3.1 (up.trans up3) hos bare
    obtain ⟨oe3, vs3, ge3, z3, dat3⟩ := fly3.there
    have out3 : a ∉ frs (X.env :: X.outer) := fun hm => by
      obtain ⟨_, o', e', hnf⟩ := fly3.2.2.1.mem hm
      rw [ge3] at e'
      cases e'
      exact hnf _ dat3
    have nL : a ≠ X.env.locals := fun z => out3 (List.mem_filterMap.mpr ⟨X.env, List.mem_cons_self, by rw [hfr, z]⟩)
    have nF : a ∉ X.fs := fun hm => by
      obtain ⟨e, he, q⟩ := List.mem_filterMap.mp hm
      exact out3 (List.mem_filterMap.mpr ⟨e, List.mem_cons_of_mem _ he, q⟩)
    have S3 := J3.suite ge3 dat3 na nL nF
    have asks : ∀ {x : Str} {c : Value} {p : Pos} {Q : Value → Shared → Prop} {E : Value → Shared → Prop}, Names X x c → Q c { s' with heap := g3 } →
        wpAny (model X.prog X.w) (X.A.mark (some (.ref a))) (eval (.Name x p) X.env) Q E { s' with heap := g3 } := fun {x c p Q E} hc q => by
      obtain ⟨hg, hd, hm | ⟨hm, hv, hnn⟩⟩ := hc
      · exact ld_glob (X := X.suite a ((a, oe3) :: (X.pn ++ pins))) S3 hg hm q hd
      · exact ld_blt (X := X.suite a ((a, oe3) :: (X.pn ++ pins))) S3 hg hm hv q hnn hd
    have cls3 : PySem.W.Looks (model X.prog X.w) g3 (typeOf (.ref a)) cls := fun A Q E s k q => wpAny_typeOf_ref (k _ _ ge3) (by rw [z3.1]; exact q)
    have go : ∀ {hs' : List ExceptHandler} {l' : List Clause}, MixOk X hs' l' → wMix X.K D l' cls d σ1 H1 → wpAny (model X.prog X.w) X.A (handleBy (.ref a) X.env hs') (SP X pins D) X.xe { s' with heap := g3 } := by
      intro hs' l' hk
      induction hk with
      | nil => exact fun no => no.elim
      | @plain x c ts st sts p p' hs2 l2 hc hsu r ih =>
        rintro ⟨b, hb, yes, no⟩
        refine wpAny_handleBy_cons (codeAny_handlers_test ?_) (by intro q; cases q)
        refine asks hc ((PySem.W.exm_one (M := model X.prog X.w) J3.kIn cls3 hb).here ?_)
        cases b with
        | false =>
          show wpAny _ X.A (handleBy (.ref a) X.env hs2) _ _ _
          exact ih (no rfl)
        | true =>
          refine codeAny_handlers_suite ?_
          refine HandSPX.lands_againZ fly3 fun g4 fly4 up4 => ?_
          have J4 : Inv X pins σ1 H1 { s' with heap := g4 } := J.landed nb fly4.1 ((up.trans up3).trans up4) hos bare
          obtain ⟨oe4, vs4, ge4, z4, dat4⟩ := fly4.there
          refine wpAny_mono ((hsu a oe4 cls d (X.pn ++ pins) z4 ⟨_, dat4⟩).run [] _ _ H1 _ (J4.suite ge4 dat4 na nL nF) (yes rfl a na)) (fun f s6 q => ?_) (fun _ _ z => z.elim)
          cases f with
          | next =>
            obtain ⟨σ6, H6, S6, q⟩ := q
            exact ⟨_, _, S6.unsuite ok, q⟩
          | brk =>
            obtain ⟨σ6, H6, S6, q⟩ := q
            exact ⟨_, _, S6.unsuite ok, q⟩
          | cont =>
            obtain ⟨σ6, H6, S6, q⟩ := q
            exact ⟨_, _, S6.unsuite ok, q⟩
          | ret u =>
            obtain ⟨v6, σ6, H6, S6, r6, q⟩ := q
            exact ⟨_, _, _, S6.unsuite ok, r6, q⟩
      | @named x n c i ts st sts p p' hs2 l2 hc hi hn hsu r ih =>
        rintro ⟨b, hb, yes, no⟩
        refine wpAny_handleBy_cons (codeAny_handlers_test ?_) (by intro q; cases q)
        refine asks hc ((PySem.W.exm_one (M := model X.prog X.w) J3.kIn cls3 hb).here ?_)
        cases b with
        | false =>
          show wpAny _ X.A (handleBy (.ref a) X.env hs2) _ _ _
          exact ih (no rfl)
        | true =>
          refine codeAny_handlers_suite_as ?_
          refine HandSPX.lands_againZ fly3 fun g4 fly4 up4 => ?_
          have J4 : Inv X pins σ1 H1 { s' with heap := g4 } := J.landed nb fly4.1 ((up.trans up3).trans up4) hos bare
          obtain ⟨oe4, vs4, ge4, z4, dat4⟩ := fly4.there
          refine store_ok (X := X.suite a ((a, oe4) :: (X.pn ++ pins))) (v := .ref a) (J4.suite ge4 dat4 na nL nF) hN hi (.inl hn) rfl (fun s5 S5 => ?_) (.inr hn)
          have close : ∀ {σ6 : L2.St} {H6 : Hp} {s6 : Shared} {R : Shared → Prop}, Inv (X.suite a ((a, oe4) :: (X.pn ++ pins))) [] σ6 H6 s6 → (∀ s7, Inv X pins (σ6.set i none) H6 s7 → R s7) →
              wpAny (model X.prog X.w) X.A (do bindName X.env n .none; unbindBehindTheSuite X.env n p') (fun _ s7 => R s7) X.xe s6 := fun S6 k => gone_ok (S6.unsuite ok) hN hi hn k
          have il : i < σ1.length := by
            rw [J.len]
            exact (List.getElem?_eq_some_iff.mp hi).1
          refine wpAny_mono ((hsu a oe4 cls d (X.pn ++ pins) z4 ⟨_, dat4⟩).run [] s5 _ H1 _ S5 (yes rfl a na il)) (fun f s6 q => ?_) (fun _ _ z => z.elim)
          cases f with
          | next =>
            obtain ⟨σ6, H6, S6, q⟩ := q
            exact close S6 fun s7 J7 => ⟨_, _, J7, q⟩
          | brk =>
            obtain ⟨σ6, H6, S6, q⟩ := q
            exact close S6 fun s7 J7 => ⟨_, _, J7, q⟩
          | cont =>
            obtain ⟨σ6, H6, S6, q⟩ := q
            exact close S6 fun s7 J7 => ⟨_, _, J7, q⟩
          | ret u =>
            obtain ⟨v6, σ6, H6, S6, r6, q⟩ := q
            exact close S6 fun s7 J7 => ⟨_, _, _, J7, r6, q⟩
    exact go hclauses wish
end
end K9
namespace K9
open PySem PySem.Spec PyProof.Rows L2 LamX LamY
/-! ### what the law makes of a call's end -/
def two (a b : V) : HO := .tup [a, b]
abbrev tR : V := .str "refused"
def MetEnd (K : PySem.W.Frag) (CL CN CM : Addr) (Q : VK) : XK := fun cls d H =>
  (cls = .ref CL ∧ ∀ p, H p = none → Q (.ref p) (upd H p (two tR (.str "letters")))) ∨
  (cls = .ref CN ∧ ∃ (dd : Addr) (v : V) (z : Str), d = some dd ∧ H dd = some (.xd [(("given" : Str), v)]) ∧ Shown K H v z ∧ z.length ≤ 900 ∧ ∀ p, H p = none → Q (.ref p) (upd H p (two tR (.str ("number " ++ z))))) ∨
  (cls = .ref CM ∧ ∃ (dd : Addr) (v : V) (z : Str), d = some dd ∧ H dd = some (.xd [(("limit" : Str), v)]) ∧ Shown K H v z ∧ z.length ≤ 900 ∧ ∀ p, H p = none → Q (.ref p) (upd H p (two tR (.str ("many " ++ z)))))
def TMet (K : PySem.W.Frag) (CL CN CM : Addr) : (XK → Hp → VK → Prop) → Hp → VK → Prop := fun tl H Q =>
  tl (MetEnd K CL CN CM Q) H (fun _ H' => [V.str "fine"].length ≤ sizeLine ∧ ∀ p, H' p = none → Q (.ref p) (upd H' p (.tup [.str "fine"])))
/-- which clause takes which class -/
structure Clss (K : PySem.W.Frag) (mg : Str → Option Value) (CL CN CM : Addr) : Prop where
  nL : mg "InvalidLetters" = some (.ref CL)
  nN : mg "InvalidNumber" = some (.ref CN)
  nM : mg "TooMany" = some (.ref CM)
  ll : PySem.W.exmOne K (.ref CL) (.ref CL) = some true
  nl : PySem.W.exmOne K (.ref CN) (.ref CL) = some false
  nn : PySem.W.exmOne K (.ref CN) (.ref CN) = some true
  ml : PySem.W.exmOne K (.ref CM) (.ref CL) = some false
  mn : PySem.W.exmOne K (.ref CM) (.ref CN) = some false
  mm : PySem.W.exmOne K (.ref CM) (.ref CM) = some true
theorem scMet : FnScope ["call", "error"] ["call"] (defScope sMet) := ⟨rfl, rfl, rfl, by decide +kernel, rfl, by decide +kernel, by decide +kernel⟩
theorem bootRepr : bootBuiltins "repr" = some (.builtin "repr") := by decide +kernel
def spMet (P : Program) (w : World) (K : PySem.W.Frag) (mg : Str → Option Value) (base : Heap) (k : Nat) (CL CN CM : Addr) : Sp := fun vs H Q _ => ∃ (f : Addr) (tl : XK → Hp → VK → Prop), vs = [.ref f] ∧ LamIs P w K mg base k f tl H ∧ TMet K CL CN CM tl H Q
abbrev tTold (X : Cx) (word : Str) (te : TE) : TS := tRet (tTup (tCons (tC tR) (tCons (tOp (fun x y H Q => ∃ i j, x = .str i ∧ y = .str j ∧ i.length + j.length ≤ sizeLine ∧ Q (.str (i ++ j)) H) (tC (.str word)) (tCB (fun xs H Q => ∃ (x : V) (z : Str), xs = [x] ∧ Shown X.K H x z ∧ Q (.str z) H) (tCons te tNil))) tNil)))
abbrev tWord (word : Str) : TS := tRet (tTup (tCons (tC tR) (tCons (tC (.str word)) tNil)))
section
variable {P : Program} {w : World} {K : PySem.W.Frag} {mg : Str → Option Value} {base : Heap} {CL CN CM i0 i1 : Addr}
theorem ok_met {k : Nat} {f : Addr} {fd : FuncData} (F : Fun K "_law_met" "_law_met" sMet f fd) (T : Txt K mg) (M : Clss K mg CL CN CM) (EN : K9X.NumTxt K mg CN i0) (EM : K9M.NumTxt K mg CM i1) :
    LamY.FnG P w K mg base CX0 (k + 2) f fd ["call"] (spMet P w K mg base k CL CN CM) := by
  refine okG F scMet (fun vs H Q E h => ?_) (fun cdv A outer s H vs Q E hgd hr h => ?_)
  · obtain ⟨f', tl, rfl, _⟩ := h; rfl
  obtain ⟨f', tl, rfl, hL, q⟩ := h
  have hu : A.units + 3 + 128 < cLine := by
    have h1 := hr.un
    have h3 : (A.deeper (envOfC (Str.ofString "_law_met") (defScope sMet) s.heap.objs.size f cdv)).units = A.units + 3 := rfl
    omega
  let Y := (cxOf CX0 P w K mg base ["call", "error"] "_law_met" (defScope sMet) f cdv A outer s H E).nox
  refine ⟨_, pss_cons (ps_try_mix (X := Y) (l := [(.ref CL, none, fun _ _ _ => tWord "letters"),
        (.ref CN, some 1, fun a cls d => tTold Y "number " (tGiven CN a cls d (tVar 1))), (.ref CM, some 1, fun a cls d => tTold Y "many " (tLimit CM a cls d (tVar 1)))])
      (tb := fun W D σ H => ∃ Ech : XK, (∀ cls d σ' H', Ech cls d H' → W cls d σ' H') ∧ ∃ (f : Addr) (tl : XK → Hp → VK → Prop), σ[0]? = some (some (.ref f)) ∧ LamIs P w K mg base k f tl H ∧ tl Ech H (fun _ H' => D.nx σ H'))
      rfl rfl scMet.nd (fun W pn xe tk _ => ?_)
      (.plain ⟨by rfl, by decide, .inl M.nL⟩ (fun a oe cls d pn _ _ => pss_one (ps_ret (pe_tup (pa_cons pe_str (pa_cons pe_str pa_nil)))))
        (.named ⟨by rfl, by decide, .inl M.nN⟩ rfl rfl (fun a oe cls d pn hz hf => pss_one (ps_ret (pe_tup (pa_cons pe_str (pa_cons (pe_op op_add_str pe_str (pe_callB (call_reprS (by exact hgd) (by show A.units + 3 + 64 < cLine; omega)) (by rfl) T.repr bootRepr (by exact (pa_cons (pe_given (X := Y) EN hz hf (pv 1)) pa_nil)))) pa_nil)))))
        (.named ⟨by rfl, by decide, .inl M.nM⟩ rfl rfl (fun a oe cls d pn hz hf => pss_one (ps_ret (pe_tup (pa_cons pe_str (pa_cons (pe_op op_add_str pe_str (pe_callB (call_reprS (by exact hgd) (by show A.units + 3 + 64 < cLine; omega)) (by rfl) T.repr bootRepr (by exact (pa_cons (pe_limit (X := Y) EM hz hf (pv 1)) pa_nil)))) pa_nil))))) .nil))))
    (pss_one (ps_ret (pe_tup (pa_cons pe_str pa_nil)))), ?_⟩
  · refine ⟨fun pins s' σ H' D I h' => ?_⟩
    obtain ⟨Ech, hW, f2, tl2, h1, h2, h3⟩ := h'
    exact (pss_one (ps_expr (pe_actS (Z := Y.tr pn xe) (k := k) (E := Ech) (i := 0) (passes_call tk hW) hr rfl (.inl rfl)))).run pins s' σ H' D I ⟨f2, tl2, h1, h2, h3⟩
  · have e7 : ("number " : Str).length = 7 := by decide +kernel
    have e5 : ("many " : Str).length = 5 := by decide +kernel
    have two' : ∀ {x y : V}, [x, y].length ≤ sizeLine := fun {x y} => by show 2 ≤ sizeLine; decide
    refine ⟨MetEnd K CL CN CM Q, fun cls d σ' H' z => ?_, f', tl, rfl, hL, ?_⟩
    · rcases z with ⟨rfl, c⟩ | ⟨rfl, dd, v, z, rfl, hd, sh, lz, c⟩ | ⟨rfl, dd, v, z, rfl, hd, sh, lz, c⟩
      · exact ⟨true, M.ll, fun _ a _ => ⟨two', c⟩, (fun e => nomatch e)⟩
      · refine ⟨false, M.nl, (fun e => nomatch e), fun _ => ⟨true, M.nn, fun _ a _ hl => ?_, (fun e => nomatch e)⟩⟩
        exact ⟨.ref a, by rw [List.getElem?_set_self hl], rfl, rfl, dd, v, rfl, hd, v, z, rfl, sh, _, _, rfl, rfl, sl (by rw [e7]; omega), two', c⟩
      · refine ⟨false, M.ml, (fun e => nomatch e), fun _ => ⟨false, M.mn, (fun e => nomatch e), fun _ => ⟨true, M.mm, fun _ a _ hl => ?_, (fun e => nomatch e)⟩⟩⟩
        exact ⟨.ref a, by rw [List.getElem?_set_self hl], rfl, rfl, dd, v, rfl, hd, v, z, rfl, sh, _, _, rfl, rfl, sl (by rw [e5]; omega), two', c⟩
    · exact q
end
end K9
namespace LamY
open PySem PySem.Spec PyProof.Rows L2 LamX
section
variable {X : Cx} {k : Nat} {f : Addr} {fd : FuncData} {ps : List Str} {sp : Sp} {x : Str} {p pos : Pos} {e : Expr} {es : List Expr} {t : TA}
theorem pe_callG (F : FnG X.prog X.w X.K X.mg X.base CX0 k f fd ps sp) (hgd : X.A.guards = some []) (hr : Room k X.A) (hg : Gl X x) (hm : X.mg x = some (.ref f)) (hk : PySem.W.keepIn X.K (.ref f) = true) (hb : Binds X.K fd ps []) (ha : PA X (e :: es) t)
    (hdb : (x == ("__debug__" : Str)) = false := by decide) (he : starEach (e :: es) X.env = (false, eval e X.env) :: starEach es X.env := by rfl) (hpl : (backTo pos (starEach es X.env)).any (·.1) = false := by rfl) :
    PE X (.Call (.Name x p) (e :: es) [] pos) (fun σ H Q => t σ H fun vs H1 => sp vs H1 Q E0) := by
  refine ⟨fun pins s σ H Q I h => ?_⟩
  refine wpAny_Call_Name_kw (ld_glob I hg hm ?_ hdb)
  refine PySem.W.callWith_K (h₀ := X.base) I.ok.mod.kin hk (thn (ha.run pos pins s σ H _ I h) fun us s1 ⟨vs, H1, I1, r, q⟩ => ⟨I1.kIn, ?_⟩) he hpl
  have hl : us.length = ps.length := by rw [← r.length]; exact F.len _ _ _ _ q
  refine wpAny_call (codeAny_mono (F.run X.A X.stack s1 H1 ⟨us, []⟩ us vs Q E0 hgd hr I1.env0 ?_ r q) fun r' s2 hq => ?_)
  · have b := hb s1 us I1.kIn (by rw [List.append_nil]; exact hl)
    rw [List.append_nil] at b
    exact b
  · cases r' with
    | error e => exact hq.elim
    | ok fl =>
      cases fl with
      | ret u => exact I1.after hq
      | next => exact hq.elim
      | brk => exact hq.elim
      | cont => exact hq.elim
end
end LamY
namespace K9
open PySem PySem.Spec PyProof.Rows L2 LamX LamY
/-! ### what is due, and whether it is met -/
def dueV (z : Str) : List V := if z = "" then [.str "fine"] else [.str "refused", .str z]
def dueD (z : Str) : PyData := if z = "" then .tuple [.str "fine"] else .tuple [.str "refused", .str z]
theorem due_dp {K : PySem.W.Frag} {H : Hp} {p : Addr} {z : Str} (h : H p = some (.tup (dueV z))) : Dp K H (.ref p) (dueD z) := by
  unfold dueV at h
  unfold dueD
  split at h
  · rename_i e
    rw [if_pos e]
    exact .tup (SqT.of h) (.cons (.str _) .nil)
  · rename_i e
    rw [if_neg e]
    exact .tup (SqT.of h) (.cons (.str _) (.cons (.str _) .nil))
theorem due_shp {z : Str} (h : (PyData.str z).canLay0 = true) : Shp 1 (dueD z) := by
  have r : (PyData.str "refused").canLay0 = true := by decide +kernel
  have g : (PyData.str "fine").canLay0 = true := by decide +kernel
  unfold dueD
  split
  · exact ⟨by rw [PyData.canLay0, PyData.canLayAll0, PyData.canLayAll0, g]; rfl, by simp [PyData.depth, PyData.depthAll]⟩
  · exact ⟨by rw [PyData.canLay0, PyData.canLayAll0, PyData.canLayAll0, PyData.canLayAll0, r, h]; rfl, by simp [PyData.depth, PyData.depthAll]⟩
theorem dues_shp : ∀ {zs : List Str}, (∀ z ∈ zs, (PyData.str z).canLay0 = true) → PyData.canLayAll0 (zs.map dueD) = true ∧ PyData.depthAll (zs.map dueD) ≤ 1 + 1
  | [], _ => ⟨rfl, by simp [PyData.depthAll]⟩
  | z :: zs, h => by
    obtain ⟨h1, h2⟩ := dues_shp fun y hy => h y (List.mem_cons_of_mem _ hy)
    have s := due_shp (h z List.mem_cons_self)
    refine ⟨?_, ?_⟩
    · rw [List.map_cons, PyData.canLayAll0, s.can, h1]
      rfl
    · rw [List.map_cons, PyData.depthAll]
      have := s.dep
      omega
theorem dues_list {zs : List Str} (h : ∀ z ∈ zs, (PyData.str z).canLay0 = true) : Shp 4 (.list (zs.map dueD)) := by
  obtain ⟨h1, h2⟩ := dues_shp h
  exact ⟨by rw [PyData.canLay0]; exact h1, by rw [PyData.depth]; omega⟩
/-- the lists of tuples that tell what is due -/
inductive DueL (H : Hp) : List V → List Str → Prop
  | nil : DueL H [] []
  | cons {p : Addr} {xs : List V} {z : Str} {zs : List Str} (h : H p = some (.tup (dueV z))) (r : DueL H xs zs) : DueL H (.ref p :: xs) (z :: zs)
theorem DueL.mono {H H' : Hp} (k : ∀ b xs, H b = some (.tup xs) → H' b = some (.tup xs)) : ∀ {xs : List V} {zs : List Str}, DueL H xs zs → DueL H' xs zs
  | _, _, .nil => .nil
  | _, _, .cons h r => .cons (k _ _ h) (DueL.mono k r)
theorem DueL.dp {K : PySem.W.Frag} {H : Hp} : ∀ {xs : List V} {zs : List Str}, DueL H xs zs → DpAll K H xs (zs.map dueD)
  | _, _, .nil => .nil
  | _, _, .cons h r => .cons (due_dp h) (DueL.dp r)
theorem DueL.snoc {H : Hp} {p : Addr} {z : Str} (h : H p = some (.tup (dueV z))) : ∀ {xs : List V} {zs : List Str}, DueL H xs zs → DueL H (xs ++ [.ref p]) (zs ++ [z])
  | _, _, .nil => .cons h .nil
  | _, _, .cons g r => .cons g (DueL.snoc h r)
theorem DueL.len {H : Hp} : ∀ {xs : List V} {zs : List Str}, DueL H xs zs → xs.length = zs.length
  | _, _, .nil => rfl
  | _, _, .cons _ r => by rw [List.length_cons, List.length_cons, DueL.len r]
def MetAs (P : Program) (w : World) (K : PySem.W.Frag) (mg : Str → Option Value) (base : Heap) (k : Nat) (CL CN CM : Addr) (f : Addr) (z : Str) (H : Hp) : Prop :=
  ∃ tl : XK → Hp → VK → Prop, LamIs P w K mg base k f tl H ∧ ∀ (H1 : Hp) (Q : VK), Same H H1 → (∀ H2 p, Same H1 H2 → H2 p = some (.tup (dueV z)) → Q (.ref p) H2) → TMet K CL CN CM tl H1 Q
def spAre (P : Program) (w : World) (K : PySem.W.Frag) (mg : Str → Option Value) (base : Heap) (k : Nat) (CL CN CM : Addr) : Sp := fun vs H Q _ => ∃ (lc ld : Addr) (fs : List Addr) (zs : List Str), vs = [.ref lc, .ref ld] ∧ H lc = some (.lst (fs.map V.ref)) ∧ H ld = some (.lst (zs.map V.str)) ∧
  fs.length = zs.length ∧ zs.length ≤ 900 ∧ (∀ z ∈ zs, (PyData.str z).canLay0 = true) ∧ (∀ (i : Nat) (f : Addr) (z : Str), fs[i]? = some f → zs[i]? = some z → MetAs P w K mg base k CL CN CM f z H) ∧ ∀ H', Same H H' → Q (.bl true) H'
abbrev nAre : List Str := ["calls", "due", "met", "call", "word"]
theorem scAre : FnScope nAre ["calls", "due"] (defScope sAreMet) := ⟨rfl, rfl, rfl, by decide +kernel, rfl, by decide +kernel, by decide +kernel⟩
section
variable {P : Program} {w : World} {K : PySem.W.Frag} {mg : Str → Option Value} {base : Heap} {CL CN CM fM : Addr} {dM : FuncData}
theorem ok_are {k : Nat} {f : Addr} {fd : FuncData} (F : Fun K "_law_are_met" "_law_are_met" sAreMet f fd) (gM : mg "_law_met" = some (.ref fM)) (kM : PySem.W.keepIn K (.ref fM) = true) (bM : Binds K dM ["call"] [])
    (FM : LamY.FnG P w K mg base CX0 (k + 2) fM dM ["call"] (spMet P w K mg base k CL CN CM)) : LamY.FnG P w K mg base CX0 (k + 3) f fd ["calls", "due"] (spAre P w K mg base k CL CN CM) := by
  refine okG F scAre (fun vs H Q E h => ?_) (fun cdv A outer s H vs Q E hgd hr h => ?_)
  · obtain ⟨lc, ld, fs, zs, rfl, _⟩ := h; rfl
  obtain ⟨lc, ld, fs, zs, rfl, hc, hd, ll, l9, lay, met, q⟩ := h
  refine ⟨_, pss_cons (ps_setLc (i := 2) (te := fun σ H Q => tCons (tVar 3) tNil σ H fun vs H1 => spMet P w K mg base k CL CN CM vs H1 Q E0) (own := [("call", 3)]) (g := gName 3) rfl scAre.nd rfl rfl (by rfl) (pi_list (pv 0)) (blkOk_by (N := nAre) (sc := defScope sAreMet) (by decide +kernel))
      (fun _ _ _ _ _ => pg_name (i := 3) scAre.nd rfl (.inl rfl)) (fun _ _ _ _ _ => pts_nil) (fun _ _ _ _ _ => LamY.pe_callG FM hgd hr (by rfl) gM kM bM (by exact (pa_cons (pv 3) pa_nil))))
    (pss_one (ps_ret (pe_cmpR (op_eqD hr.units) (pv 2) (pe_lc (own := [("word", 4)]) (g := gName 4) rfl scAre.nd (pi_list (pv 1)) (blkOk_by (N := nAre) (sc := defScope sAreMet) (by decide +kernel)) (fun _ _ _ _ _ => pg_name (i := 4) scAre.nd rfl (.inl rfl)) (fun _ _ _ _ _ => pts_nil)
      (fun _ _ _ _ _ => pe_ifExp (pt_cmpR op_ne (pv 4) pe_str (nomark _)) (pe_tup (pa_cons pe_str (pa_cons (pv 4) pa_nil))) (pe_tup (pa_cons pe_str pa_nil)))) (nomark _)))), ?_⟩
  refine ⟨_, rfl, lc, rfl, ⟨_, SqL.of hc⟩, fun D hD => ?_⟩
  have lf : (fs.map V.ref).length = fs.length := List.length_map ..
  refine lc_it (te := fun σ H Q => tCons (tVar 3) tNil σ H fun vs H1 => spMet P w K mg base k CL CN CM vs H1 Q E0) (walk_list (xs := fs.map V.ref)) (fun n H' => Same H H' ∧ ∃ ys, H' D = some (.lst ys) ∧ DueL H' ys (zs.take n)) ⟨Same.new hD, [], upd_same, .nil⟩ (fun _ H' _ p => SqL.of (p.1 _ _ hc)) (fun n x H9 H1 hn p y => ?_) fun H1 p => ?_
  · obtain ⟨rfl, hx⟩ := y
    obtain ⟨s1, ys, hy, dy⟩ := p
    rw [List.getElem?_map] at hx
    obtain ⟨f', hf, rfl⟩ := Option.map_eq_some_iff.mp hx
    have nl := (List.getElem?_eq_some_iff.mp hf).1
    have hz : zs[n]? = some zs[n] := List.getElem?_eq_getElem (by omega)
    obtain ⟨tl, hl, tm⟩ := met n f' _ hf hz
    refine ⟨rfl, iteT (B := True) ⟨_, rfl, f', tl, rfl, hl.mono s1, tm H1 _ s1 fun H2 p s2 hp => ?_⟩⟩
    have lz : (zs.take n).length ≤ n := by rw [List.length_take]; omega
    have ly := dy.len
    have ne : D ≠ p := fun z => by
      rw [← z, s2 _ _ hy] at hp
      cases hp
    have tk : zs.take (n + 1) = zs.take n ++ [zs[n]] := by rw [List.take_add_one, hz]; rfl
    refine ⟨ys, s2 _ _ hy, small1000 (by omega), Same.back (s1.trans s2) hD, _, upd_same, ?_⟩
    rw [tk]
    have up : ∀ b xs, H2 b = some (.tup xs) → upd H2 D (.lst (ys ++ [.ref p])) b = some (.tup xs) := fun b xs e => by
      rw [upd_ne fun z => ?_]
      · exact e
      · rw [z, s2 _ _ hy] at e
        cases e
    exact DueL.snoc (up _ _ hp) (DueL.mono (fun b xs e => up b xs (s2 _ _ e)) dy)
  obtain ⟨s1, ys, hy, dy⟩ := p
  rw [lf, ll, List.take_length] at dy
  refine ⟨_, rfl, _, rfl, ld, rfl, ⟨_, SqL.of (s1 _ _ hd)⟩, fun D2 hD2 => ?_⟩
  have lw : (zs.map V.str).length = zs.length := List.length_map ..
  refine lc_it (walk_list (xs := zs.map V.str)) (fun n H' => Same H1 H' ∧ ∃ ys, H' D2 = some (.lst ys) ∧ DueL H' ys (zs.take n)) ⟨Same.new hD2, [], upd_same, .nil⟩ (fun _ H' _ p => SqL.of (p.1 _ _ (s1 _ _ hd))) (fun n x H9 H2 hn p y => ?_) fun H2 p => ?_
  · obtain ⟨rfl, hx⟩ := y
    obtain ⟨s2, us, hu, du⟩ := p
    rw [List.getElem?_map] at hx
    obtain ⟨z, hz, rfl⟩ := Option.map_eq_some_iff.mp hx
    have nl := (List.getElem?_eq_some_iff.mp hz).1
    have tk : zs.take (n + 1) = zs.take n ++ [z] := by rw [List.take_add_one, hz]; rfl
    have lz : (zs.take n).length ≤ n := by rw [List.length_take]; omega
    have ly := du.len
    have fin : ∀ p, H2 p = none → upd H2 p (.tup (dueV z)) D2 = some (.lst us) ∧ us.length < sizeLine ∧ (Same H1 (upd (upd H2 p (.tup (dueV z))) D2 (.lst (us ++ [.ref p]))) ∧ ∃ ys, upd (upd H2 p (.tup (dueV z))) D2 (.lst (us ++ [.ref p])) D2 = some (.lst ys) ∧ DueL (upd (upd H2 p (.tup (dueV z))) D2 (.lst (us ++ [.ref p]))) ys (zs.take (n + 1))) := fun p hp => by
      have ne : D2 ≠ p := ne_of_none hu hp
      have s3 := Same.new (o := .tup (dueV z)) hp
      refine ⟨s3 _ _ hu, small1000 (by omega), Same.back (s2.trans s3) hD2, _, upd_same, ?_⟩
      rw [tk]
      have up : ∀ b xs, upd H2 p (.tup (dueV z)) b = some (.tup xs) → upd (upd H2 p (.tup (dueV z))) D2 (.lst (us ++ [.ref p])) b = some (.tup xs) := fun b xs e => by
        rw [upd_ne fun z => ?_]
        · exact e
        · rw [z, s3 _ _ hu] at e
          cases e
      exact DueL.snoc (up _ _ upd_same) (DueL.mono (fun b xs e => up b xs (s3 _ _ e)) du)
    refine ⟨rfl, iteT (B := True) ⟨_, rfl, rfl, _, rfl, ite2 (fun b => ?_) (fun b => ?_)⟩⟩
    · have e : ¬ z = "" := fun e => by rw [e] at b; exact absurd b (by decide)
      have dv : dueV z = [.str "refused", .str z] := if_neg e
      rw [dv] at fin
      exact ⟨_, rfl, by show 2 ≤ sizeLine; decide, fun p hp => ⟨us, fin p hp⟩⟩
    · have e : z = "" := Decidable.byContradiction fun e => b (by show (!decide (V.str z = V.str "")) = true; rw [decide_eq_false fun y => e (V.str.inj y)]; rfl)
      have dv : dueV z = [.str "fine"] := if_pos e
      rw [dv] at fin
      exact ⟨by show 1 ≤ sizeLine; decide, fun p hp => ⟨us, fin p hp⟩⟩
  obtain ⟨s2, us, hu, du⟩ := p
  rw [lw, List.take_length] at du
  have sh := dues_list lay
  refine ⟨.list (zs.map dueD), .list (zs.map dueD), .lst (SqL.of (s2 _ _ hy)) (DueL.dp (DueL.mono (fun b xs e => s2 _ _ e) dy)), .lst (SqL.of hu) du.dp, sh.shaped (by decide), sh.shaped (by decide), ?_⟩
  rw [eqv_self sh (by decide)]
  exact q _ (s1.trans s2)
end
end K9
namespace K9
open PySem PySem.Spec PyProof.Rows L2 LamX LamY
/-! ### how a lambda's body ends, and what the law tells of it -/
inductive EndsAs (K : PySem.W.Frag) (CL CN CM : Addr) (t : XK → TE) (σ : L2.St) (Ha : Hp) : Str → Prop
  | letters (h : ∀ E Q, NilE E CL Ha → t E σ Ha Q) : EndsAs K CL CN CM t σ Ha "letters"
  | number {x : V} {z : Str} (sh : ∀ H', Same Ha H' → Shown K H' x z) (l : z.length ≤ 900) (h : ∀ E Q, NumE E CN x Ha → t E σ Ha Q) : EndsAs K CL CN CM t σ Ha ("number " ++ z)
  | many {i : Int} {z : Str} (sh : ∀ H', Shown K H' (.int i) z) (l : z.length ≤ 900) (h : ∀ E Q, ManyE E CM i Ha → t E σ Ha Q) : EndsAs K CL CN CM t σ Ha ("many " ++ z)
  | fine (h : ∀ E Q, (∀ v H', Same Ha H' → Q v H') → t E σ Ha Q) : EndsAs K CL CN CM t σ Ha ""
theorem due_word {z : Str} (h : z ≠ "") : dueV z = [.str "refused", .str z] := if_neg h
theorem due_fine : dueV "" = [.str "fine"] := if_pos rfl
section
variable {C : List Addr} {H1 H' : Hp}
theorem same_plus (s : Same (minus C H1) H') : Same H1 (plus C H1 H') := fun b u e => by
  by_cases c : b ∈ C
  · exact (plus_in c).trans e
  · exact (plus_out c).trans (s b u ((minus_out c).trans e))
theorem same_in {d : Addr} {o : HO} (s : Same (minus C H1) H') (hd : H' d = none) : Same (minus C H1) (plus C H1 (upd H' d o)) := fun b u e => by
  have c : b ∉ C := fun z => by rw [minus_in z] at e; cases e
  have e2 := s b u e
  exact (plus_out c).trans ((upd_ne (ne_of_none e2 hd)).trans e2)
theorem same_plus2 {d : Addr} {o : HO} (s : Same (minus C H1) H') (hd : H' d = none) : Same H1 (plus C H1 (upd H' d o)) := same_plus (s.trans (Same.new hd))
end
theorem num_ne {w z : Str} (h : w.cps.size ≠ 0) : w ++ z ≠ "" := fun e => by
  have h2 := congrArg (fun s : Str => s.cps.size) e
  have h3 : (w ++ z).cps = w.cps ++ z.cps := rfl
  have h4 : ("" : Str).cps.size = 0 := by decide +kernel
  simp only [h3, h4, Array.size_append] at h2
  omega
theorem met_as {X : Cx} {params : Arguments} {body : Expr} {scope : Scope} {pm : Value} {c' : Addr} {ctv : Value} {σ : L2.St} {t : XK → TE} {k : Nat} {f CL CN CM : Addr} {z : Str} {H Hx : Hp}
    (hf : Hx f = some (LamO (lamQ X) params body scope (cloFrom X.env.cells scope.names []) pm c' ctv)) (hn : f ∉ cellsOf X) (hc : Hx c' = some (CodeO c' (lamQ X))) (LS : LamS X.env.scope scope)
    (inj : ∀ (x y : Str) (c : Addr), X.env.cells.lookup x = some c → X.env.cells.lookup y = some c → x = y) (hfree : ∀ y ∈ scope.names, y.2 = NameKind.free → ∃ c, X.env.cells.lookup y.1 = some c) (len : σ.length = X.N.length) (ck : CellK X Hx) (cv : CellV X σ Hx)
    (bd : ∀ (q : Str) (cl : List (Str × Addr)) (pm cv ctv : Value), bindArgs (PySem.W.kla_fn "<lambda>" q params body scope cl pm cv ctv) {} = pure [])
    (hb : ∀ (A : Around) (outer : List Env) (s : Shared) (H : Hp) (E : XK) (f c' : Addr), Room k (A.deeper (lamEnv X scope s.heap.objs.size f c')) → PE (lamCx X A outer s H E scope f c') body (t E))
    (g : ∀ Ha, ExtN H Ha → EndsAs X.K CL CN CM t σ Ha z) (e : ExtN H (minus (cellsOf X) Hx)) : MetAs X.prog X.w X.K X.mg X.base k CL CN CM f z Hx := by
  refine ⟨_, ⟨X, params, body, scope, pm, c', ctv, σ, t, rfl, rfl, rfl, rfl, rfl, hf, hn, hc, LS, inj, hfree, len, ck, cv, bd, hb, rfl⟩, fun H1 Q s1 kq => ?_⟩
  have eg : ExtN H (minus (cellsOf X) H1) := fun b o q n => by
    have r := e b o q n
    have c : b ∉ cellsOf X := fun z => by rw [minus_in z] at r; cases r
    rw [minus_out c] at r
    exact (minus_out c).trans (s1 b o r)
  have out : ∀ {H' : Hp} {w : Str}, (w : Str) ≠ "" → Same H1 (plus (cellsOf X) H1 H') → (z = w) → ∀ p, plus (cellsOf X) H1 H' p = none → Q (.ref p) (upd (plus (cellsOf X) H1 H') p (two tR (.str w))) := fun {H' w} hw s e p hp => by
    subst e
    refine kq _ p (s.trans (Same.new hp)) ?_
    rw [upd_same, due_word hw]
    rfl
  show t _ σ (minus (cellsOf X) H1) _
  cases g _ eg with
  | letters h => exact h _ _ fun H' s _ => .inl ⟨rfl, out (by decide) (same_plus s) rfl⟩
  | @number x z' sh l h =>
    refine h _ _ fun H' d s hd nn => .inr (.inl ⟨rfl, d, x, z', rfl, ?_, sh _ (same_in s hd), l, out (num_ne (by decide +kernel)) (same_plus2 s hd) rfl⟩)
    have c : d ∉ cellsOf X := fun q => by
      have := nn d q
      rw [upd_same] at this
      cases this
    exact (plus_out c).trans upd_same
  | @many i z' sh l h =>
    refine h _ _ fun H' d s hd nn => .inr (.inr ⟨rfl, d, .int i, z', rfl, ?_, sh _, l, out (num_ne (by decide +kernel)) (same_plus2 s hd) rfl⟩)
    have c : d ∉ cellsOf X := fun q => by
      have := nn d q
      rw [upd_same] at this
      cases this
    exact (plus_out c).trans upd_same
  | fine h =>
    refine h _ _ fun v H' s => ⟨by show 1 ≤ sizeLine; decide, fun p hp => ?_⟩
    refine kq _ p ((same_plus s).trans (Same.new hp)) ?_
    rw [upd_same, due_fine]
end K9
namespace K9
open PySem PySem.Spec PyProof.Rows L2 LamX
/-! ### what drawn data are for the program -/
def dbet (lo hi : Int) : PyData → Bool
  | .int i => betw (.int i) lo hi
  | _ => false
def d60 : PyData → Bool
  | .int i => i60 (.int i)
  | _ => false
def dtup (n : Nat) (lo hi : Int) : PyData → Bool
  | .tuple ds => decide (ds.length ≤ n) && ds.all (dbet lo hi)
  | _ => false
section
variable {K : PySem.W.Frag} {N : Addr → Prop} {H : Hp} {x : V} {xs : List V} {d : PyData} {ds : List PyData}
theorem Da.betw (h : Da N H x d) (lo hi : Int) : K9.betw x lo hi = dbet lo hi d := by cases h <;> rfl
theorem Da.i60 (h : Da N H x d) : K9.i60 x = d60 d := by cases h <;> rfl
theorem DaL.all_bet (lo hi : Int) : ∀ {xs : List V} {ds : List PyData}, DaL N H xs ds → (xs.all fun x => K9.betw x lo hi) = ds.all (dbet lo hi)
  | _, [], h => by cases h; rfl
  | _, d :: ds, h => by
    cases h with
    | cons h r => rw [List.all_cons, List.all_cons, h.betw, DaL.all_bet lo hi r]
theorem DaL.ints : ∀ {L : List Int} {xs : List V}, DaL N H xs (L.map PyData.int) → xs = iV L
  | [], _, h => by cases h; rfl
  | i :: L, _, h => by
    cases h with
    | cons h r =>
      cases h
      rw [DaL.ints r]
      rfl
theorem bet_ints {lo hi : Int} : ∀ {ds : List PyData}, ds.all (dbet lo hi) = true → ∃ L : List Int, ds = L.map PyData.int ∧ ∀ i ∈ L, lo ≤ i ∧ i ≤ hi
  | [], _ => ⟨[], rfl, fun _ h => nomatch h⟩
  | d :: ds, h => by
    rw [List.all_cons, Bool.and_eq_true] at h
    obtain ⟨L, e, q⟩ := bet_ints h.2
    cases d with
    | int i =>
      have b : (K9.i60 (.int i) && (decide (lo ≤ i) && decide (i ≤ hi))) = true := h.1
      rw [Bool.and_eq_true, Bool.and_eq_true] at b
      refine ⟨i :: L, by rw [e]; rfl, fun j hj => ?_⟩
      rcases List.mem_cons.mp hj with z | z
      · rw [z]
        exact ⟨of_decide_eq_true b.2.1, of_decide_eq_true b.2.2⟩
      · exact q j z
    | none => cases h.1
    | bool b => cases h.1
    | str z => cases h.1
    | list l => cases h.1
    | tuple l => cases h.1
    | dict l => cases h.1
theorem Da.tupIs (h : Da N H x d) (n : Nat) (lo hi : Int) : TupIs K H n lo hi x (dtup n lo hi d) := by
  cases h with
  | non => exact .non
  | bl b => exact .bl b
  | int i => exact .int i
  | str z => exact .str z
  | @tup a xs ds e h =>
    show TupIs K H n lo hi (.ref a) (decide (ds.length ≤ n) && ds.all (dbet lo hi))
    have l := h.len
    by_cases c : ds.length ≤ n
    · rw [decide_eq_true c, Bool.true_and, ← h.all_bet]
      exact .tup (SqT.of e) (by omega) fun y hy => h.vks hy
    · rw [decide_eq_false c, Bool.false_and]
      exact .long (SqT.of e) (by omega)
  | lst e n h => exact .lst e
  | dic e => exact .dic e
/-! ### words -/
def dv : PyData → V
  | .int i => .int i
  | .bool b => .bl b
  | .str z => .str z
  | _ => .non
def dsim : PyData → Bool
  | .int i => decide (i.natAbs < 2 ^ 300)
  | .bool _ => true
  | .str _ => true
  | .none => true
  | _ => false
def dsims : PyData → Bool
  | .tuple ds => ds.all dsim && decide (ds.length ≤ 1000)
  | _ => true
theorem DaL.simple : ∀ {xs : List V} {ds : List PyData}, ds.all dsim = true → DaL N H xs ds → xs = ds.map dv
  | _, [], _, h => by cases h; rfl
  | _, d :: ds, s, h => by
    rw [List.all_cons, Bool.and_eq_true] at s
    cases h with
    | cons h r =>
      rw [DaL.simple s.2 r, List.map_cons]
      congr 1
      cases h with
      | non => rfl
      | bl b => rfl
      | int i => rfl
      | str z => rfl
      | tup e h => cases s.1
      | lst e n h => cases s.1
      | dic e => cases s.1
/-! ### degrees -/
def dpar (p : Int) : PyData → Bool
  | .int i => decide (i % 2 = p)
  | _ => false
def ddeg (n : Nat) (lo hi p : Int) : PyData → Bool
  | .tuple ds => (decide (ds.length ≤ n) && ds.all (dbet lo hi)) && ds.all (dpar p)
  | _ => false
theorem par_ints (p : Int) : ∀ L : List Int, (L.map PyData.int).all (dpar p) = L.all fun d => decide (d % 2 = p)
  | [] => rfl
  | i :: L => by rw [List.map_cons, List.all_cons, List.all_cons, par_ints p L]; rfl
theorem Da.degIs (h : Da N H x d) (n : Nat) (lo hi p : Int) : DegIs K H n lo hi p x (ddeg n lo hi p d) := by
  cases h with
  | non => exact .no .non
  | bl b => exact .no (.bl b)
  | int i => exact .no (.int i)
  | str z => exact .no (.str z)
  | @tup a xs ds e h =>
    have t := Da.tupIs (K := K) (.tup e h) n lo hi
    have l := h.len
    show DegIs K H n lo hi p (.ref a) ((decide (ds.length ≤ n) && ds.all (dbet lo hi)) && ds.all (dpar p))
    cases c : (decide (ds.length ≤ n) && ds.all (dbet lo hi)) with
    | false =>
      rw [Bool.false_and]
      have t : TupIs K H n lo hi (.ref a) (decide (ds.length ≤ n) && ds.all (dbet lo hi)) := t
      rw [c] at t
      exact .no t
    | true =>
      rw [Bool.true_and]
      rw [Bool.and_eq_true] at c
      obtain ⟨L, rfl, inn⟩ := bet_ints c.2
      rw [par_ints]
      have ex := DaL.ints h
      subst ex
      exact .tup (SqT.of e) (by have := of_decide_eq_true c.1; rw [List.length_map] at this; exact this) inn
  | lst e n h => exact .no (.lst e)
  | dic e => exact .no (.dic e)
/-- no pair -/
def dnop : PyData → Bool
  | .tuple ds => decide (ds.length ≠ 2)
  | _ => true
theorem Da.noPair (h : Da N H x d) (e : dnop d = true) : NoPair K H x := by
  cases h with
  | non => exact .non
  | bl b => exact .bl b
  | int i => exact .int i
  | str z => exact .str z
  | @tup a xs ds g h => exact .tup (SqT.of g) (by rw [h.len]; exact of_decide_eq_true e)
  | lst g n h => exact .lst g
  | dic g => exact .dic g
/-! ### drawn data -/
theorem pick_dat {S : List Addr} {H : Hp} {σ : L2.St} {d : Addr} {L : List V} {ds : List PyData} {Q : VK} (h0 : σ[0]? = some (some (.ref d))) (hd : H d = some (.lst L)) (hL : DiceL L) (dS : d ∈ S) (hS : ∀ s ∈ S, H s ≠ none) (n0 : ds ≠ []) (n1 : ds.length < 1000)
    (k : ∀ x dx L' H', dx ∈ ds → Ds S H' x dx → Kq S H H' → H' d = some (.lst L') → DiceL L' → Q x H') : tCall spPick [] C8.E0 (tCons (tVar 0) (tCons (tDat (.list ds)) tNil)) σ H Q := by
  refine ⟨_, h0, fun x H1 s1 dn => ?_⟩
  cases dn with
  | @lst a xs _ e n h =>
    have hd1 := s1 _ _ hd
    have ne : a ≠ d := fun z => by
      rw [z] at n
      rw [hd] at n
      cases n
    have l := h.len
    refine ⟨d, a, xs, L, rfl, hd1, hL, e, ne, fun z => n0 (List.eq_nil_of_length_eq_zero (by rw [← l, z]; rfl)), by omega, fun y L' hy hL' => ?_⟩
    obtain ⟨dy, my, hy⟩ := h.mem hy
    have kw : Kq S H1 (upd H1 d (.lst L')) := .write dS hd1
    exact k y dy L' _ my ((Dn.apart hy hS).mono kw.kp) ((Kq.same s1).trans kw) upd_same hL'
end
end K9
namespace K9
open PySem PySem.Spec PyProof.Rows L2 LamX LamY
/-! ### a def that makes lambdas, has them met at once, or keeps them -/
structure LamB (X : Cx) (k : Nat) (params : Arguments) (body : Expr) (scope : Scope) (t : XK → TE) : Prop where
  ls : LamS X.env.scope scope
  fr : ∀ y ∈ scope.names, y.2 = NameKind.free → ∃ c, X.env.cells.lookup y.1 = some c
  bd : ∀ (q : Str) (cl : List (Str × Addr)) (pm cv ctv : Value), bindArgs (PySem.W.kla_fn "<lambda>" q params body scope cl pm cv ctv) {} = pure []
  hb : ∀ (A : Around) (outer : List Env) (s : Shared) (H : Hp) (E : XK) (f c' : Addr), Room k (A.deeper (lamEnv X scope s.heap.objs.size f c')) → PE (lamCx X A outer s H E scope f c') body (t E)
def LamAt (X : Cx) (params : Arguments) (body : Expr) (scope : Scope) (H : Hp) (f : Addr) : Prop := ∃ (pm : Value) (c' : Addr) (ctv : Value), H f = some (LamO (lamQ X) params body scope (cloFrom X.env.cells scope.names []) pm c' ctv) ∧ H c' = some (CodeO c' (lamQ X))
theorem LamAt.ext {X : Cx} {params : Arguments} {body : Expr} {scope : Scope} {H H' : Hp} {f : Addr} (h : LamAt X params body scope H f) (e : ExtN H H') : LamAt X params body scope H' f := by
  obtain ⟨pm, c', ctv, h1, h2⟩ := h
  exact ⟨pm, c', ctv, e _ _ h1 (fun _ z => nomatch z), e _ _ h2 fun _ z => by unfold CodeO at z; cases z⟩
def Inj (X : Cx) : Prop := ∀ (x y : Str) (c : Addr), X.env.cells.lookup x = some c → X.env.cells.lookup y = some c → x = y
theorem extN_minus {X : Cx} {H Hx : Hp} (n : ∀ b ∈ cellsOf X, H b = none) (out : ∀ b, b ∉ cellsOf X → Hx b = H b) : ExtN H (minus (cellsOf X) Hx) := fun b o e _ => by
  have c : b ∉ cellsOf X := fun z => by rw [n b z] at e; cases e
  exact (minus_out c).trans ((out b c).trans e)
section
variable {X : Cx} {T : List (Addr × Str)} {k : Nat} {params : Arguments} {body : Expr} {scope : Scope} {t : XK → TE} {σ : L2.St} {H Hx : Hp} {f CL CN CM : Addr} {z : Str}
theorem as_met (B : LamB X k params body scope t) (inj : Inj X) (len : σ.length = X.N.length) (a : LamAt X params body scope H f) (n : ∀ b ∈ cellsOf X, H b = none) (out : ∀ b, b ∉ cellsOf X → Hx b = H b) (ck : CellK X Hx) (cv : CellV X σ Hx) (g : ∀ Ha, ExtN H Ha → EndsAs X.K CL CN CM t σ Ha z) :
    MetAs X.prog X.w X.K X.mg X.base k CL CN CM f z Hx := by
  obtain ⟨pm, c', ctv, h1, h2⟩ := a
  have n1 : f ∉ cellsOf X := fun z => by rw [n f z] at h1; cases h1
  have n2 : c' ∉ cellsOf X := fun z => by rw [n c' z] at h2; cases h2
  exact met_as ((out f n1).trans h1) n1 ((out c' n2).trans h2) B.ls inj B.fr len ck cv B.bd B.hb g (extN_minus n out)
theorem lamAt_new {H1 : Hp} {pm : Value} {c' : Addr} {ctv : Value} (n : H1 f = none) (hc : H1 c' = some (CodeO c' (lamQ X))) : LamAt X params body scope (upd H1 f (LamO (lamQ X) params body scope (cloFrom X.env.cells scope.names []) pm c' ctv)) f :=
  ⟨pm, c', ctv, upd_same, by rw [upd_ne (ne_of_none hc n)]; exact hc⟩
theorem extN_new {H H1 : Hp} {o : HO} (e : ExtN H H1) (n : H1 f = none) : ExtN H (upd H1 f o) := fun b u q t => by
  have r := e b u q t
  rw [upd_ne (ne_of_none r n)]
  exact r
theorem tabs_minus {H1 H2 : Hp} (t : Tabs T H1) (n : ∀ b ∈ cellsOf X, H1 b = none) (out : ∀ b, b ∉ cellsOf X → Hx b = H1 b) (s : Same Hx H2) : Tabs T (minus (cellsOf X) H2) := fun p hp => (t p hp).ext fun b u e => by
  have c : b ∉ cellsOf X := fun z => by rw [n b z] at e; cases e
  exact (minus_out c).trans (s b u ((out b c).trans e))
abbrev tMetCall (X : Cx) (T : List (Addr × Str)) (k : Nat) (CL CN CM : Addr) (params : Arguments) (body : Expr) (scope : Scope) : TE := fun σ H Q => tCons (tLamV X T params body scope) tNil σ H fun vs H1 => (∀ b ∈ cellsOf X, H1 b = none) → ∀ Hx, (∀ b, b ∉ cellsOf X → Hx b = H1 b) → CellK X Hx → CellV X σ Hx →
  spMet X.prog X.w X.K X.mg X.base k CL CN CM vs Hx (fun v H2 => Q v (minus (cellsOf X) H2)) E0
theorem met_call {Q : VK} (B : LamB X k params body scope t) (inj : Inj X) (len : σ.length = X.N.length) (hT : Tabs T H) (g : ∀ Ha, ExtN H Ha → EndsAs X.K CL CN CM t σ Ha z) (q : ∀ H2 p, ExtN H H2 → Tabs T H2 → H2 p = some (.tup (dueV z)) → Q (.ref p) H2) :
    tMetCall X T k CL CN CM params body scope σ H Q := by
  refine ⟨hT, fun f c' pm ctv H1 e t1 nf hc n Hx out ck cv => ?_⟩
  have eF := extN_new (o := LamO (lamQ X) params body scope (cloFrom X.env.cells scope.names []) pm c' ctv) e nf
  obtain ⟨tl, L, tm⟩ := as_met (CL := CL) (CN := CN) (CM := CM) (z := z) B inj len (lamAt_new nf hc) n out ck cv fun Ha ea => g Ha fun b o q t => ea b o (eF b o q t) t
  refine ⟨f, tl, rfl, L, tm Hx _ (Same.refl _) fun H2 p s2 hp => q _ p (fun b o qq t => ?_) (tabs_minus (tabs_known (H := H1) t1 nf) n out s2) ?_⟩
  · have r := eF b o qq t
    have c : b ∉ cellsOf X := fun z => by rw [n b z] at r; cases r
    exact (minus_out c).trans (s2 b o ((out b c).trans r))
  · refine (minus_out fun z => ?_).trans hp
    obtain ⟨o, _, g1, _⟩ := ck p z
    rw [s2 _ _ g1] at hp
    cases hp
end
end K9
namespace K9
open PySem PySem.Spec PyProof.Rows L2 LamX LamY
/-! ### a call of a def that a variable holds -/
theorem fn_wide {P : Program} {w : World} {K : PySem.W.Frag} {mg : Str → Option Value} {base : Heap} {k : Nat} {f : Addr} {fd : FuncData} {ps : List Str} {sp : Sp} (F : FnOk P w K mg base CX0 k f fd ps sp) : FnOk P w K mg base (L2.CX P w) k f fd ps sp :=
  ⟨F.len, fun A outer s H args us vs Q E hr e0 hb r h => codeAny_mono (F.run A outer s H args us vs Q E hr e0 hb r h) fun r' s' q => by
    cases r' with
    | error e => exact q.elim
    | ok fl =>
      cases fl with
      | ret u => exact q
      | next => exact q.elim
      | brk => exact q.elim
      | cont => exact q.elim⟩
def tCallV (Z : Cx) (k i : Nat) (t : TA) (E : XK) : TE := fun σ H Q => ∃ (f : Addr) (fd : FuncData) (ps : List Str) (sp : Sp), σ[i]? = some (some (.ref f)) ∧ FnOk Z.prog Z.w Z.K Z.mg Z.base (L2.CX Z.prog Z.w) k f fd ps sp ∧ PySem.W.keepIn Z.K (.ref f) = true ∧ Binds Z.K fd ps [] ∧ t σ H fun vs H1 => sp vs H1 Q E
theorem pe_callV {Z : Cx} {k i : Nat} {E : XK} {a : Str} {p1 p2 : Pos} {e : Expr} {es : List Expr} {t : TA} (hps : Passes (L2.CX Z.prog Z.w) Z E) (hr : Room k Z.A) (ha : PA Z (e :: es) t) (hN : Z.N[i]? = some a := by rfl) (hv : Vis Z.env.scope a := by exact .inr (.inr rfl)) (hd1 : (a == ("__debug__" : Str)) = false := by decide) (hd2 : (a == ("__classdict__" : Str)) = false := by decide)
    (he : starEach (e :: es) Z.env = (false, eval e Z.env) :: starEach es Z.env := by rfl) (hpl : (backTo p2 (starEach es Z.env)).any (·.1) = false := by rfl) : PE Z (.Call (.Name a p1) (e :: es) [] p2) (tCallV Z k i t E) := by
  refine ⟨fun pins s σ H Q I h => ?_⟩
  obtain ⟨f, fd, ps, sp, hi, F, hk, hb, q⟩ := h
  refine wpAny_Call_Name_kw (thn ((pv (X := Z) (pos := p1) i hN hv hd1 hd2).run pins s σ H (fun v H1 => v = .ref f ∧ H1 = H) I ⟨_, hi, rfl, rfl⟩) fun u s1 z => ?_)
  obtain ⟨v, H1, I1, rv, rfl, rfl⟩ := z
  obtain rfl : u = Value.ref f := rv
  refine PySem.W.callWith_K (h₀ := Z.base) I1.ok.mod.kin hk (thn (ha.run p2 pins s1 σ _ _ I1 q) fun us s2 ⟨vs, H2, I2, r, q2⟩ => ⟨I2.kIn, run_fn F hr hb (dvs := []) .nil hps I2 r (by rw [List.append_nil]; exact q2)⟩) he hpl
/-! ### the two ways in which a maker hands its lambdas on -/
def KeptL (X : Cx) (k : Nat) (t : XK → TE) (H : Hp) (f : Addr) : Prop := ∃ params body scope, LamB X k params body scope t ∧ LamAt X params body scope H f
theorem KeptL.ext {X : Cx} {k : Nat} {t : XK → TE} {H H' : Hp} {f : Addr} (h : KeptL X k t H f) (e : ExtN H H') : KeptL X k t H' f := by
  obtain ⟨params, body, scope, B, a⟩ := h
  exact ⟨params, body, scope, B, a.ext e⟩
theorem KeptL.write {X : Cx} {k : Nat} {t : XK → TE} {H : Hp} {f l : Addr} {xs : List V} {o : HO} (h : KeptL X k t H f) (e : H l = some (.lst xs)) : KeptL X k t (upd H l o) f := by
  obtain ⟨params, body, scope, B, pm, c', ctv, h1, h2⟩ := h
  refine ⟨params, body, scope, B, pm, c', ctv, ?_, ?_⟩
  · rw [upd_ne fun z => by rw [z, e] at h1; cases h1]
    exact h1
  · rw [upd_ne fun z => by rw [z, e] at h2; unfold CodeO at h2; cases h2]
    exact h2
def tKeep (X : Cx) (T : List (Addr × Str)) (k : Nat) (t : XK → TE) : TE := fun _ H Q => Tabs T H ∧ ∀ f H2, ExtN H H2 → Tabs T H2 → KeptL X k t H2 f → Q (.ref f) H2
def tMet2 (X : Cx) (T : List (Addr × Str)) (CL CN CM : Addr) (t : XK → TE) : TE := fun σ H Q => Tabs T H ∧ σ.length = X.N.length ∧ ∃ z : Str, (∀ Ha, ExtN H Ha → EndsAs X.K CL CN CM t σ Ha z) ∧ ∀ H2 p, ExtN H H2 → Tabs T H2 → H2 p = some (.tup (dueV z)) → Q (.ref p) H2
theorem pe_impL {X : Cx} {e : Expr} {t t' : TE} (h : PE X e t) (i : ∀ σ H Q, t' σ H Q → t σ H Q) : PE X e t' := ⟨fun pins s σ H Q I q => h.run pins s σ H Q I (i _ _ _ q)⟩
section
variable {X : Cx} {T : List (Addr × Str)} {c P : Addr} {k : Nat} {CL CN CM : Addr} {params : Arguments} {body : Expr} {scope : Scope} {t : XK → TE}
theorem pe_keep {pos : Pos} (B : LamB X k params body scope t) (TB : TabB X.base X.mg c P) (hcode : X.env.code = .ref c) (hm : (P, lamQ X) ∈ T) (hu : ∀ p ∈ T, p.1 = P → p.2 = lamQ X) (hdef : defaultsOf params X.env = ([], [])) :
    PE X (.Lambda params body scope pos) (tKeep X T k t) :=
  pe_impL (pe_lamval TB hcode hm hu hdef B.fr) fun σ H Q h => ⟨h.1, fun f c' pm ctv H1 e t1 n hc => h.2 f _ (extN_new e n) (tabs_known (H := H1) t1 n) ⟨params, body, scope, B, lamAt_new n hc⟩⟩
theorem pe_met2 {fM : Addr} {dM : FuncData} {p lpos pos : Pos} (B : LamB X k params body scope t) (TB : TabB X.base X.mg c P) (hcode : X.env.code = .ref c) (hm : (P, lamQ X) ∈ T) (hu : ∀ p ∈ T, p.1 = P → p.2 = lamQ X) (hdef : defaultsOf params X.env = ([], []))
    (FM : LamY.FnG X.prog X.w X.K X.mg X.base CX0 (k + 2) fM dM ["call"] (spMet X.prog X.w X.K X.mg X.base k CL CN CM)) (hgd : X.A.guards = some []) (hr : Room (k + 2) X.A) (hg : Gl X "_law_met") (gM : X.mg "_law_met" = some (.ref fM)) (kM : PySem.W.keepIn X.K (.ref fM) = true) (bM : Binds X.K dM ["call"] [])
    (hcl : Cells X) (hfn : ∀ y, X.fn y = true) (hvis : ∀ y c, X.env.cells.lookup y = some c → X.env.scope.names.lookup y = some NameKind.cell) (inj : Inj X) :
    PE X (.Call (.Name "_law_met" p) [.Lambda params body scope lpos] [] pos) (tMet2 X T CL CN CM t) :=
  pe_impL (pe_callC FM hgd hr hg gM kM bM hcl hfn hvis (pa_cons (pe_lamval TB hcode hm hu hdef B.fr) pa_nil)) fun σ H Q h => by
    obtain ⟨hT, len, z, g, q⟩ := h
    exact met_call B inj len hT g q
theorem kept_met {σ : L2.St} {H Hx : Hp} {f : Addr} {z : Str} (h : KeptL X k t H f) (inj : Inj X) (len : σ.length = X.N.length) (n : ∀ b ∈ cellsOf X, H b = none) (out : ∀ b, b ∉ cellsOf X → Hx b = H b) (ck : CellK X Hx) (cv : CellV X σ Hx) (g : ∀ Ha, ExtN H Ha → EndsAs X.K CL CN CM t σ Ha z) :
    MetAs X.prog X.w X.K X.mg X.base k CL CN CM f z Hx := by
  obtain ⟨params, body, scope, B, a⟩ := h
  exact as_met B inj len a n out ck cv g
end
end K9
namespace K9
open PySem PySem.Spec PyProof.Rows L2 LamX LamY
/-! ### what the law's data say -/
theorem pw10 {k : Int} (h1 : 0 ≤ k) (h2 : k ≤ 1000000) : CPow 10 k := ⟨h1, h2, by decide⟩
theorem of_not {b : Bool} (h : (!b) = true) : b = false := by rw [Bool.not_eq_true'] at h; exact h
/-- no integer above sixty digits is shown; the text is short -/
def showOk (d : PyData) : Bool := d.showable && !d.hasDict && decide (d.depth ≤ 60) && decide (d.shown.length ≤ 900)
theorem Da.shown {K : PySem.W.Frag} {N : Addr → Prop} {H : Hp} {x : V} {d : PyData} (h : Da N H x d) (o : showOk d = true) : Shown K H x d.shown ∧ d.shown.length ≤ 900 := by
  unfold showOk at o
  simp only [Bool.and_eq_true, Bool.not_eq_true', decide_eq_true_eq] at o
  exact ⟨⟨d, Da.dp d x o.1.1.2 h, o.1.1.1, o.1.1.2, o.1.2, sl (by omega), rfl⟩, o.2⟩
abbrev NoL : Addr → Prop := fun _ => False
def fineO (d : PyData) : Bool := showOk d && (PyData.str ("number " ++ d.shown)).canLay0
theorem fineO_show {d : PyData} (h : fineO d = true) : showOk d = true := (Bool.and_eq_true_iff.mp h).1
theorem fineO_lay {d : PyData} (h : fineO d = true) : (PyData.str ("number " ++ d.shown)).canLay0 = true := (Bool.and_eq_true_iff.mp h).2
theorem deg2 {K : PySem.W.Frag} {H : Hp} {u : Addr} (h : SqT K H u (iV [2])) : DegIs K H 6 2 40 0 (.ref u) true := DegIs.tup (L := [2]) h (by decide) (by decide)
/-- a pair of tuples of ints -/
def dints : List PyData → Option (List Int)
  | [] => some []
  | .int i :: r => (dints r).map (i :: ·)
  | _ => none
def dpair : PyData → Option (List Int × List Int)
  | .tuple [.tuple a, .tuple b] => match dints a, dints b with
    | some x, some y => some (x, y)
    | _, _ => none
  | _ => none
theorem dints_eq : ∀ {ds : List PyData} {L : List Int}, dints ds = some L → ds = L.map PyData.int
  | [], _, h => by cases h; rfl
  | .int i :: r, L, h => by
    obtain ⟨M, e, rfl⟩ := Option.map_eq_some_iff.mp h
    rw [dints_eq e]
    rfl
  | .none :: r, _, h => by cases h
  | .bool _ :: r, _, h => by cases h
  | .str _ :: r, _, h => by cases h
  | .list _ :: r, _, h => by cases h
  | .tuple _ :: r, _, h => by cases h
  | .dict _ :: r, _, h => by cases h
def evB (E : List Int) : Bool := decide (E.length ≤ 6) && E.all fun e => decide (2 ≤ e) && decide (e ≤ 40) && decide (e % 2 = 0)
def odB (E : List Int) : Bool := decide (E.length ≤ 10) && E.all fun e => decide (3 ≤ e) && decide (e ≤ 40) && decide (e % 2 = 1)
theorem evB_ev {E : List Int} (h : evB E = true) : Ev E := by
  unfold evB at h
  simp only [Bool.and_eq_true, decide_eq_true_eq, List.all_eq_true] at h
  exact ⟨h.1, fun e he => (h.2 e he).1, fun e he => (h.2 e he).2⟩
theorem odB_od {E : List Int} (h : odB E = true) : Od E := by
  unfold odB at h
  simp only [Bool.and_eq_true, decide_eq_true_eq, List.all_eq_true] at h
  exact ⟨h.1, fun e he => (h.2 e he).1, fun e he => (h.2 e he).2⟩
def manyOk (i : Int) (d : PyData) : Bool :=
  match dpair d with
  | some (E, O) => evB E && odB O && decide (0 ≤ bndI (E ++ O) + 1) && decide (lotsEnd E O = some i)
  | none => false
def PairMany (K : PySem.W.Frag) (H : Hp) (x : V) (i : Int) : Prop := ∃ (t a b : Addr) (EV OD : List Int), x = .ref t ∧ SqT K H t [.ref a, .ref b] ∧ SqT K H a (iV EV) ∧ SqT K H b (iV OD) ∧ Ev EV ∧ Od OD ∧ 0 ≤ bndI (EV ++ OD) + 1 ∧ lotsEnd EV OD = some i
theorem Da.pairMany {K : PySem.W.Frag} {N : Addr → Prop} {H : Hp} {x : V} {d : PyData} {i : Int} (h : Da N H x d) (m : manyOk i d = true) : PairMany K H x i := by
  unfold manyOk at m
  split at m
  · rename_i E O e
    simp only [Bool.and_eq_true, decide_eq_true_eq] at m
    unfold dpair at e
    split at e
    · rename_i a b
      split at e
      · rename_i x' y' e1 e2
        cases e
        rw [dints_eq e1, dints_eq e2] at h
        cases h with
        | @tup t xs ds g h =>
          cases h with
          | cons h1 r =>
            cases r with
            | cons h2 r =>
              cases r
              cases h1 with
              | @tup a1 ys1 ds1 g1 q1 =>
                cases h2 with
                | @tup a2 ys2 ds2 g2 q2 =>
                  have z1 := DaL.ints q1
                  have z2 := DaL.ints q2
                  subst z1 z2
                  exact ⟨t, a1, a2, E, O, rfl, SqT.of g, SqT.of g1, SqT.of g2, evB_ev m.1.1.1, odB_od m.1.1.2, m.1.2, m.2⟩
      · cases e
    · cases e
  · cases m
def spWR (T : List (Addr × Str)) : Sp := fun vs H Q _ => ∃ (d : Addr) (L : List V), vs = [.ref d] ∧ H d = some (.lst L) ∧ DiceL L ∧ Tabs T H ∧ ∀ H' L', (∀ b o, b ≠ d → H b = some o → NoTbl o → H' b = some o) → H' d = some (.lst L') → DiceL L' → Tabs T H' → Q (.bl true) H'
end K9
namespace K9
open PySem PySem.Spec PyProof.Rows L2 LamX LamY
abbrev nDR : List Str := ["dice", "evens", "odds", "call", "told", "calls"]
theorem scDR : FnScope nDR ["dice"] (defScope sLawDegreesRight) := ⟨rfl, rfl, rfl, by decide +kernel, rfl, by decide +kernel, by decide +kernel⟩
def qDR : Str := (envOfC "_law_degrees_right" (defScope sLawDegreesRight) 0 0 .none).qual ++ ("<lambda>" : Str)
def evD : List PyData := [.none, .int 2, .list [.int 2], .tuple [.int 3], .tuple [.int 0], .tuple [.int 42], .tuple (List.replicate (7 : Int).toNat [.int 2]).flatten, .tuple [.bool true], .tuple [.str "2"], .tuple [.int 2, .int 4, .int 5], .dict [], .tuple [.int (-2)], .tuple [.tuple [.int 2]]]
def odD : List PyData := [.none, .int 3, .list [.int 3], .tuple [.int 4], .tuple [.int 1], .tuple [.int 41], .tuple (List.replicate (11 : Int).toNat [.int 3]).flatten, .tuple [.bool true], .tuple [.str "3"], .tuple [.int 3, .int 5, .int 6], .dict [], .tuple [.int (-3)], .tuple [.tuple [.int 3]]]
theorem evD_ok : evD.all (fun d => !ddeg 6 2 40 0 d && dnop d) = true := by decide +kernel
theorem odD_ok : odD.all (fun d => !ddeg 10 3 40 1 d) = true := by decide +kernel
section
variable {P : Program} {w : World} {K : PySem.W.Frag} {mg : Str → Option Value} {base : Heap} {CL CN CM fPi fMe fAr fBa fCa fDe fPB : Addr} {dPi dMe dAr dBa dCa dDe dPB : FuncData}
theorem ok_dr {f c P1 : Addr} {T : List (Addr × Str)} {kV doc pm ct oc : Value} {an od : Option Addr} {osl : Array (Option Value)} (mT : (P1, qDR) ∈ T) (uT : ∀ p ∈ T, p.1 = P1 → p.2 = qDR)
    (lk : K.lookup f = some ⟨oc, od, .func (PySem.W.fnOf "_law_degrees_right" "_law_degrees_right" (defArgs sLawDegreesRight) (defBody sLawDegreesRight) (defScope sLawDegreesRight) .none kV doc pm an (.ref c) ct), osl⟩)
    (hcd : PySem.W.codeIn K (.ref c) "_law_degrees_right" = true) (TB : TabB base mg c P1)
    (gPi : mg "_law_pick" = some (.ref fPi)) (kPi : PySem.W.keepIn K (.ref fPi) = true) (bPi : Binds K dPi ["dice", "items"] []) (FPi : FnOk P w K mg base CX0 2 fPi dPi ["dice", "items"] spPick)
    (gMe : mg "_law_met" = some (.ref fMe)) (kMe : PySem.W.keepIn K (.ref fMe) = true) (bMe : Binds K dMe ["call"] []) (FMe : LamY.FnG P w K mg base CX0 14 fMe dMe ["call"] (spMet P w K mg base 12 CL CN CM))
    (gAr : mg "_law_are_met" = some (.ref fAr)) (kAr : PySem.W.keepIn K (.ref fAr) = true) (bAr : Binds K dAr ["calls", "due"] []) (FAr : LamY.FnG P w K mg base CX0 15 fAr dAr ["calls", "due"] (spAre P w K mg base 12 CL CN CM))
    (gBa : mg "barring_lots" = some (.ref fBa)) (kBa : PySem.W.keepIn K (.ref fBa) = true) (bBa : Binds K dBa ["evens", "odds"] []) (FBa : FnOk P w K mg base (L2.CX P w) 6 fBa dBa ["evens", "odds"] (spBadD K CL)) (FBaF : FnOk P w K mg base CX0 6 fBa dBa ["evens", "odds"] (spBarring K))
    (gCa : mg "can_end" = some (.ref fCa)) (kCa : PySem.W.keepIn K (.ref fCa) = true) (bCa : Binds K dCa ["evens", "odds"] []) (FCa : FnOk P w K mg base (L2.CX P w) 6 fCa dCa ["evens", "odds"] (spBadD K CL)) (FCaF : FnOk P w K mg base CX0 6 fCa dCa ["evens", "odds"] (spCanEnd K))
    (gDe : mg "degrees_paper" = some (.ref fDe)) (kDe : PySem.W.keepIn K (.ref fDe) = true) (bDe : Binds K dDe ["evens", "odds"] []) (FDe : FnOk P w K mg base (L2.CX P w) 12 fDe dDe ["evens", "odds"] (spBadD K CL)) (FDeF : FnOk P w K mg base (L2.CX P w) 12 fDe dDe ["evens", "odds"] (spFineD K))
    (gPB : mg "is_degrees_paper" = some (.ref fPB)) (kPB : PySem.W.keepIn K (.ref fPB) = true) (bPB : Binds K dPB ["evens", "odds", "value"] []) (FPB : FnOk P w K mg base (L2.CX P w) 12 fPB dPB ["evens", "odds", "value"] (spBadD3 K CL)) (FPN : FnOk P w K mg base (L2.CX P w) 12 fPB dPB ["evens", "odds", "value"] (spNoPair K)) :
    LamY.FnG P w K mg base CX0 16 f (PySem.W.fnOf "_law_degrees_right" "_law_degrees_right" (defArgs sLawDegreesRight) (defBody sLawDegreesRight) (defScope sLawDegreesRight) .none kV doc pm an (.ref c) ct) ["dice"] (spWR T) := by
  refine ⟨fun vs H Q E h => ?_, fun A outer s H args us vs Q E hgd hr e0 hb r h => ?_⟩
  · obtain ⟨d, L, rfl, _⟩ := h; rfl
  have hlen : vs.length = (["dice"] : List Str).length := by obtain ⟨d, L, rfl, _⟩ := h; rfl
  refine run_ofS (N := nDR) (k := 15) lk hcd scDR hr e0 hb r hlen fun hr => ?_
  obtain ⟨d, L, rfl, hd, hL, hT, k⟩ := h
  have hr2 : Room 2 _ := hr.mono (by decide)
  have gPN := gPB
  have kPN := kPB
  have bPN := bPB
  have ec : (cxOf CX0 P w K mg base nDR "_law_degrees_right" (defScope sLawDegreesRight) f (.ref c) A outer s H E).nox.env.cells = [(("odds" : Str), s.heap.objs.size + 1 + 1 + 1), ("evens", s.heap.objs.size + 1 + 1), ("call", s.heap.objs.size + 1)] := rfl
  have mem4 : ∀ {p q1 q2 q3 : Str × Addr}, p ∈ [q1, q2, q3] → p = q1 ∨ p = q2 ∨ p = q3 := fun {p q1 q2 q3} h => by simpa using h
  have hcl : Cells (cxOf CX0 P w K mg base nDR "_law_degrees_right" (defScope sLawDegreesRight) f (.ref c) A outer s H E).nox := fun p hp => by
    rw [ec] at hp ⊢
    rcases mem4 hp with e | e | e <;> subst e <;> rfl
  have hfn : ∀ y, (cxOf CX0 P w K mg base nDR "_law_degrees_right" (defScope sLawDegreesRight) f (.ref c) A outer s H E).nox.fn y = true := fun _ => rfl
  have hvis : ∀ y c', (cxOf CX0 P w K mg base nDR "_law_degrees_right" (defScope sLawDegreesRight) f (.ref c) A outer s H E).nox.env.cells.lookup y = some c' → (cxOf CX0 P w K mg base nDR "_law_degrees_right" (defScope sLawDegreesRight) f (.ref c) A outer s H E).nox.env.scope.names.lookup y = some NameKind.cell := fun y c' e => by
    rw [ec] at e
    rcases mem4 (PySem.mem_of_lookup e) with e | e | e <;> cases e <;> rfl
  have hinj : Inj (cxOf CX0 P w K mg base nDR "_law_degrees_right" (defScope sLawDegreesRight) f (.ref c) A outer s H E).nox := fun x y c' e1 e2 => by
    rw [ec] at e1 e2
    rcases mem4 (PySem.mem_of_lookup e1) with h | h | h <;> rcases mem4 (PySem.mem_of_lookup e2) with g | g | g <;> first
      | exact (congrArg Prod.fst h).trans (congrArg Prod.fst g).symm
      | (have a1 : c' = _ := congrArg Prod.snd h; have a2 : c' = _ := congrArg Prod.snd g; exact absurd (a1.symm.trans a2) (by generalize s.heap.objs.size = n; show ¬ (_ : Nat) = _; omega))
  have hcell : ∀ y : Str, (defScope sLawDegreesRight).names.lookup y = some .cell → ∃ c, (cxOf CX0 P w K mg base nDR "_law_degrees_right" (defScope sLawDegreesRight) f (.ref c) A outer s H E).nox.env.cells.lookup y = some c := fun y e => by
    have h : ((defScope sLawDegreesRight).names.all fun y => !decide (y.2 = .cell) || ((cxOf CX0 P w K mg base nDR "_law_degrees_right" (defScope sLawDegreesRight) f (.ref c) A outer s H E).nox.env.cells.lookup y.1).isSome) = true := rfl
    have h1 := List.all_eq_true.mp h _ (PySem.mem_of_lookup e)
    exact Option.isSome_iff_exists.mp h1
  have fr : ∀ {scope : Scope}, ((scope.names.all fun y => !decide (y.2 = NameKind.free) || decide ((defScope sLawDegreesRight).names.lookup y.1 = some .cell)) = true) → ∀ y ∈ scope.names, y.2 = NameKind.free → ∃ c, (cxOf CX0 P w K mg base nDR "_law_degrees_right" (defScope sLawDegreesRight) f (.ref c) A outer s H E).nox.env.cells.lookup y.1 = some c := fun {scope} h y hy e => by
    have h1 := List.all_eq_true.mp h y hy
    rw [e] at h1
    exact hcell _ (of_decide_eq_true h1)
  have bld : ∀ {params : Arguments} {body : Expr} {scope : Scope} {t : XK → TE}, lamSB (defScope sLawDegreesRight) scope = true → ((scope.names.all fun y => !decide (y.2 = NameKind.free) || decide ((defScope sLawDegreesRight).names.lookup y.1 = some .cell)) = true) →
      (∀ (q : Str) (cl : List (Str × Addr)) (pm cv ctv : Value), bindArgs (PySem.W.kla_fn "<lambda>" q params body scope cl pm cv ctv) {} = pure []) →
      (∀ (A' : Around) (outer' : List Env) (s' : Shared) (H' : Hp) (E' : XK) (f' c' : Addr), Room 12 (A'.deeper (lamEnv (cxOf CX0 P w K mg base nDR "_law_degrees_right" (defScope sLawDegreesRight) f (.ref c) A outer s H E).nox scope s'.heap.objs.size f' c')) → PE (lamCx (cxOf CX0 P w K mg base nDR "_law_degrees_right" (defScope sLawDegreesRight) f (.ref c) A outer s H E).nox A' outer' s' H' E' scope f' c') body (t E')) →
      LamB (cxOf CX0 P w K mg base nDR "_law_degrees_right" (defScope sLawDegreesRight) f (.ref c) A outer s H E).nox 12 params body scope t := fun h1 h2 h3 h4 => ⟨lamS_by h1, fr h2, h3, h4⟩
  have mc : ∀ {params : Arguments} {body : Expr} {scope : Scope} {t : XK → TE} {p lpos pos : Pos}, lamSB (defScope sLawDegreesRight) scope = true → ((scope.names.all fun y => !decide (y.2 = NameKind.free) || decide ((defScope sLawDegreesRight).names.lookup y.1 = some .cell)) = true) → defaultsOf params (cxOf CX0 P w K mg base nDR "_law_degrees_right" (defScope sLawDegreesRight) f (.ref c) A outer s H E).nox.env = ([], []) →
      (∀ (q : Str) (cl : List (Str × Addr)) (pm cv ctv : Value), bindArgs (PySem.W.kla_fn "<lambda>" q params body scope cl pm cv ctv) {} = pure []) →
      (∀ (A' : Around) (outer' : List Env) (s' : Shared) (H' : Hp) (E' : XK) (f' c' : Addr), Room 12 (A'.deeper (lamEnv (cxOf CX0 P w K mg base nDR "_law_degrees_right" (defScope sLawDegreesRight) f (.ref c) A outer s H E).nox scope s'.heap.objs.size f' c')) → PE (lamCx (cxOf CX0 P w K mg base nDR "_law_degrees_right" (defScope sLawDegreesRight) f (.ref c) A outer s H E).nox A' outer' s' H' E' scope f' c') body (t E')) →
      PE (cxOf CX0 P w K mg base nDR "_law_degrees_right" (defScope sLawDegreesRight) f (.ref c) A outer s H E).nox (.Call (.Name "_law_met" p) [.Lambda params body scope lpos] [] pos) (tMet2 (cxOf CX0 P w K mg base nDR "_law_degrees_right" (defScope sLawDegreesRight) f (.ref c) A outer s H E).nox T CL CN CM t) := fun h1 h2 h0 h3 h4 => pe_met2 (k := 12) (bld h1 h2 h3 h4) TB rfl mT uT h0 FMe hgd (hr.mono (by decide)) (by rfl) gMe kMe bMe hcl hfn hvis hinj
  have lv : ∀ {params : Arguments} {body : Expr} {scope : Scope} {t : XK → TE} {lpos : Pos}, lamSB (defScope sLawDegreesRight) scope = true → ((scope.names.all fun y => !decide (y.2 = NameKind.free) || decide ((defScope sLawDegreesRight).names.lookup y.1 = some .cell)) = true) → defaultsOf params (cxOf CX0 P w K mg base nDR "_law_degrees_right" (defScope sLawDegreesRight) f (.ref c) A outer s H E).nox.env = ([], []) →
      (∀ (q : Str) (cl : List (Str × Addr)) (pm cv ctv : Value), bindArgs (PySem.W.kla_fn "<lambda>" q params body scope cl pm cv ctv) {} = pure []) →
      (∀ (A' : Around) (outer' : List Env) (s' : Shared) (H' : Hp) (E' : XK) (f' c' : Addr), Room 12 (A'.deeper (lamEnv (cxOf CX0 P w K mg base nDR "_law_degrees_right" (defScope sLawDegreesRight) f (.ref c) A outer s H E).nox scope s'.heap.objs.size f' c')) → PE (lamCx (cxOf CX0 P w K mg base nDR "_law_degrees_right" (defScope sLawDegreesRight) f (.ref c) A outer s H E).nox A' outer' s' H' E' scope f' c') body (t E')) →
      PE (cxOf CX0 P w K mg base nDR "_law_degrees_right" (defScope sLawDegreesRight) f (.ref c) A outer s H E).nox (.Lambda params body scope lpos) (tKeep (cxOf CX0 P w K mg base nDR "_law_degrees_right" (defScope sLawDegreesRight) f (.ref c) A outer s H E).nox T 12 t) := fun h1 h2 h0 h3 h4 => pe_keep (bld h1 h2 h3 h4) TB rfl mT uT h0
  suffices hx : ∃ t, PSs (cxOf CX0 P w K mg base nDR "_law_degrees_right" (defScope sLawDegreesRight) f (.ref c) A outer s H E).nox (defBody sLawDegreesRight) t ∧ t { nx := fun _ H' => Q .non H', rt := Q } (L2.start nDR [.ref d]) H by
    obtain ⟨t, ht, hq⟩ := hx
    exact ⟨t, ht.nox, hq⟩
  refine ⟨_, (pss_cons (ps_set (i := 1) scDR.nd rfl (.inr rfl) (pe_call FPi hr2 (by rfl) gPi kPi bPi .nil pass0 (pa_cons (pv 0) (pa_cons (pd_lst (pds_cons pd_non (pds_cons pd_int (pds_cons (pd_lst (pds_cons pd_int pds_nil)) (pds_cons (pd_tup (pds_cons pd_int pds_nil)) (pds_cons (pd_tup (pds_cons pd_int pds_nil)) (pds_cons (pd_tup (pds_cons pd_int pds_nil)) (pds_cons (pd_rep (pd_tup (pds_cons pd_int pds_nil))) (pds_cons (pd_tup (pds_cons pd_bl pds_nil)) (pds_cons (pd_tup (pds_cons pd_str pds_nil)) (pds_cons (pd_tup (pds_cons pd_int (pds_cons pd_int (pds_cons pd_int pds_nil)))) (pds_cons pd_dic (pds_cons (pd_tup (pds_cons pd_neg pds_nil)) (pds_cons (pd_tup (pds_cons (pd_tup (pds_cons pd_int pds_nil)) pds_nil)) pds_nil)))))))))))))) pa_nil))))
    (pss_cons (ps_set (i := 2) scDR.nd rfl (.inr rfl) (pe_call FPi hr2 (by rfl) gPi kPi bPi .nil pass0 (pa_cons (pv 0) (pa_cons (pd_lst (pds_cons pd_non (pds_cons pd_int (pds_cons (pd_lst (pds_cons pd_int pds_nil)) (pds_cons (pd_tup (pds_cons pd_int pds_nil)) (pds_cons (pd_tup (pds_cons pd_int pds_nil)) (pds_cons (pd_tup (pds_cons pd_int pds_nil)) (pds_cons (pd_rep (pd_tup (pds_cons pd_int pds_nil))) (pds_cons (pd_tup (pds_cons pd_bl pds_nil)) (pds_cons (pd_tup (pds_cons pd_str pds_nil)) (pds_cons (pd_tup (pds_cons pd_int (pds_cons pd_int (pds_cons pd_int pds_nil)))) (pds_cons pd_dic (pds_cons (pd_tup (pds_cons pd_neg pds_nil)) (pds_cons (pd_tup (pds_cons (pd_tup (pds_cons pd_int pds_nil)) pds_nil)) pds_nil)))))))))))))) pa_nil))))
    (pss_cons (ps_for PassesOwn.never rfl (pi_tup (pe_tup (pa_cons (pe_glob (v := .ref fBa) (by rfl) gBa rfl) (pa_cons (pe_glob (v := .ref fCa) (by rfl) gCa rfl) (pa_cons (pe_glob (v := .ref fDe) (by rfl) gDe rfl) pa_nil))))) (pg_name (i := 3) scDR.nd rfl (.inr rfl))
    (pss_cons (ps_set (i := 4) scDR.nd rfl (.inl rfl) (pe_lst (pa_cons (mc (t := (fun E' => tCallV (cxOf CX0 P w K mg base nDR "_law_degrees_right" (defScope sLawDegreesRight) f (.ref c) A outer s H E).nox 12 3 (tCons (tVar 1) (tCons (tVar 2) tNil)) E')) (by decide +kernel) (by decide +kernel) (by rfl) (fun _ _ _ _ _ => rfl) (fun A' o' s' H' E' f' c' rm => pe_callV (k := 12) (i := 3) (E := E') (passes_call (E := E') (takes_of rfl rfl rfl rfl) (fun _ _ _ _ h => h)) rm (by exact (pa_cons (pv 1) (pa_cons (pv 2) pa_nil))))) pa_nil)))
    (pss_cons (ps_expr (pe_bm PySem.F.plainAttrs_list PySem.F.slot_list_append PySem.F.type_list_append mt_append (pv 4) (pa_cons (mc (t := (fun E' => tCallV (cxOf CX0 P w K mg base nDR "_law_degrees_right" (defScope sLawDegreesRight) f (.ref c) A outer s H E).nox 12 3 (tCons (tVar 1) (tCons (tTup (tCons (tC (.int 3)) tNil)) tNil)) E')) (by decide +kernel) (by decide +kernel) (by rfl) (fun _ _ _ _ _ => rfl) (fun A' o' s' H' E' f' c' rm => pe_callV (k := 12) (i := 3) (E := E') (passes_call (E := E') (takes_of rfl rfl rfl rfl) (fun _ _ _ _ h => h)) rm (by exact (pa_cons (pv 1) (pa_cons (pe_tup (pa_cons pe_int pa_nil)) pa_nil))))) pa_nil)))
    (pss_cons (ps_expr (pe_bm PySem.F.plainAttrs_list PySem.F.slot_list_append PySem.F.type_list_append mt_append (pv 4) (pa_cons (mc (t := (fun E' => tCallV (cxOf CX0 P w K mg base nDR "_law_degrees_right" (defScope sLawDegreesRight) f (.ref c) A outer s H E).nox 12 3 (tCons (tTup (tCons (tC (.int 2)) tNil)) (tCons (tVar 2) tNil)) E')) (by decide +kernel) (by decide +kernel) (by rfl) (fun _ _ _ _ _ => rfl) (fun A' o' s' H' E' f' c' rm => pe_callV (k := 12) (i := 3) (E := E') (passes_call (E := E') (takes_of rfl rfl rfl rfl) (fun _ _ _ _ h => h)) rm (by exact (pa_cons (pe_tup (pa_cons pe_int pa_nil)) (pa_cons (pv 2) pa_nil))))) pa_nil)))
    (pss_cons (ps_expr (pe_bm PySem.F.plainAttrs_list PySem.F.slot_list_append PySem.F.type_list_append mt_append (pv 4) (pa_cons (mc (t := (fun E' => tCallV (cxOf CX0 P w K mg base nDR "_law_degrees_right" (defScope sLawDegreesRight) f (.ref c) A outer s H E).nox 12 3 (tCons (tTup (tCons (tC (.int 2)) tNil)) (tCons (tTup (tCons (tC (.int 3)) tNil)) tNil)) E')) (by decide +kernel) (by decide +kernel) (by rfl) (fun _ _ _ _ _ => rfl) (fun A' o' s' H' E' f' c' rm => pe_callV (k := 12) (i := 3) (E := E') (passes_call (E := E') (takes_of rfl rfl rfl rfl) (fun _ _ _ _ h => h)) rm (by exact (pa_cons (pe_tup (pa_cons pe_int pa_nil)) (pa_cons (pe_tup (pa_cons pe_int pa_nil)) pa_nil))))) pa_nil)))
    (pss_one (ps_if (pt_cmpR (op_neD hr.units) (pv 4) (pe_op op_cat (pe_op op_rep (pe_lst (pa_cons (pe_tup (pa_cons pe_str (pa_cons pe_str pa_nil))) pa_nil)) pe_int) (pe_lst (pa_cons (pe_tup (pa_cons pe_str pa_nil)) pa_nil))) (nomark _)) (pss_one (ps_ret pe_bl)) pss_nil)))))))
    (pss_cons (ps_set (i := 5) scDR.nd rfl (.inl rfl) (pe_lst (pa_cons (lv (t := (fun E' => tCall (spBadD3 K CL) [] E' (tCons (tVar 1) (tCons (tVar 2) (tCons (tC .non) tNil))))) (by decide +kernel) (by decide +kernel) (by rfl) (fun _ _ _ _ _ => rfl) (fun A' o' s' H' E' f' c' rm => pe_call FPB (rm.mono (by decide)) (by rfl) gPB kPB bPB .nil (passes_call (E := E') (takes_of rfl rfl rfl rfl) (fun _ _ _ _ h => h)) (by exact (pa_cons (pv 1) (pa_cons (pv 2) (pa_cons pe_non pa_nil)))))) pa_nil)))
    (pss_cons (ps_expr (pe_bm PySem.F.plainAttrs_list PySem.F.slot_list_append PySem.F.type_list_append mt_append (pv 5) (pa_cons (lv (t := (fun E' => tCall (spBadD3 K CL) [] E' (tCons (tTup (tCons (tC (.int 2)) tNil)) (tCons (tVar 2) (tCons (tC .non) tNil))))) (by decide +kernel) (by decide +kernel) (by rfl) (fun _ _ _ _ _ => rfl) (fun A' o' s' H' E' f' c' rm => pe_call FPB (rm.mono (by decide)) (by rfl) gPB kPB bPB .nil (passes_call (E := E') (takes_of rfl rfl rfl rfl) (fun _ _ _ _ h => h)) (by exact (pa_cons (pe_tup (pa_cons pe_int pa_nil)) (pa_cons (pv 2) (pa_cons pe_non pa_nil)))))) pa_nil)))
    (pss_cons (ps_expr (pe_bm PySem.F.plainAttrs_list PySem.F.slot_list_append PySem.F.type_list_append mt_append (pv 5) (pa_cons (lv (t := (fun E' => tCall (spNoPair K) [] E' (tCons (tTup (tCons (tC (.int 2)) tNil)) (tCons (tTup (tCons (tC (.int 3)) tNil)) (tCons (tVar 1) tNil))))) (by decide +kernel) (by decide +kernel) (by rfl) (fun _ _ _ _ _ => rfl) (fun A' o' s' H' E' f' c' rm => pe_call FPN (rm.mono (by decide)) (by rfl) gPN kPN bPN .nil (passes_call (E := E') (takes_of rfl rfl rfl rfl) (fun _ _ _ _ h => h)) (by exact (pa_cons (pe_tup (pa_cons pe_int pa_nil)) (pa_cons (pe_tup (pa_cons pe_int pa_nil)) (pa_cons (pv 1) pa_nil)))))) pa_nil)))
    (pss_one (ps_ret (pe_callC FAr hgd hr (by rfl) gAr kAr bAr hcl hfn hvis (pa_cons (pv 5) (pa_cons (pe_lst (pa_cons pe_str (pa_cons pe_str (pa_cons pe_str pa_nil)))) pa_nil))))))))))), ?_⟩
  have dS : d ∈ [d] := List.mem_cons_self
  have dN : ∀ {H' : Hp} {L' : List V}, H' d = some (.lst L') → ∀ s' ∈ [d], H' s' ≠ none := fun e s' hs => by
    rw [List.mem_singleton.mp hs, e]
    exact (fun z => nomatch z)
  refine pick_dat (ds := evD) rfl hd hL dS (dN hd) (by simp [evD]) (by decide) (fun v1 d1 L1' H1 m1 a1 kq1 hd1 hL1 => ?_)
  refine pick_dat (ds := odD) rfl hd1 hL1 dS (dN hd1) (by simp [odD]) (by decide) (fun v2 d2 L2' H2 m2 a2 kq2 hd2 hL2 => ?_)
  replace a1 := a1.mono kq2.kp
  have kqa := (kq1.trans kq2)
  have hT1 : Tabs T H2 := tabs_kq hT kqa
  have kp0 := kqa.kp
  have o1 := List.all_eq_true.mp evD_ok d1 m1
  have o2 := List.all_eq_true.mp odD_ok d2 m2
  rw [Bool.and_eq_true] at o1
  have o1b : ddeg 6 2 40 0 d1 = false := of_not o1.1
  have o2b : ddeg 10 3 40 1 d2 = false := of_not o2
  -- what stays true
  have eE : ∀ Ha, ExtN H2 Ha → DegIs K Ha 6 2 40 0 v1 false := fun Ha e => by
    have q := (a1.mono (Kp.of e)).degIs (K := K) 6 2 40 0
    rw [o1b] at q
    exact q
  have eO : ∀ Ha, ExtN H2 Ha → DegIs K Ha 10 3 40 1 v2 false := fun Ha e => by
    have q := (a2.mono (Kp.of e)).degIs (K := K) 10 3 40 1
    rw [o2b] at q
    exact q
  have eP : ∀ Ha, ExtN H2 Ha → NoPair K Ha v1 := fun Ha e => (a1.mono (Kp.of e)).noPair o1.2
  have xt : ∀ {A B C : Hp}, ExtN A B → ExtN B C → ExtN A C := fun a b c o q n => b c o (a c o q n) n
  have xs' : ∀ {A B : Hp}, Same A B → ExtN A B := fun a c o q _ => a c o q
  have xw : ∀ {A B : Hp} {l : Addr} {o : HO}, ExtN A B → (∀ u, A l = some u → ∃ ps, u = .tbl ps) → ExtN A (upd B l o) := fun {A B l o} a n c u q t => by
    rw [upd_ne fun z => ?_]
    · exact a c u q t
    · obtain ⟨ps, e⟩ := n u (by rw [← z]; exact q)
      exact t ps e
  have xn : ∀ {A B : Hp} {l : Addr}, ExtN A B → B l = none → ∀ u, A l = some u → ∃ ps, u = .tbl ps := fun {A B l} a n u q => by
    refine Classical.byContradiction fun no => ?_
    have := a l u q fun ps e => no ⟨ps, e⟩
    rw [this] at n
    cases n
  have tw : ∀ {B : Hp} {l : Addr} {xs : List V} {o : HO}, Tabs T B → B l = some (.lst xs) → Tabs T (upd B l o) := fun {B l xs o} t e p hp => by
    obtain ⟨ps, h1, h2, h3⟩ := t p hp
    refine ⟨ps, by rw [upd_ne fun z => by rw [z, e] at h1; cases h1]; exact h1, h2, fun pos cv hc => ?_⟩
    obtain ⟨cc, g1, g2⟩ := h3 pos cv hc
    exact ⟨cc, g1, by rw [upd_ne fun z => by rw [z, e] at g2; unfold CodeO at g2; cases g2]; exact g2⟩
  have nt : ∀ {xs : List V} (ps : Array Value), HO.tup xs ≠ .tbl ps := fun ps z => nomatch z
  have nl : ∀ {xs : List V} (ps : Array Value), HO.lst xs ≠ .tbl ps := fun ps z => nomatch z
  have tsm : ∀ {A B : Hp}, Tabs T A → Same A B → Tabs T B := fun a c p hp => (a p hp).ext c
  refine ⟨by show 3 ≤ sizeLine; decide, fun t1 ht1 => ⟨t1, rfl, ⟨_, SqT.of upd_same⟩, ?_⟩⟩
  have x4 : ExtN H2 (upd H2 t1 (.tup [.ref fBa, .ref fCa, .ref fDe])) := xs' (Same.new ht1)
  have g4 : upd H2 t1 (.tup [.ref fBa, .ref fCa, .ref fDe]) t1 = some (.tup [.ref fBa, .ref fCa, .ref fDe]) := upd_same
  have hT4 := tsm hT1 (Same.new (o := .tup [.ref fBa, .ref fCa, .ref fDe]) ht1)
  generalize upd H2 t1 (.tup [.ref fBa, .ref fCa, .ref fDe]) = H4 at *
  refine for_it (walk_tup (xs := [V.ref fBa, .ref fCa, .ref fDe])) (fun i σ H' => (∃ o3 o4, σ = [some (.ref d), some v1, some v2, o3, o4, none]) ∧ ExtN H4 H' ∧ Tabs T H') ⟨⟨none, none, rfl⟩, fun _ _ q _ => q, hT4⟩ (fun _ _ H' _ q => SqT.of (q.2.1 _ _ g4 nt)) (fun i x σ H9 H' hi q y => ?_) fun σ H5 q => ?_
  · obtain ⟨⟨o3, o4, rfl⟩, e5, t5⟩ := q
    obtain ⟨rfl, hx⟩ := y
    obtain ⟨fc, dc, rfl, kc, bc, FB, FR⟩ : ∃ (fc : Addr) (dc : FuncData), x = V.ref fc ∧ PySem.W.keepIn K (.ref fc) = true ∧ Binds K dc ["evens", "odds"] [] ∧ FnOk P w K mg base (L2.CX P w) 12 fc dc ["evens", "odds"] (spBadD K CL) ∧ FnOk P w K mg base (L2.CX P w) 12 fc dc ["evens", "odds"] (spFineD K) := by
      match i, hi with
      | 0, _ => cases hx; exact ⟨fBa, dBa, rfl, kBa, bBa, fn_up FBa (by decide), fn_wide (fn_up (FBaF.imp fine_bar) (by decide))⟩
      | 1, _ => cases hx; exact ⟨fCa, dCa, rfl, kCa, bCa, fn_up FCa (by decide), fn_wide (fn_up (FCaF.imp fine_can) (by decide))⟩
      | 2, _ => cases hx; exact ⟨fDe, dDe, rfl, kDe, bDe, FDe, FDeF⟩
    have x35 := xt x4 e5
    refine ⟨t5, rfl, "letters", fun Ha ea => .letters fun E' Q' hE => ?_, fun H6 p1 e6 t6 hp1 => ⟨by show 1 ≤ sizeLine; decide, fun lt hlt => ?_⟩⟩
    · exact ⟨fc, dc, _, _, rfl, FB, kc, bc, _, rfl, _, rfl, v1, v2, false, false, rfl, eE _ (xt x35 ea), (fun z => nomatch z), rfl, hE⟩
    have x6 := xt x35 e6
    have nlt := xn (xt e5 e6) hlt
    have h1 : upd H6 lt (.lst [.ref p1]) lt = some (.lst [.ref p1]) := upd_same
    have dl1 : DueL (upd H6 lt (.lst [.ref p1])) [.ref p1] ["letters"] := .cons (Same.new hlt _ _ hp1) .nil
    have z1 : ExtN H4 (upd H6 lt (.lst [.ref p1])) := xt (xt e5 e6) (xs' (Same.new hlt))
    have u1 := tsm t6 (Same.new (o := .lst [.ref p1]) hlt)
    generalize upd H6 lt (.lst [.ref p1]) = M1 at *
    refine ⟨_, rfl, .inl ⟨rfl, _, SqL.of h1⟩, u1, rfl, "letters", fun Ha ea => .letters fun E' Q' hE => ?_, fun N2 p2 f2 v12 hp2 => ?_⟩
    · exact ⟨fc, dc, _, _, rfl, FB, kc, bc, _, rfl, by show 1 ≤ sizeLine; decide, fun u hu => ⟨v1, .ref u, false, false, rfl, (eE _ (xt x4 (xt z1 ea))).mono (Same.new hu), (fun z => nomatch z), rfl, hE.mono (Same.new hu)⟩⟩
    have g2 := f2 _ _ h1 nl
    refine ⟨lt, [.ref p1], .ref p2, rfl, rfl, g2, by show 1 < sizeLine; decide, ?_⟩
    have z2 := xw (o := .lst ([.ref p1] ++ [.ref p2])) (xt z1 f2) nlt
    have u2 := tw (o := .lst ([.ref p1] ++ [.ref p2])) v12 g2
    have h2 : upd N2 lt (.lst ([.ref p1] ++ [.ref p2])) lt = some (.lst [.ref p1, .ref p2]) := upd_same
    have up2 : ∀ b xs, N2 b = some (.tup xs) → upd N2 lt (.lst ([.ref p1] ++ [.ref p2])) b = some (.tup xs) := fun b xs e => by
      rw [upd_ne fun z => by rw [z, g2] at e; cases e]
      exact e
    have dl2 : DueL (upd N2 lt (.lst ([.ref p1] ++ [.ref p2]))) [.ref p1, .ref p2] ["letters", "letters"] := DueL.snoc (xs := [.ref p1]) (zs := ["letters"]) (up2 _ _ hp2) (DueL.mono (fun b xs e => up2 b xs (f2 _ _ e nt)) dl1)
    generalize upd N2 lt (.lst ([.ref p1] ++ [.ref p2])) = M2 at *
    refine ⟨_, rfl, .inl ⟨rfl, _, SqL.of h2⟩, u2, rfl, "letters", fun Ha ea => .letters fun E' Q' hE => ?_, fun N3 p3 f3 v13 hp3 => ?_⟩
    · exact ⟨fc, dc, _, _, rfl, FB, kc, bc, by show 1 ≤ sizeLine; decide, fun u hu => ⟨_, rfl, .ref u, v2, true, false, rfl, deg2 (SqT.of upd_same), (fun _ => (eO _ (xt x4 (xt z2 ea))).mono (Same.new hu)), rfl, hE.mono (Same.new hu)⟩⟩
    have g3 := f3 _ _ h2 nl
    refine ⟨lt, [.ref p1, .ref p2], .ref p3, rfl, rfl, g3, by show 2 < sizeLine; decide, ?_⟩
    have z3 := xw (o := .lst ([.ref p1, .ref p2] ++ [.ref p3])) (xt z2 f3) nlt
    have u3 := tw (o := .lst ([.ref p1, .ref p2] ++ [.ref p3])) v13 g3
    have h3 : upd N3 lt (.lst ([.ref p1, .ref p2] ++ [.ref p3])) lt = some (.lst [.ref p1, .ref p2, .ref p3]) := upd_same
    have up3 : ∀ b xs, N3 b = some (.tup xs) → upd N3 lt (.lst ([.ref p1, .ref p2] ++ [.ref p3])) b = some (.tup xs) := fun b xs e => by
      rw [upd_ne fun z => by rw [z, g3] at e; cases e]
      exact e
    have dl3 : DueL (upd N3 lt (.lst ([.ref p1, .ref p2] ++ [.ref p3]))) [.ref p1, .ref p2, .ref p3] ["letters", "letters", "letters"] := DueL.snoc (xs := [.ref p1, .ref p2]) (zs := ["letters", "letters"]) (up3 _ _ hp3) (DueL.mono (fun b xs e => up3 b xs (f3 _ _ e nt)) dl2)
    generalize upd N3 lt (.lst ([.ref p1, .ref p2] ++ [.ref p3])) = M3 at *
    refine ⟨_, rfl, .inl ⟨rfl, _, SqL.of h3⟩, u3, rfl, "", fun Ha ea => .fine fun E' Q' hE => ?_, fun N4 p4 f4 v14 hp4 => ?_⟩
    · exact ⟨fc, dc, _, _, rfl, FR, kc, bc, by show 1 ≤ sizeLine; decide, fun u hu => ⟨by show 1 ≤ sizeLine; decide, fun u2 hu2 => ⟨u, u2, [2], [3], rfl, tupSame (Same.new hu2) (SqT.of upd_same), SqT.of upd_same, .inl ⟨rfl, rfl⟩, fun v H' s => hE v H' (((Same.new hu).trans (Same.new hu2)).trans s)⟩⟩⟩
    have g4 := f4 _ _ h3 nl
    refine ⟨lt, [.ref p1, .ref p2, .ref p3], .ref p4, rfl, rfl, g4, by show 3 < sizeLine; decide, ?_⟩
    have z4 := xw (o := .lst ([.ref p1, .ref p2, .ref p3] ++ [.ref p4])) (xt z3 f4) nlt
    have u4 := tw (o := .lst ([.ref p1, .ref p2, .ref p3] ++ [.ref p4])) v14 g4
    have h4 : upd N4 lt (.lst ([.ref p1, .ref p2, .ref p3] ++ [.ref p4])) lt = some (.lst [.ref p1, .ref p2, .ref p3, .ref p4]) := upd_same
    have up4 : ∀ b xs, N4 b = some (.tup xs) → upd N4 lt (.lst ([.ref p1, .ref p2, .ref p3] ++ [.ref p4])) b = some (.tup xs) := fun b xs e => by
      rw [upd_ne fun z => by rw [z, g4] at e; cases e]
      exact e
    have dl4 : DueL (upd N4 lt (.lst ([.ref p1, .ref p2, .ref p3] ++ [.ref p4]))) [.ref p1, .ref p2, .ref p3, .ref p4] ["letters", "letters", "letters", ""] := DueL.snoc (xs := [.ref p1, .ref p2, .ref p3]) (zs := ["letters", "letters", "letters"]) (up4 _ _ hp4) (DueL.mono (fun b xs e => up4 b xs (f4 _ _ e nt)) dl3)
    generalize upd N4 lt (.lst ([.ref p1, .ref p2, .ref p3] ++ [.ref p4])) = M4 at *
    -- as it is due
    refine ⟨_, rfl, by show 2 ≤ sizeLine; decide, fun q1 hq1 => ⟨by show 1 ≤ sizeLine; decide, fun q2 hq2 => ?_⟩⟩
    have s1 := Same.new (o := .tup [tR, .str "letters"]) hq1
    have s2 := Same.new (o := .lst [.ref q1]) hq2
    refine ⟨q2, 3, [.ref q1], rfl, rfl, upd_same, by decide, by decide, by show 3 ≤ sizeLine; decide, fun q3 hq3 => ⟨by show 1 ≤ sizeLine; decide, fun q4 hq4 => ⟨by show 1 ≤ sizeLine; decide, fun q5 hq5 => ?_⟩⟩⟩
    have s3 := Same.new (o := .lst (List.replicate (3 : Int).toNat [V.ref q1]).flatten) hq3
    have s4 := Same.new (o := .tup [.str "fine"]) hq4
    have s5 := Same.new (o := .lst [.ref q4]) hq5
    refine ⟨q3, q5, [.ref q1, .ref q1, .ref q1], [.ref q4], rfl, rfl, (s4.trans s5) _ _ upd_same, upd_same, by show 4 ≤ sizeLine; decide, fun q6 hq6 => ?_⟩
    have s6 := Same.new (o := .lst ([V.ref q1, .ref q1, .ref q1] ++ [.ref q4])) hq6
    have lay : ∀ z ∈ (["letters", "letters", "letters", ""] : List Str), (PyData.str z).canLay0 = true := by decide +kernel
    have sh := dues_list lay
    have s56 := s5.trans s6
    have s26 := s2.trans (s3.trans (s4.trans s56))
    have S := s1.trans s26
    have c1 := s26 _ _ (upd_same (H := M4) (a := q1) (o := .tup [tR, .str "letters"]))
    refine ⟨.list ((["letters", "letters", "letters", ""] : List Str).map dueD), .list ((["letters", "letters", "letters", ""] : List Str).map dueD), .lst (SqL.of (S _ _ h4)) (DueL.dp (DueL.mono (fun b xs e => S _ _ e) dl4)), .lst (SqL.of upd_same) (DueL.dp (.cons c1 (.cons c1 (.cons c1 (.cons (s56 _ _ upd_same) .nil))))), sh.shaped (by decide), sh.shaped (by decide), _, rfl, ?_⟩
    rw [eqv_self sh (by decide)]
    exact iteF ⟨⟨_, _, rfl⟩, xt z4 (xs' S), tsm u4 S⟩
  obtain ⟨⟨o3, o4, rfl⟩, e7, t7⟩ := q
  have x7 := xt x4 e7
  refine ⟨t7, fun f1 K1 e1 t1' kept1 => ⟨by show 1 ≤ sizeLine; decide, fun lc hlc => ?_⟩⟩
  have nlc := xn (xt x7 e1) hlc
  have h1 : upd K1 lc (.lst [.ref f1]) lc = some (.lst [.ref f1]) := upd_same
  have s1 := Same.new (o := .lst [.ref f1]) hlc
  have y1 := xt (xt x7 e1) (xs' s1)
  have w1 := tsm t1' s1
  replace kept1 := kept1.ext (xs' s1)
  generalize upd K1 lc (.lst [.ref f1]) = J1 at *
  refine ⟨_, rfl, .inl ⟨rfl, _, SqL.of h1⟩, w1, fun f2 K2 e2 t2' kept2 => ?_⟩
  have g2 := e2 _ _ h1 nl
  refine ⟨lc, [.ref f1], .ref f2, rfl, rfl, g2, by show 1 < sizeLine; decide, ?_⟩
  have h2 : upd K2 lc (.lst ([.ref f1] ++ [.ref f2])) lc = some (.lst [.ref f1, .ref f2]) := upd_same
  have y2 := xw (o := .lst ([.ref f1] ++ [.ref f2])) (xt y1 e2) nlc
  have w2 := tw (o := .lst ([.ref f1] ++ [.ref f2])) t2' g2
  replace kept1 := (kept1.ext e2).write (o := .lst ([.ref f1] ++ [.ref f2])) g2
  replace kept2 := kept2.write (o := .lst ([.ref f1] ++ [.ref f2])) g2
  generalize upd K2 lc (.lst ([.ref f1] ++ [.ref f2])) = J2 at *
  refine ⟨_, rfl, .inl ⟨rfl, _, SqL.of h2⟩, w2, fun f3 K3 e3 t3' kept3 => ?_⟩
  have g3 := e3 _ _ h2 nl
  refine ⟨lc, [.ref f1, .ref f2], .ref f3, rfl, rfl, g3, by show 2 < sizeLine; decide, ?_⟩
  have h3 : upd K3 lc (.lst ([.ref f1, .ref f2] ++ [.ref f3])) lc = some (.lst [.ref f1, .ref f2, .ref f3]) := upd_same
  have y3 := xw (o := .lst ([.ref f1, .ref f2] ++ [.ref f3])) (xt y2 e3) nlc
  have w3 := tw (o := .lst ([.ref f1, .ref f2] ++ [.ref f3])) t3' g3
  replace kept1 := (kept1.ext e3).write (o := .lst ([.ref f1, .ref f2] ++ [.ref f3])) g3
  replace kept2 := (kept2.ext e3).write (o := .lst ([.ref f1, .ref f2] ++ [.ref f3])) g3
  replace kept3 := kept3.write (o := .lst ([.ref f1, .ref f2] ++ [.ref f3])) g3
  generalize upd K3 lc (.lst ([.ref f1, .ref f2] ++ [.ref f3])) = J3 at *
  refine ⟨_, rfl, by show 3 ≤ sizeLine; decide, fun ld hld n Hx out ck cv => ?_⟩
  have slz := Same.new (o := .lst ((["letters", "letters", ""] : List Str).map V.str)) hld
  have hc : upd J3 ld (.lst ((["letters", "letters", ""] : List Str).map V.str)) lc = some (.lst ([f1, f2, f3].map V.ref)) := slz _ _ h3
  have hld2 : upd J3 ld (.lst ((["letters", "letters", ""] : List Str).map V.str)) ld = some (.lst ((["letters", "letters", ""] : List Str).map V.str)) := upd_same
  have xall := xt y3 (xs' slz)
  have wz := tsm w3 slz
  replace kept1 := kept1.ext (xs' slz)
  replace kept2 := kept2.ext (xs' slz)
  replace kept3 := kept3.ext (xs' slz)
  replace n : ∀ b ∈ cellsOf (cxOf CX0 P w K mg base nDR "_law_degrees_right" (defScope sLawDegreesRight) f (.ref c) A outer s H E).nox, upd J3 ld (.lst ((["letters", "letters", ""] : List Str).map V.str)) b = none := n
  replace out : ∀ b, b ∉ cellsOf (cxOf CX0 P w K mg base nDR "_law_degrees_right" (defScope sLawDegreesRight) f (.ref c) A outer s H E).nox → Hx b = upd J3 ld (.lst ((["letters", "letters", ""] : List Str).map V.str)) b := out
  generalize upd J3 ld (.lst ((["letters", "letters", ""] : List Str).map V.str)) = Jz at *
  have nin : ∀ {b : Addr} {o : HO}, Jz b = some o → b ∉ cellsOf (cxOf CX0 P w K mg base nDR "_law_degrees_right" (defScope sLawDegreesRight) f (.ref c) A outer s H E).nox := fun {b o} e z => by
    rw [n b z] at e
    cases e
  have lay : ∀ z ∈ (["letters", "letters", ""] : List Str), (PyData.str z).canLay0 = true := by decide +kernel
  refine ⟨lc, ld, [f1, f2, f3], (["letters", "letters", ""] : List Str), rfl, (out lc (nin hc)).trans hc, (out ld (nin hld2)).trans hld2, rfl, by decide, lay, fun i fi z hf hz => ?_, fun H' s' => ?_⟩
  · match i, hf, hz with
    | 0, hf, hz =>
      cases hf; cases hz
      exact kept_met kept1 hinj rfl n out ck cv (fun Ha ea => .letters fun E' Q' hE => ⟨_, rfl, _, rfl, v1, v2, .non, false, false, rfl, eE _ (xt xall ea), (fun z => nomatch z), rfl, hE⟩)
    | 1, hf, hz =>
      cases hf; cases hz
      exact kept_met kept2 hinj rfl n out ck cv (fun Ha ea => .letters fun E' Q' hE => ⟨by show 1 ≤ sizeLine; decide, fun u hu => ⟨_, rfl, .ref u, v2, .non, true, false, rfl, deg2 (SqT.of upd_same), (fun _ => (eO _ (xt xall ea)).mono (Same.new hu)), rfl, hE.mono (Same.new hu)⟩⟩)
    | 2, hf, hz =>
      cases hf; cases hz
      exact kept_met kept3 hinj rfl n out ck cv (fun Ha ea => .fine fun E' Q' hQ => ⟨by show 1 ≤ sizeLine; decide, fun u hu => ⟨by show 1 ≤ sizeLine; decide, fun u2 hu2 => ⟨_, rfl, u, u2, v1, [2], [3], rfl, tupSame (Same.new hu2) (SqT.of upd_same), SqT.of upd_same, .inl ⟨rfl, rfl⟩, (eP _ (xt xall ea)).mono ((Same.new hu).trans (Same.new hu2)), fun H' s => hQ _ H' (((Same.new hu).trans (Same.new hu2)).trans s)⟩⟩⟩)
    | i + 3, hf, hz => cases hf
  · have xf : ExtN Jz (minus (cellsOf (cxOf CX0 P w K mg base nDR "_law_degrees_right" (defScope sLawDegreesRight) f (.ref c) A outer s H E).nox) H') := fun b o q _ => (minus_out (nin q)).trans (s' _ _ ((out b (nin q)).trans q))
    have xe := xt xall xf
    exact k _ L2' (fun b o nb e nt' => xe b o (kp0 b o e (.inl fun z => nb (List.mem_singleton.mp z)) nt') nt') (xe _ _ hd2 nl) hL2 (tabs_minus wz n out s')
end
end K9
namespace K9
open PySem PySem.Spec PyProof.Rows L2 LamX LamY
abbrev nOR : List Str := ["dice", "number", "degrees", "far", "wide", "calls", "due"]
theorem scOR : FnScope nOR ["dice"] (defScope sLawOthersRight) := ⟨rfl, rfl, rfl, by decide +kernel, rfl, by decide +kernel, by decide +kernel⟩
def qOR : Str := (envOfC "_law_others_right" (defScope sLawOthersRight) 0 0 .none).qual ++ ("<lambda>" : Str)
def numO : List PyData := [.none, .int (-1), .int 1001, .bool true, .str "6", .tuple [.int 6], .int (10 ^ (60 : Int).toNat)]
def degO : List PyData := [.none, .int 4, .list [.int 4], .tuple [.int 0], .tuple [.int 41], .tuple (List.replicate (7 : Int).toNat [.int 1]).flatten, .tuple [.bool true], .tuple [.str "4"], .dict []]
def farO : List PyData := [.tuple [.tuple [.int 2], .tuple [.int 39, .int 39, .int 39]], .tuple [.tuple [.int 20], .tuple [.int 39, .int 39, .int 39]], .tuple [.tuple [.int 2, .int 4], .tuple [.int 39, .int 39, .int 13]]]
def wideO : List PyData := [.tuple [.tuple [.int 2, .int 2, .int 2], .tuple [.int 15, .int 15, .int 15]], .tuple [.tuple [.int 2, .int 2, .int 2, .int 2], .tuple [.int 7, .int 7, .int 7, .int 7]], .tuple [.tuple [.int 2, .int 2, .int 4, .int 2], .tuple [.int 11, .int 11, .int 7, .int 7]]]
theorem numO_ok : numO.all (fun d => !dbet 0 1000 d && fineO d) = true := by decide +kernel
theorem degO_ok : degO.all (fun d => !dtup 6 1 40 d) = true := by decide +kernel
theorem farO_ok : farO.all (manyOk 80) = true := by decide +kernel
theorem wideO_ok : wideO.all (manyOk 150) = true := by decide +kernel
section
variable {P : Program} {w : World} {K : PySem.W.Frag} {mg : Str → Option Value} {base : Heap} {CL CN CM fPi fAr fMN fDM fPM : Addr} {dPi dAr dMN dDM dPM : FuncData}
theorem ok_or {f c P1 : Addr} {T' : List (Addr × Str)} {kV doc pm ct oc : Value} {an od : Option Addr} {osl : Array (Option Value)} (mT : (P1, qOR) ∈ T') (uT : ∀ p ∈ T', p.1 = P1 → p.2 = qOR)
    (lk : K.lookup f = some ⟨oc, od, .func (PySem.W.fnOf "_law_others_right" "_law_others_right" (defArgs sLawOthersRight) (defBody sLawOthersRight) (defScope sLawOthersRight) .none kV doc pm an (.ref c) ct), osl⟩)
    (hcd : PySem.W.codeIn K (.ref c) "_law_others_right" = true) (TB : TabB base mg c P1) (T : Txt K mg)
    (gPi : mg "_law_pick" = some (.ref fPi)) (kPi : PySem.W.keepIn K (.ref fPi) = true) (bPi : Binds K dPi ["dice", "items"] []) (FPi : FnOk P w K mg base CX0 2 fPi dPi ["dice", "items"] spPick)
    (gAr : mg "_law_are_met" = some (.ref fAr)) (kAr : PySem.W.keepIn K (.ref fAr) = true) (bAr : Binds K dAr ["calls", "due"] []) (FAr : LamY.FnG P w K mg base CX0 15 fAr dAr ["calls", "due"] (spAre P w K mg base 12 CL CN CM))
    (gMN : mg "is_made" = some (.ref fMN)) (kMN : PySem.W.keepIn K (.ref fMN) = true) (bMN : Binds K dMN ["number", "degrees"] []) (FMN : FnOk P w K mg base (L2.CX P w) 5 fMN dMN ["number", "degrees"] (spMadeN K CN)) (FML : FnOk P w K mg base (L2.CX P w) 5 fMN dMN ["number", "degrees"] (spMadeL K CL)) (FMF : FnOk P w K mg base CX0 5 fMN dMN ["number", "degrees"] (spMade K))
    (gDM : mg "degrees_paper" = some (.ref fDM)) (kDM : PySem.W.keepIn K (.ref fDM) = true) (bDM : Binds K dDM ["evens", "odds"] []) (FDM : FnOk P w K mg base (L2.CX P w) 12 fDM dDM ["evens", "odds"] (spManyD K CM)) (FDF : FnOk P w K mg base (L2.CX P w) 12 fDM dDM ["evens", "odds"] (spFineD K))
    (gPM : mg "is_degrees_paper" = some (.ref fPM)) (kPM : PySem.W.keepIn K (.ref fPM) = true) (bPM : Binds K dPM ["evens", "odds", "value"] []) (FPM : FnOk P w K mg base (L2.CX P w) 12 fPM dPM ["evens", "odds", "value"] (spManyD3 K CM)) :
    LamY.FnG P w K mg base CX0 16 f (PySem.W.fnOf "_law_others_right" "_law_others_right" (defArgs sLawOthersRight) (defBody sLawOthersRight) (defScope sLawOthersRight) .none kV doc pm an (.ref c) ct) ["dice"] (spWR T') := by
  refine ⟨fun vs H Q E h => ?_, fun A outer s H args us vs Q E hgd hr e0 hb r h => ?_⟩
  · obtain ⟨d, L, rfl, _⟩ := h; rfl
  have hlen : vs.length = (["dice"] : List Str).length := by obtain ⟨d, L, rfl, _⟩ := h; rfl
  refine run_ofS (N := nOR) (k := 15) lk hcd scOR hr e0 hb r hlen fun hr => ?_
  obtain ⟨d, L, rfl, hd, hL, hT, k⟩ := h
  have hr2 : Room 2 _ := hr.mono (by decide)
  have FMF := fn_wide FMF
  have gML := gMN
  have kML := kMN
  have bML := bMN
  have gMF := gMN
  have kMF := kMN
  have bMF := bMN
  have gDF := gDM
  have kDF := kDM
  have bDF := bDM
  have ec : (cxOf CX0 P w K mg base nOR "_law_others_right" (defScope sLawOthersRight) f (.ref c) A outer s H E).nox.env.cells = [(("wide" : Str), s.heap.objs.size + 1 + 1 + 1 + 1), ("number", s.heap.objs.size + 1 + 1 + 1), ("far", s.heap.objs.size + 1 + 1), ("degrees", s.heap.objs.size + 1)] := rfl
  have mem4 : ∀ {p q1 q2 q3 q4 : Str × Addr}, p ∈ [q1, q2, q3, q4] → p = q1 ∨ p = q2 ∨ p = q3 ∨ p = q4 := fun {p q1 q2 q3 q4} h => by simpa using h
  have hcl : Cells (cxOf CX0 P w K mg base nOR "_law_others_right" (defScope sLawOthersRight) f (.ref c) A outer s H E).nox := fun p hp => by
    rw [ec] at hp ⊢
    rcases mem4 hp with e | e | e | e <;> subst e <;> rfl
  have hfn : ∀ y, (cxOf CX0 P w K mg base nOR "_law_others_right" (defScope sLawOthersRight) f (.ref c) A outer s H E).nox.fn y = true := fun _ => rfl
  have hvis : ∀ y c', (cxOf CX0 P w K mg base nOR "_law_others_right" (defScope sLawOthersRight) f (.ref c) A outer s H E).nox.env.cells.lookup y = some c' → (cxOf CX0 P w K mg base nOR "_law_others_right" (defScope sLawOthersRight) f (.ref c) A outer s H E).nox.env.scope.names.lookup y = some NameKind.cell := fun y c' e => by
    rw [ec] at e
    rcases mem4 (PySem.mem_of_lookup e) with e | e | e | e <;> cases e <;> rfl
  have hinj : Inj (cxOf CX0 P w K mg base nOR "_law_others_right" (defScope sLawOthersRight) f (.ref c) A outer s H E).nox := fun x y c' e1 e2 => by
    rw [ec] at e1 e2
    rcases mem4 (PySem.mem_of_lookup e1) with h | h | h | h <;> rcases mem4 (PySem.mem_of_lookup e2) with g | g | g | g <;> first
      | exact (congrArg Prod.fst h).trans (congrArg Prod.fst g).symm
      | (have a1 : c' = _ := congrArg Prod.snd h; have a2 : c' = _ := congrArg Prod.snd g; exact absurd (a1.symm.trans a2) (by generalize s.heap.objs.size = n; show ¬ (_ : Nat) = _; omega))
  have hcell : ∀ y : Str, (defScope sLawOthersRight).names.lookup y = some .cell → ∃ c, (cxOf CX0 P w K mg base nOR "_law_others_right" (defScope sLawOthersRight) f (.ref c) A outer s H E).nox.env.cells.lookup y = some c := fun y e => by
    have h : ((defScope sLawOthersRight).names.all fun y => !decide (y.2 = .cell) || ((cxOf CX0 P w K mg base nOR "_law_others_right" (defScope sLawOthersRight) f (.ref c) A outer s H E).nox.env.cells.lookup y.1).isSome) = true := rfl
    have h1 := List.all_eq_true.mp h _ (PySem.mem_of_lookup e)
    exact Option.isSome_iff_exists.mp h1
  have fr : ∀ {scope : Scope}, ((scope.names.all fun y => !decide (y.2 = NameKind.free) || decide ((defScope sLawOthersRight).names.lookup y.1 = some .cell)) = true) → ∀ y ∈ scope.names, y.2 = NameKind.free → ∃ c, (cxOf CX0 P w K mg base nOR "_law_others_right" (defScope sLawOthersRight) f (.ref c) A outer s H E).nox.env.cells.lookup y.1 = some c := fun {scope} h y hy e => by
    have h1 := List.all_eq_true.mp h y hy
    rw [e] at h1
    exact hcell _ (of_decide_eq_true h1)
  have bld : ∀ {params : Arguments} {body : Expr} {scope : Scope} {t : XK → TE}, lamSB (defScope sLawOthersRight) scope = true → ((scope.names.all fun y => !decide (y.2 = NameKind.free) || decide ((defScope sLawOthersRight).names.lookup y.1 = some .cell)) = true) →
      (∀ (q : Str) (cl : List (Str × Addr)) (pm cv ctv : Value), bindArgs (PySem.W.kla_fn "<lambda>" q params body scope cl pm cv ctv) {} = pure []) →
      (∀ (A' : Around) (outer' : List Env) (s' : Shared) (H' : Hp) (E' : XK) (f' c' : Addr), Room 12 (A'.deeper (lamEnv (cxOf CX0 P w K mg base nOR "_law_others_right" (defScope sLawOthersRight) f (.ref c) A outer s H E).nox scope s'.heap.objs.size f' c')) → PE (lamCx (cxOf CX0 P w K mg base nOR "_law_others_right" (defScope sLawOthersRight) f (.ref c) A outer s H E).nox A' outer' s' H' E' scope f' c') body (t E')) →
      LamB (cxOf CX0 P w K mg base nOR "_law_others_right" (defScope sLawOthersRight) f (.ref c) A outer s H E).nox 12 params body scope t := fun h1 h2 h3 h4 => ⟨lamS_by h1, fr h2, h3, h4⟩
  have lv : ∀ {params : Arguments} {body : Expr} {scope : Scope} {t : XK → TE} {lpos : Pos}, lamSB (defScope sLawOthersRight) scope = true → ((scope.names.all fun y => !decide (y.2 = NameKind.free) || decide ((defScope sLawOthersRight).names.lookup y.1 = some .cell)) = true) → defaultsOf params (cxOf CX0 P w K mg base nOR "_law_others_right" (defScope sLawOthersRight) f (.ref c) A outer s H E).nox.env = ([], []) →
      (∀ (q : Str) (cl : List (Str × Addr)) (pm cv ctv : Value), bindArgs (PySem.W.kla_fn "<lambda>" q params body scope cl pm cv ctv) {} = pure []) →
      (∀ (A' : Around) (outer' : List Env) (s' : Shared) (H' : Hp) (E' : XK) (f' c' : Addr), Room 12 (A'.deeper (lamEnv (cxOf CX0 P w K mg base nOR "_law_others_right" (defScope sLawOthersRight) f (.ref c) A outer s H E).nox scope s'.heap.objs.size f' c')) → PE (lamCx (cxOf CX0 P w K mg base nOR "_law_others_right" (defScope sLawOthersRight) f (.ref c) A outer s H E).nox A' outer' s' H' E' scope f' c') body (t E')) →
      PE (cxOf CX0 P w K mg base nOR "_law_others_right" (defScope sLawOthersRight) f (.ref c) A outer s H E).nox (.Lambda params body scope lpos) (tKeep (cxOf CX0 P w K mg base nOR "_law_others_right" (defScope sLawOthersRight) f (.ref c) A outer s H E).nox T' 12 t) := fun h1 h2 h0 h3 h4 => pe_keep (bld h1 h2 h3 h4) TB rfl mT uT h0
  suffices hx : ∃ t, PSs (cxOf CX0 P w K mg base nOR "_law_others_right" (defScope sLawOthersRight) f (.ref c) A outer s H E).nox (defBody sLawOthersRight) t ∧ t { nx := fun _ H' => Q .non H', rt := Q } (L2.start nOR [.ref d]) H by
    obtain ⟨t, ht, hq⟩ := hx
    exact ⟨t, ht.nox, hq⟩
  refine ⟨_, (pss_cons (ps_set (i := 1) scOR.nd rfl (.inr rfl) (pe_call FPi hr2 (by rfl) gPi kPi bPi .nil pass0 (pa_cons (pv 0) (pa_cons (pd_lst (pds_cons pd_non (pds_cons pd_neg (pds_cons pd_int (pds_cons pd_bl (pds_cons pd_str (pds_cons (pd_tup (pds_cons pd_int pds_nil)) (pds_cons (pd_pow (pw10 (by decide) (by decide))) pds_nil)))))))) pa_nil))))
    (pss_cons (ps_set (i := 2) scOR.nd rfl (.inr rfl) (pe_call FPi hr2 (by rfl) gPi kPi bPi .nil pass0 (pa_cons (pv 0) (pa_cons (pd_lst (pds_cons pd_non (pds_cons pd_int (pds_cons (pd_lst (pds_cons pd_int pds_nil)) (pds_cons (pd_tup (pds_cons pd_int pds_nil)) (pds_cons (pd_tup (pds_cons pd_int pds_nil)) (pds_cons (pd_rep (pd_tup (pds_cons pd_int pds_nil))) (pds_cons (pd_tup (pds_cons pd_bl pds_nil)) (pds_cons (pd_tup (pds_cons pd_str pds_nil)) (pds_cons pd_dic pds_nil)))))))))) pa_nil))))
    (pss_cons (ps_set (i := 3) scOR.nd rfl (.inr rfl) (pe_call FPi hr2 (by rfl) gPi kPi bPi .nil pass0 (pa_cons (pv 0) (pa_cons (pd_lst (pds_cons (pd_tup (pds_cons (pd_tup (pds_cons pd_int pds_nil)) (pds_cons (pd_tup (pds_cons pd_int (pds_cons pd_int (pds_cons pd_int pds_nil)))) pds_nil))) (pds_cons (pd_tup (pds_cons (pd_tup (pds_cons pd_int pds_nil)) (pds_cons (pd_tup (pds_cons pd_int (pds_cons pd_int (pds_cons pd_int pds_nil)))) pds_nil))) (pds_cons (pd_tup (pds_cons (pd_tup (pds_cons pd_int (pds_cons pd_int pds_nil))) (pds_cons (pd_tup (pds_cons pd_int (pds_cons pd_int (pds_cons pd_int pds_nil)))) pds_nil))) pds_nil)))) pa_nil))))
    (pss_cons (ps_set (i := 4) scOR.nd rfl (.inr rfl) (pe_call FPi hr2 (by rfl) gPi kPi bPi .nil pass0 (pa_cons (pv 0) (pa_cons (pd_lst (pds_cons (pd_tup (pds_cons (pd_tup (pds_cons pd_int (pds_cons pd_int (pds_cons pd_int pds_nil)))) (pds_cons (pd_tup (pds_cons pd_int (pds_cons pd_int (pds_cons pd_int pds_nil)))) pds_nil))) (pds_cons (pd_tup (pds_cons (pd_tup (pds_cons pd_int (pds_cons pd_int (pds_cons pd_int (pds_cons pd_int pds_nil))))) (pds_cons (pd_tup (pds_cons pd_int (pds_cons pd_int (pds_cons pd_int (pds_cons pd_int pds_nil))))) pds_nil))) (pds_cons (pd_tup (pds_cons (pd_tup (pds_cons pd_int (pds_cons pd_int (pds_cons pd_int (pds_cons pd_int pds_nil))))) (pds_cons (pd_tup (pds_cons pd_int (pds_cons pd_int (pds_cons pd_int (pds_cons pd_int pds_nil))))) pds_nil))) pds_nil)))) pa_nil))))
    (pss_cons (ps_set (i := 5) scOR.nd rfl (.inl rfl) (pe_lst (pa_cons (lv (t := (fun E' => tCall (spMadeN K CN) [] E' (tCons (tVar 1) (tCons (tVar 2) tNil)))) (by decide +kernel) (by decide +kernel) (by rfl) (fun _ _ _ _ _ => rfl) (fun A' o' s' H' E' f' c' rm => pe_call FMN (rm.mono (by decide)) (by rfl) gMN kMN bMN .nil (passes_call (E := E') (takes_of rfl rfl rfl rfl) (fun _ _ _ _ h => h)) (by exact (pa_cons (pv 1) (pa_cons (pv 2) pa_nil))))) pa_nil)))
    (pss_cons (ps_expr (pe_bm PySem.F.plainAttrs_list PySem.F.slot_list_append PySem.F.type_list_append mt_append (pv 5) (pa_cons (lv (t := (fun E' => tCall (spMadeL K CL) [] E' (tCons (tC (.int 6)) (tCons (tVar 2) tNil)))) (by decide +kernel) (by decide +kernel) (by rfl) (fun _ _ _ _ _ => rfl) (fun A' o' s' H' E' f' c' rm => pe_call FML (rm.mono (by decide)) (by rfl) gML kML bML .nil (passes_call (E := E') (takes_of rfl rfl rfl rfl) (fun _ _ _ _ h => h)) (by exact (pa_cons pe_int (pa_cons (pv 2) pa_nil))))) pa_nil)))
    (pss_cons (ps_expr (pe_bm PySem.F.plainAttrs_list PySem.F.slot_list_append PySem.F.type_list_append mt_append (pv 5) (pa_cons (lv (t := (fun E' => tCall (spMade K) [] E' (tCons (tC (.int 1000)) (tCons (tTup (tCons (tC (.int 1)) (tCons (tC (.int 40)) tNil))) tNil)))) (by decide +kernel) (by decide +kernel) (by rfl) (fun _ _ _ _ _ => rfl) (fun A' o' s' H' E' f' c' rm => pe_call FMF (rm.mono (by decide)) (by rfl) gMF kMF bMF .nil (passes_call (E := E') (takes_of rfl rfl rfl rfl) (fun _ _ _ _ h => h)) (by exact (pa_cons pe_int (pa_cons (pe_tup (pa_cons pe_int (pa_cons pe_int pa_nil))) pa_nil))))) pa_nil)))
    (pss_cons (ps_expr (pe_bm PySem.F.plainAttrs_list PySem.F.slot_list_append PySem.F.type_list_append mt_append (pv 5) (pa_cons (lv (t := (fun E' => tCall (spMade K) [] E' (tCons (tC (.int 0)) (tCons (tTup tNil) tNil)))) (by decide +kernel) (by decide +kernel) (by rfl) (fun _ _ _ _ _ => rfl) (fun A' o' s' H' E' f' c' rm => pe_call FMF (rm.mono (by decide)) (by rfl) gMF kMF bMF .nil (passes_call (E := E') (takes_of rfl rfl rfl rfl) (fun _ _ _ _ h => h)) (by exact (pa_cons pe_int (pa_cons (pe_tup pa_nil) pa_nil))))) pa_nil)))
    (pss_cons (ps_expr (pe_bm PySem.F.plainAttrs_list PySem.F.slot_list_append PySem.F.type_list_append mt_append (pv 5) (pa_cons (lv (t := (fun E' => tCall (spManyD K CM) [] E' (tCons (tOp (rIxT K) (tVar 3) (tC (.int 0))) (tCons (tOp (rIxT K) (tVar 3) (tC (.int 1))) tNil)))) (by decide +kernel) (by decide +kernel) (by rfl) (fun _ _ _ _ _ => rfl) (fun A' o' s' H' E' f' c' rm => pe_call FDM (rm.mono (by decide)) (by rfl) gDM kDM bDM .nil (passes_call (E := E') (takes_of rfl rfl rfl rfl) (fun _ _ _ _ h => h)) (by exact (pa_cons (pe_ix (ixT K) (pv 3) pe_int (fun _ _ => rfl)) (pa_cons (pe_ix (ixT K) (pv 3) pe_int (fun _ _ => rfl)) pa_nil))))) pa_nil)))
    (pss_cons (ps_expr (pe_bm PySem.F.plainAttrs_list PySem.F.slot_list_append PySem.F.type_list_append mt_append (pv 5) (pa_cons (lv (t := (fun E' => tCall (spManyD3 K CM) [] E' (tCons (tOp (rIxT K) (tVar 3) (tC (.int 0))) (tCons (tOp (rIxT K) (tVar 3) (tC (.int 1))) (tCons (tC .non) tNil))))) (by decide +kernel) (by decide +kernel) (by rfl) (fun _ _ _ _ _ => rfl) (fun A' o' s' H' E' f' c' rm => pe_call FPM (rm.mono (by decide)) (by rfl) gPM kPM bPM .nil (passes_call (E := E') (takes_of rfl rfl rfl rfl) (fun _ _ _ _ h => h)) (by exact (pa_cons (pe_ix (ixT K) (pv 3) pe_int (fun _ _ => rfl)) (pa_cons (pe_ix (ixT K) (pv 3) pe_int (fun _ _ => rfl)) (pa_cons pe_non pa_nil)))))) pa_nil)))
    (pss_cons (ps_expr (pe_bm PySem.F.plainAttrs_list PySem.F.slot_list_append PySem.F.type_list_append mt_append (pv 5) (pa_cons (lv (t := (fun E' => tCall (spManyD K CM) [] E' (tCons (tOp (rIxT K) (tVar 4) (tC (.int 0))) (tCons (tOp (rIxT K) (tVar 4) (tC (.int 1))) tNil)))) (by decide +kernel) (by decide +kernel) (by rfl) (fun _ _ _ _ _ => rfl) (fun A' o' s' H' E' f' c' rm => pe_call FDM (rm.mono (by decide)) (by rfl) gDM kDM bDM .nil (passes_call (E := E') (takes_of rfl rfl rfl rfl) (fun _ _ _ _ h => h)) (by exact (pa_cons (pe_ix (ixT K) (pv 4) pe_int (fun _ _ => rfl)) (pa_cons (pe_ix (ixT K) (pv 4) pe_int (fun _ _ => rfl)) pa_nil))))) pa_nil)))
    (pss_cons (ps_expr (pe_bm PySem.F.plainAttrs_list PySem.F.slot_list_append PySem.F.type_list_append mt_append (pv 5) (pa_cons (lv (t := (fun E' => tCall (spManyD3 K CM) [] E' (tCons (tOp (rIxT K) (tVar 4) (tC (.int 0))) (tCons (tOp (rIxT K) (tVar 4) (tC (.int 1))) (tCons (tTup (tCons (tC (.str "lot")) (tCons (tTup (tCons (tC (.int 0)) tNil)) tNil))) tNil))))) (by decide +kernel) (by decide +kernel) (by rfl) (fun _ _ _ _ _ => rfl) (fun A' o' s' H' E' f' c' rm => pe_call FPM (rm.mono (by decide)) (by rfl) gPM kPM bPM .nil (passes_call (E := E') (takes_of rfl rfl rfl rfl) (fun _ _ _ _ h => h)) (by exact (pa_cons (pe_ix (ixT K) (pv 4) pe_int (fun _ _ => rfl)) (pa_cons (pe_ix (ixT K) (pv 4) pe_int (fun _ _ => rfl)) (pa_cons (pe_tup (pa_cons pe_str (pa_cons (pe_tup (pa_cons pe_int pa_nil)) pa_nil))) pa_nil)))))) pa_nil)))
    (pss_cons (ps_expr (pe_bm PySem.F.plainAttrs_list PySem.F.slot_list_append PySem.F.type_list_append mt_append (pv 5) (pa_cons (lv (t := (fun E' => tCall (spFineD K) [] E' (tCons (tTup tNil) (tCons (tOp (rMulT K) (tTup (tCons (tC (.int 39)) tNil)) (tC (.int 10))) tNil)))) (by decide +kernel) (by decide +kernel) (by rfl) (fun _ _ _ _ _ => rfl) (fun A' o' s' H' E' f' c' rm => pe_call FDF (rm.mono (by decide)) (by rfl) gDF kDF bDF .nil (passes_call (E := E') (takes_of rfl rfl rfl rfl) (fun _ _ _ _ h => h)) (by exact (pa_cons (pe_tup pa_nil) (pa_cons (pe_op op_mulT (pe_tup (pa_cons pe_int pa_nil)) pe_int) pa_nil))))) pa_nil)))
    (pss_cons (ps_expr (pe_bm PySem.F.plainAttrs_list PySem.F.slot_list_append PySem.F.type_list_append mt_append (pv 5) (pa_cons (lv (t := (fun E' => tCall (spManyD K CM) [] E' (tCons (tTup (tCons (tC (.int 20)) (tCons (tC (.int 20)) tNil))) (tCons (tOp (rMulT K) (tTup (tCons (tC (.int 39)) tNil)) (tC (.int 10))) tNil)))) (by decide +kernel) (by decide +kernel) (by rfl) (fun _ _ _ _ _ => rfl) (fun A' o' s' H' E' f' c' rm => pe_call FDM (rm.mono (by decide)) (by rfl) gDM kDM bDM .nil (passes_call (E := E') (takes_of rfl rfl rfl rfl) (fun _ _ _ _ h => h)) (by exact (pa_cons (pe_tup (pa_cons pe_int (pa_cons pe_int pa_nil))) (pa_cons (pe_op op_mulT (pe_tup (pa_cons pe_int pa_nil)) pe_int) pa_nil))))) pa_nil)))
    (pss_cons (ps_set (i := 6) scOR.nd rfl (.inl rfl) (pe_lst (pa_cons (pe_op op_add_str pe_str (pe_callB (call_reprS (by exact hgd) (by exact hr.units)) (by rfl) T.repr bootRepr (pa_cons (pv 1) pa_nil))) (pa_cons pe_str (pa_cons pe_str (pa_cons pe_str (pa_cons pe_str (pa_cons pe_str (pa_cons pe_str (pa_cons pe_str (pa_cons pe_str (pa_cons pe_str pa_nil))))))))))))
    (pss_one (ps_ret (pe_callC FAr hgd hr (by rfl) gAr kAr bAr hcl hfn hvis (pa_cons (pv 5) (pa_cons (pv 6) pa_nil)))))))))))))))))))), ?_⟩
  have dS : d ∈ [d] := List.mem_cons_self
  have dN : ∀ {H' : Hp} {L' : List V}, H' d = some (.lst L') → ∀ s' ∈ [d], H' s' ≠ none := fun e s' hs => by
    rw [List.mem_singleton.mp hs, e]
    exact (fun z => nomatch z)
  refine pick_dat (ds := numO) rfl hd hL dS (dN hd) (by simp [numO]) (by decide) (fun v1 d1 L1' H1 m1 a1 kq1 hd1 hL1 => ?_)
  refine pick_dat (ds := degO) rfl hd1 hL1 dS (dN hd1) (by simp [degO]) (by decide) (fun v2 d2 L2' H2 m2 a2 kq2 hd2 hL2 => ?_)
  replace a1 := a1.mono kq2.kp
  refine pick_dat (ds := farO) rfl hd2 hL2 dS (dN hd2) (by simp [farO]) (by decide) (fun v3 d3 L3' H3 m3 a3 kq3 hd3 hL3 => ?_)
  replace a1 := a1.mono kq3.kp
  replace a2 := a2.mono kq3.kp
  refine pick_dat (ds := wideO) rfl hd3 hL3 dS (dN hd3) (by simp [wideO]) (by decide) (fun v4 d4 L4' H4 m4 a4 kq4 hd4 hL4 => ?_)
  replace a1 := a1.mono kq4.kp
  replace a2 := a2.mono kq4.kp
  replace a3 := a3.mono kq4.kp
  have kqa := (((kq1.trans kq2).trans kq3).trans kq4)
  have hT1 : Tabs T' H4 := tabs_kq hT kqa
  have kp0 := kqa.kp
  have o1 := List.all_eq_true.mp numO_ok d1 m1
  rw [Bool.and_eq_true] at o1
  have o1b : dbet 0 1000 d1 = false := of_not o1.1
  have o2b : dtup 6 1 40 d2 = false := of_not (List.all_eq_true.mp degO_ok d2 m2)
  have o3 := List.all_eq_true.mp farO_ok d3 m3
  have o4 := List.all_eq_true.mp wideO_ok d4 m4
  -- what stays true
  have eV : ∀ Ha, ExtN H4 Ha → Vk K Ha v1 := fun Ha e => (a1.mono (Kp.of e)).vk
  have eB : betw v1 0 1000 = false := by rw [a1.betw 0 1000]; exact o1b
  have eS : ∀ Ha, ExtN H4 Ha → TupIs K Ha 6 1 40 v2 false := fun Ha e => by
    have q := (a2.mono (Kp.of e)).tupIs (K := K) 6 1 40
    rw [o2b] at q
    exact q
  have eF : ∀ Ha, ExtN H4 Ha → PairMany K Ha v3 80 := fun Ha e => (a3.mono (Kp.of e)).pairMany o3
  have eW : ∀ Ha, ExtN H4 Ha → PairMany K Ha v4 150 := fun Ha e => (a4.mono (Kp.of e)).pairMany o4
  have eX : ∀ Ha, ExtN H4 Ha → ∀ H', Same Ha H' → Shown K H' v1 d1.shown := fun Ha e H' s' => (((a1.mono (Kp.of e)).mono (Kq.same s').kp).shown (K := K) (fineO_show o1.2)).1
  have lX : d1.shown.length ≤ 900 := (a1.shown (K := K) (fineO_show o1.2)).2
  have b6 : betw (.int 6) 0 1000 = true := betw_small (by decide) (by decide) (by decide) (by decide)
  have xt : ∀ {A B C : Hp}, ExtN A B → ExtN B C → ExtN A C := fun a b c o q n => b c o (a c o q n) n
  have xs' : ∀ {A B : Hp}, Same A B → ExtN A B := fun a c o q _ => a c o q
  have xw : ∀ {A B : Hp} {l : Addr} {o : HO}, ExtN A B → (∀ u, A l = some u → ∃ ps, u = .tbl ps) → ExtN A (upd B l o) := fun {A B l o} a n c u q t => by
    rw [upd_ne fun z => ?_]
    · exact a c u q t
    · obtain ⟨ps, e⟩ := n u (by rw [← z]; exact q)
      exact t ps e
  have xn : ∀ {A B : Hp} {l : Addr}, ExtN A B → B l = none → ∀ u, A l = some u → ∃ ps, u = .tbl ps := fun {A B l} a n u q => by
    refine Classical.byContradiction fun no => ?_
    have := a l u q fun ps e => no ⟨ps, e⟩
    rw [this] at n
    cases n
  have tw : ∀ {B : Hp} {l : Addr} {xs : List V} {o : HO}, Tabs T' B → B l = some (.lst xs) → Tabs T' (upd B l o) := fun {B l xs o} t e p hp => by
    obtain ⟨ps, h1, h2, h3⟩ := t p hp
    refine ⟨ps, by rw [upd_ne fun z => by rw [z, e] at h1; cases h1]; exact h1, h2, fun pos cv hc => ?_⟩
    obtain ⟨cc, g1, g2⟩ := h3 pos cv hc
    exact ⟨cc, g1, by rw [upd_ne fun z => by rw [z, e] at g2; unfold CodeO at g2; cases g2]; exact g2⟩
  have nt : ∀ {xs : List V} (ps : Array Value), HO.tup xs ≠ .tbl ps := fun ps z => nomatch z
  have nl : ∀ {xs : List V} (ps : Array Value), HO.lst xs ≠ .tbl ps := fun ps z => nomatch z
  have tsm : ∀ {A B : Hp}, Tabs T' A → Same A B → Tabs T' B := fun a c p hp => (a p hp).ext c
  refine ⟨hT1, fun f1 K1 e1 t1' kept1 => ⟨by show 1 ≤ sizeLine; decide, fun lc hlc => ?_⟩⟩
  have nlc := xn e1 hlc
  have h1 : upd K1 lc (.lst [.ref f1]) lc = some (.lst [.ref f1]) := upd_same
  have s1 := Same.new (o := .lst [.ref f1]) hlc
  have y1 := xt e1 (xs' s1)
  have w1 := tsm t1' s1
  replace kept1 := kept1.ext (xs' s1)
  generalize upd K1 lc (.lst [.ref f1]) = J1 at *
  refine ⟨_, rfl, .inl ⟨rfl, _, SqL.of h1⟩, w1, fun f2 K2 e2 t2' kept2 => ?_⟩
  have g2 := e2 _ _ h1 nl
  refine ⟨lc, [.ref f1], .ref f2, rfl, rfl, g2, by show 1 < sizeLine; decide, ?_⟩
  have h2 : upd K2 lc (.lst ([.ref f1] ++ [.ref f2])) lc = some (.lst [.ref f1, .ref f2]) := upd_same
  have y2 := xw (o := .lst ([.ref f1] ++ [.ref f2])) (xt y1 e2) nlc
  have w2 := tw (o := .lst ([.ref f1] ++ [.ref f2])) t2' g2
  replace kept1 := (kept1.ext e2).write (o := .lst ([.ref f1] ++ [.ref f2])) g2
  replace kept2 := kept2.write (o := .lst ([.ref f1] ++ [.ref f2])) g2
  generalize upd K2 lc (.lst ([.ref f1] ++ [.ref f2])) = J2 at *
  refine ⟨_, rfl, .inl ⟨rfl, _, SqL.of h2⟩, w2, fun f3 K3 e3 t3' kept3 => ?_⟩
  have g3 := e3 _ _ h2 nl
  refine ⟨lc, [.ref f1, .ref f2], .ref f3, rfl, rfl, g3, by show 2 < sizeLine; decide, ?_⟩
  have h3 : upd K3 lc (.lst ([.ref f1, .ref f2] ++ [.ref f3])) lc = some (.lst [.ref f1, .ref f2, .ref f3]) := upd_same
  have y3 := xw (o := .lst ([.ref f1, .ref f2] ++ [.ref f3])) (xt y2 e3) nlc
  have w3 := tw (o := .lst ([.ref f1, .ref f2] ++ [.ref f3])) t3' g3
  replace kept1 := (kept1.ext e3).write (o := .lst ([.ref f1, .ref f2] ++ [.ref f3])) g3
  replace kept2 := (kept2.ext e3).write (o := .lst ([.ref f1, .ref f2] ++ [.ref f3])) g3
  replace kept3 := kept3.write (o := .lst ([.ref f1, .ref f2] ++ [.ref f3])) g3
  generalize upd K3 lc (.lst ([.ref f1, .ref f2] ++ [.ref f3])) = J3 at *
  refine ⟨_, rfl, .inl ⟨rfl, _, SqL.of h3⟩, w3, fun f4 K4 e4 t4' kept4 => ?_⟩
  have g4 := e4 _ _ h3 nl
  refine ⟨lc, [.ref f1, .ref f2, .ref f3], .ref f4, rfl, rfl, g4, by show 3 < sizeLine; decide, ?_⟩
  have h4 : upd K4 lc (.lst ([.ref f1, .ref f2, .ref f3] ++ [.ref f4])) lc = some (.lst [.ref f1, .ref f2, .ref f3, .ref f4]) := upd_same
  have y4 := xw (o := .lst ([.ref f1, .ref f2, .ref f3] ++ [.ref f4])) (xt y3 e4) nlc
  have w4 := tw (o := .lst ([.ref f1, .ref f2, .ref f3] ++ [.ref f4])) t4' g4
  replace kept1 := (kept1.ext e4).write (o := .lst ([.ref f1, .ref f2, .ref f3] ++ [.ref f4])) g4
  replace kept2 := (kept2.ext e4).write (o := .lst ([.ref f1, .ref f2, .ref f3] ++ [.ref f4])) g4
  replace kept3 := (kept3.ext e4).write (o := .lst ([.ref f1, .ref f2, .ref f3] ++ [.ref f4])) g4
  replace kept4 := kept4.write (o := .lst ([.ref f1, .ref f2, .ref f3] ++ [.ref f4])) g4
  generalize upd K4 lc (.lst ([.ref f1, .ref f2, .ref f3] ++ [.ref f4])) = J4 at *
  refine ⟨_, rfl, .inl ⟨rfl, _, SqL.of h4⟩, w4, fun f5 K5 e5 t5' kept5 => ?_⟩
  have g5 := e5 _ _ h4 nl
  refine ⟨lc, [.ref f1, .ref f2, .ref f3, .ref f4], .ref f5, rfl, rfl, g5, by show 4 < sizeLine; decide, ?_⟩
  have h5 : upd K5 lc (.lst ([.ref f1, .ref f2, .ref f3, .ref f4] ++ [.ref f5])) lc = some (.lst [.ref f1, .ref f2, .ref f3, .ref f4, .ref f5]) := upd_same
  have y5 := xw (o := .lst ([.ref f1, .ref f2, .ref f3, .ref f4] ++ [.ref f5])) (xt y4 e5) nlc
  have w5 := tw (o := .lst ([.ref f1, .ref f2, .ref f3, .ref f4] ++ [.ref f5])) t5' g5
  replace kept1 := (kept1.ext e5).write (o := .lst ([.ref f1, .ref f2, .ref f3, .ref f4] ++ [.ref f5])) g5
  replace kept2 := (kept2.ext e5).write (o := .lst ([.ref f1, .ref f2, .ref f3, .ref f4] ++ [.ref f5])) g5
  replace kept3 := (kept3.ext e5).write (o := .lst ([.ref f1, .ref f2, .ref f3, .ref f4] ++ [.ref f5])) g5
  replace kept4 := (kept4.ext e5).write (o := .lst ([.ref f1, .ref f2, .ref f3, .ref f4] ++ [.ref f5])) g5
  replace kept5 := kept5.write (o := .lst ([.ref f1, .ref f2, .ref f3, .ref f4] ++ [.ref f5])) g5
  generalize upd K5 lc (.lst ([.ref f1, .ref f2, .ref f3, .ref f4] ++ [.ref f5])) = J5 at *
  refine ⟨_, rfl, .inl ⟨rfl, _, SqL.of h5⟩, w5, fun f6 K6 e6 t6' kept6 => ?_⟩
  have g6 := e6 _ _ h5 nl
  refine ⟨lc, [.ref f1, .ref f2, .ref f3, .ref f4, .ref f5], .ref f6, rfl, rfl, g6, by show 5 < sizeLine; decide, ?_⟩
  have h6 : upd K6 lc (.lst ([.ref f1, .ref f2, .ref f3, .ref f4, .ref f5] ++ [.ref f6])) lc = some (.lst [.ref f1, .ref f2, .ref f3, .ref f4, .ref f5, .ref f6]) := upd_same
  have y6 := xw (o := .lst ([.ref f1, .ref f2, .ref f3, .ref f4, .ref f5] ++ [.ref f6])) (xt y5 e6) nlc
  have w6 := tw (o := .lst ([.ref f1, .ref f2, .ref f3, .ref f4, .ref f5] ++ [.ref f6])) t6' g6
  replace kept1 := (kept1.ext e6).write (o := .lst ([.ref f1, .ref f2, .ref f3, .ref f4, .ref f5] ++ [.ref f6])) g6
  replace kept2 := (kept2.ext e6).write (o := .lst ([.ref f1, .ref f2, .ref f3, .ref f4, .ref f5] ++ [.ref f6])) g6
  replace kept3 := (kept3.ext e6).write (o := .lst ([.ref f1, .ref f2, .ref f3, .ref f4, .ref f5] ++ [.ref f6])) g6
  replace kept4 := (kept4.ext e6).write (o := .lst ([.ref f1, .ref f2, .ref f3, .ref f4, .ref f5] ++ [.ref f6])) g6
  replace kept5 := (kept5.ext e6).write (o := .lst ([.ref f1, .ref f2, .ref f3, .ref f4, .ref f5] ++ [.ref f6])) g6
  replace kept6 := kept6.write (o := .lst ([.ref f1, .ref f2, .ref f3, .ref f4, .ref f5] ++ [.ref f6])) g6
  generalize upd K6 lc (.lst ([.ref f1, .ref f2, .ref f3, .ref f4, .ref f5] ++ [.ref f6])) = J6 at *
  refine ⟨_, rfl, .inl ⟨rfl, _, SqL.of h6⟩, w6, fun f7 K7 e7 t7' kept7 => ?_⟩
  have g7 := e7 _ _ h6 nl
  refine ⟨lc, [.ref f1, .ref f2, .ref f3, .ref f4, .ref f5, .ref f6], .ref f7, rfl, rfl, g7, by show 6 < sizeLine; decide, ?_⟩
  have h7 : upd K7 lc (.lst ([.ref f1, .ref f2, .ref f3, .ref f4, .ref f5, .ref f6] ++ [.ref f7])) lc = some (.lst [.ref f1, .ref f2, .ref f3, .ref f4, .ref f5, .ref f6, .ref f7]) := upd_same
  have y7 := xw (o := .lst ([.ref f1, .ref f2, .ref f3, .ref f4, .ref f5, .ref f6] ++ [.ref f7])) (xt y6 e7) nlc
  have w7 := tw (o := .lst ([.ref f1, .ref f2, .ref f3, .ref f4, .ref f5, .ref f6] ++ [.ref f7])) t7' g7
  replace kept1 := (kept1.ext e7).write (o := .lst ([.ref f1, .ref f2, .ref f3, .ref f4, .ref f5, .ref f6] ++ [.ref f7])) g7
  replace kept2 := (kept2.ext e7).write (o := .lst ([.ref f1, .ref f2, .ref f3, .ref f4, .ref f5, .ref f6] ++ [.ref f7])) g7
  replace kept3 := (kept3.ext e7).write (o := .lst ([.ref f1, .ref f2, .ref f3, .ref f4, .ref f5, .ref f6] ++ [.ref f7])) g7
  replace kept4 := (kept4.ext e7).write (o := .lst ([.ref f1, .ref f2, .ref f3, .ref f4, .ref f5, .ref f6] ++ [.ref f7])) g7
  replace kept5 := (kept5.ext e7).write (o := .lst ([.ref f1, .ref f2, .ref f3, .ref f4, .ref f5, .ref f6] ++ [.ref f7])) g7
  replace kept6 := (kept6.ext e7).write (o := .lst ([.ref f1, .ref f2, .ref f3, .ref f4, .ref f5, .ref f6] ++ [.ref f7])) g7
  replace kept7 := kept7.write (o := .lst ([.ref f1, .ref f2, .ref f3, .ref f4, .ref f5, .ref f6] ++ [.ref f7])) g7
  generalize upd K7 lc (.lst ([.ref f1, .ref f2, .ref f3, .ref f4, .ref f5, .ref f6] ++ [.ref f7])) = J7 at *
  refine ⟨_, rfl, .inl ⟨rfl, _, SqL.of h7⟩, w7, fun f8 K8 e8 t8' kept8 => ?_⟩
  have g8 := e8 _ _ h7 nl
  refine ⟨lc, [.ref f1, .ref f2, .ref f3, .ref f4, .ref f5, .ref f6, .ref f7], .ref f8, rfl, rfl, g8, by show 7 < sizeLine; decide, ?_⟩
  have h8 : upd K8 lc (.lst ([.ref f1, .ref f2, .ref f3, .ref f4, .ref f5, .ref f6, .ref f7] ++ [.ref f8])) lc = some (.lst [.ref f1, .ref f2, .ref f3, .ref f4, .ref f5, .ref f6, .ref f7, .ref f8]) := upd_same
  have y8 := xw (o := .lst ([.ref f1, .ref f2, .ref f3, .ref f4, .ref f5, .ref f6, .ref f7] ++ [.ref f8])) (xt y7 e8) nlc
  have w8 := tw (o := .lst ([.ref f1, .ref f2, .ref f3, .ref f4, .ref f5, .ref f6, .ref f7] ++ [.ref f8])) t8' g8
  replace kept1 := (kept1.ext e8).write (o := .lst ([.ref f1, .ref f2, .ref f3, .ref f4, .ref f5, .ref f6, .ref f7] ++ [.ref f8])) g8
  replace kept2 := (kept2.ext e8).write (o := .lst ([.ref f1, .ref f2, .ref f3, .ref f4, .ref f5, .ref f6, .ref f7] ++ [.ref f8])) g8
  replace kept3 := (kept3.ext e8).write (o := .lst ([.ref f1, .ref f2, .ref f3, .ref f4, .ref f5, .ref f6, .ref f7] ++ [.ref f8])) g8
  replace kept4 := (kept4.ext e8).write (o := .lst ([.ref f1, .ref f2, .ref f3, .ref f4, .ref f5, .ref f6, .ref f7] ++ [.ref f8])) g8
  replace kept5 := (kept5.ext e8).write (o := .lst ([.ref f1, .ref f2, .ref f3, .ref f4, .ref f5, .ref f6, .ref f7] ++ [.ref f8])) g8
  replace kept6 := (kept6.ext e8).write (o := .lst ([.ref f1, .ref f2, .ref f3, .ref f4, .ref f5, .ref f6, .ref f7] ++ [.ref f8])) g8
  replace kept7 := (kept7.ext e8).write (o := .lst ([.ref f1, .ref f2, .ref f3, .ref f4, .ref f5, .ref f6, .ref f7] ++ [.ref f8])) g8
  replace kept8 := kept8.write (o := .lst ([.ref f1, .ref f2, .ref f3, .ref f4, .ref f5, .ref f6, .ref f7] ++ [.ref f8])) g8
  generalize upd K8 lc (.lst ([.ref f1, .ref f2, .ref f3, .ref f4, .ref f5, .ref f6, .ref f7] ++ [.ref f8])) = J8 at *
  refine ⟨_, rfl, .inl ⟨rfl, _, SqL.of h8⟩, w8, fun f9 K9 e9 t9' kept9 => ?_⟩
  have g9 := e9 _ _ h8 nl
  refine ⟨lc, [.ref f1, .ref f2, .ref f3, .ref f4, .ref f5, .ref f6, .ref f7, .ref f8], .ref f9, rfl, rfl, g9, by show 8 < sizeLine; decide, ?_⟩
  have h9 : upd K9 lc (.lst ([.ref f1, .ref f2, .ref f3, .ref f4, .ref f5, .ref f6, .ref f7, .ref f8] ++ [.ref f9])) lc = some (.lst [.ref f1, .ref f2, .ref f3, .ref f4, .ref f5, .ref f6, .ref f7, .ref f8, .ref f9]) := upd_same
  have y9 := xw (o := .lst ([.ref f1, .ref f2, .ref f3, .ref f4, .ref f5, .ref f6, .ref f7, .ref f8] ++ [.ref f9])) (xt y8 e9) nlc
  have w9 := tw (o := .lst ([.ref f1, .ref f2, .ref f3, .ref f4, .ref f5, .ref f6, .ref f7, .ref f8] ++ [.ref f9])) t9' g9
  replace kept1 := (kept1.ext e9).write (o := .lst ([.ref f1, .ref f2, .ref f3, .ref f4, .ref f5, .ref f6, .ref f7, .ref f8] ++ [.ref f9])) g9
  replace kept2 := (kept2.ext e9).write (o := .lst ([.ref f1, .ref f2, .ref f3, .ref f4, .ref f5, .ref f6, .ref f7, .ref f8] ++ [.ref f9])) g9
  replace kept3 := (kept3.ext e9).write (o := .lst ([.ref f1, .ref f2, .ref f3, .ref f4, .ref f5, .ref f6, .ref f7, .ref f8] ++ [.ref f9])) g9
  replace kept4 := (kept4.ext e9).write (o := .lst ([.ref f1, .ref f2, .ref f3, .ref f4, .ref f5, .ref f6, .ref f7, .ref f8] ++ [.ref f9])) g9
  replace kept5 := (kept5.ext e9).write (o := .lst ([.ref f1, .ref f2, .ref f3, .ref f4, .ref f5, .ref f6, .ref f7, .ref f8] ++ [.ref f9])) g9
  replace kept6 := (kept6.ext e9).write (o := .lst ([.ref f1, .ref f2, .ref f3, .ref f4, .ref f5, .ref f6, .ref f7, .ref f8] ++ [.ref f9])) g9
  replace kept7 := (kept7.ext e9).write (o := .lst ([.ref f1, .ref f2, .ref f3, .ref f4, .ref f5, .ref f6, .ref f7, .ref f8] ++ [.ref f9])) g9
  replace kept8 := (kept8.ext e9).write (o := .lst ([.ref f1, .ref f2, .ref f3, .ref f4, .ref f5, .ref f6, .ref f7, .ref f8] ++ [.ref f9])) g9
  replace kept9 := kept9.write (o := .lst ([.ref f1, .ref f2, .ref f3, .ref f4, .ref f5, .ref f6, .ref f7, .ref f8] ++ [.ref f9])) g9
  generalize upd K9 lc (.lst ([.ref f1, .ref f2, .ref f3, .ref f4, .ref f5, .ref f6, .ref f7, .ref f8] ++ [.ref f9])) = J9 at *
  refine ⟨_, rfl, .inl ⟨rfl, _, SqL.of h9⟩, w9, fun f10 K10 e10 t10' kept10 => ?_⟩
  have g10 := e10 _ _ h9 nl
  refine ⟨lc, [.ref f1, .ref f2, .ref f3, .ref f4, .ref f5, .ref f6, .ref f7, .ref f8, .ref f9], .ref f10, rfl, rfl, g10, by show 9 < sizeLine; decide, ?_⟩
  have h10 : upd K10 lc (.lst ([.ref f1, .ref f2, .ref f3, .ref f4, .ref f5, .ref f6, .ref f7, .ref f8, .ref f9] ++ [.ref f10])) lc = some (.lst [.ref f1, .ref f2, .ref f3, .ref f4, .ref f5, .ref f6, .ref f7, .ref f8, .ref f9, .ref f10]) := upd_same
  have y10 := xw (o := .lst ([.ref f1, .ref f2, .ref f3, .ref f4, .ref f5, .ref f6, .ref f7, .ref f8, .ref f9] ++ [.ref f10])) (xt y9 e10) nlc
  have w10 := tw (o := .lst ([.ref f1, .ref f2, .ref f3, .ref f4, .ref f5, .ref f6, .ref f7, .ref f8, .ref f9] ++ [.ref f10])) t10' g10
  replace kept1 := (kept1.ext e10).write (o := .lst ([.ref f1, .ref f2, .ref f3, .ref f4, .ref f5, .ref f6, .ref f7, .ref f8, .ref f9] ++ [.ref f10])) g10
  replace kept2 := (kept2.ext e10).write (o := .lst ([.ref f1, .ref f2, .ref f3, .ref f4, .ref f5, .ref f6, .ref f7, .ref f8, .ref f9] ++ [.ref f10])) g10
  replace kept3 := (kept3.ext e10).write (o := .lst ([.ref f1, .ref f2, .ref f3, .ref f4, .ref f5, .ref f6, .ref f7, .ref f8, .ref f9] ++ [.ref f10])) g10
  replace kept4 := (kept4.ext e10).write (o := .lst ([.ref f1, .ref f2, .ref f3, .ref f4, .ref f5, .ref f6, .ref f7, .ref f8, .ref f9] ++ [.ref f10])) g10
  replace kept5 := (kept5.ext e10).write (o := .lst ([.ref f1, .ref f2, .ref f3, .ref f4, .ref f5, .ref f6, .ref f7, .ref f8, .ref f9] ++ [.ref f10])) g10
  replace kept6 := (kept6.ext e10).write (o := .lst ([.ref f1, .ref f2, .ref f3, .ref f4, .ref f5, .ref f6, .ref f7, .ref f8, .ref f9] ++ [.ref f10])) g10
  replace kept7 := (kept7.ext e10).write (o := .lst ([.ref f1, .ref f2, .ref f3, .ref f4, .ref f5, .ref f6, .ref f7, .ref f8, .ref f9] ++ [.ref f10])) g10
  replace kept8 := (kept8.ext e10).write (o := .lst ([.ref f1, .ref f2, .ref f3, .ref f4, .ref f5, .ref f6, .ref f7, .ref f8, .ref f9] ++ [.ref f10])) g10
  replace kept9 := (kept9.ext e10).write (o := .lst ([.ref f1, .ref f2, .ref f3, .ref f4, .ref f5, .ref f6, .ref f7, .ref f8, .ref f9] ++ [.ref f10])) g10
  replace kept10 := kept10.write (o := .lst ([.ref f1, .ref f2, .ref f3, .ref f4, .ref f5, .ref f6, .ref f7, .ref f8, .ref f9] ++ [.ref f10])) g10
  generalize upd K10 lc (.lst ([.ref f1, .ref f2, .ref f3, .ref f4, .ref f5, .ref f6, .ref f7, .ref f8, .ref f9] ++ [.ref f10])) = J10 at *
  have e7 : ("number " : Str).length = 7 := by decide +kernel
  refine ⟨_, rfl, v1, _, rfl, eX _ y10 _ (Same.refl _), _, _, rfl, rfl, sl (by rw [e7]; omega), by show 10 ≤ sizeLine; decide, fun ld hld => ?_⟩
  refine ⟨_, rfl, _, rfl, fun n Hx out ck cv => ?_⟩
  have slz := Same.new (o := .lst ((["number " ++ d1.shown, "letters", "", "", "many 80", "many 80", "many 150", "many 150", "", "many 80"] : List Str).map V.str)) hld
  have hc : upd J10 ld (.lst ((["number " ++ d1.shown, "letters", "", "", "many 80", "many 80", "many 150", "many 150", "", "many 80"] : List Str).map V.str)) lc = some (.lst ([f1, f2, f3, f4, f5, f6, f7, f8, f9, f10].map V.ref)) := slz _ _ h10
  have hld2 : upd J10 ld (.lst ((["number " ++ d1.shown, "letters", "", "", "many 80", "many 80", "many 150", "many 150", "", "many 80"] : List Str).map V.str)) ld = some (.lst ((["number " ++ d1.shown, "letters", "", "", "many 80", "many 80", "many 150", "many 150", "", "many 80"] : List Str).map V.str)) := upd_same
  have xall := xt y10 (xs' slz)
  have wz := tsm w10 slz
  replace kept1 := kept1.ext (xs' slz)
  replace kept2 := kept2.ext (xs' slz)
  replace kept3 := kept3.ext (xs' slz)
  replace kept4 := kept4.ext (xs' slz)
  replace kept5 := kept5.ext (xs' slz)
  replace kept6 := kept6.ext (xs' slz)
  replace kept7 := kept7.ext (xs' slz)
  replace kept8 := kept8.ext (xs' slz)
  replace kept9 := kept9.ext (xs' slz)
  replace kept10 := kept10.ext (xs' slz)
  replace n : ∀ b ∈ cellsOf (cxOf CX0 P w K mg base nOR "_law_others_right" (defScope sLawOthersRight) f (.ref c) A outer s H E).nox, upd J10 ld (.lst ((["number " ++ d1.shown, "letters", "", "", "many 80", "many 80", "many 150", "many 150", "", "many 80"] : List Str).map V.str)) b = none := n
  replace out : ∀ b, b ∉ cellsOf (cxOf CX0 P w K mg base nOR "_law_others_right" (defScope sLawOthersRight) f (.ref c) A outer s H E).nox → Hx b = upd J10 ld (.lst ((["number " ++ d1.shown, "letters", "", "", "many 80", "many 80", "many 150", "many 150", "", "many 80"] : List Str).map V.str)) b := out
  generalize upd J10 ld (.lst ((["number " ++ d1.shown, "letters", "", "", "many 80", "many 80", "many 150", "many 150", "", "many 80"] : List Str).map V.str)) = Jz at *
  have nin : ∀ {b : Addr} {o : HO}, Jz b = some o → b ∉ cellsOf (cxOf CX0 P w K mg base nOR "_law_others_right" (defScope sLawOthersRight) f (.ref c) A outer s H E).nox := fun {b o} e z => by
    rw [n b z] at e
    cases e
  have lay : ∀ z ∈ (["number " ++ d1.shown, "letters", "", "", "many 80", "many 80", "many 150", "many 150", "", "many 80"] : List Str), (PyData.str z).canLay0 = true := fun z hz => by
    have p1 : (PyData.str "letters").canLay0 = true := by decide +kernel
    have p2 : (PyData.str "many 80").canLay0 = true := by decide +kernel
    have p3 : (PyData.str "").canLay0 = true := by decide +kernel
    have p4 : (PyData.str "many 150").canLay0 = true := by decide +kernel
    simp only [List.mem_cons, List.not_mem_nil, or_false] at hz
    rcases hz with e | e | e | e | e | e | e | e | e | e <;> subst e <;> first | assumption | exact fineO_lay o1.2
  have hm8 : ("many 80" : Str) = "many " ++ (PyData.int 80).shown := by decide +kernel
  have hm15 : ("many 150" : Str) = "many " ++ (PyData.int 150).shown := by decide +kernel
  have k80 : showOk (.int 80) = true := by decide +kernel
  have k150 : showOk (.int 150) = true := by decide +kernel
  have sh80 : ∀ H', Shown K H' (.int 80) (PyData.int 80).shown := fun H' => ((Da.int (N := NoL) (H := H') 80).shown (K := K) k80).1
  have sh150 : ∀ H', Shown K H' (.int 150) (PyData.int 150).shown := fun H' => ((Da.int (N := NoL) (H := H') 150).shown (K := K) k150).1
  have l80 : (PyData.int 80).shown.length ≤ 900 := ((Da.int (N := NoL) (H := Jz) 80).shown (K := K) k80).2
  have l150 : (PyData.int 150).shown.length ≤ 900 := ((Da.int (N := NoL) (H := Jz) 150).shown (K := K) k150).2
  refine ⟨lc, ld, [f1, f2, f3, f4, f5, f6, f7, f8, f9, f10], (["number " ++ d1.shown, "letters", "", "", "many 80", "many 80", "many 150", "many 150", "", "many 80"] : List Str), rfl, (out lc (nin hc)).trans hc, (out ld (nin hld2)).trans hld2, rfl, by show 10 ≤ 900; decide, lay, fun i fi z hf hz => ?_, fun H' s' => ?_⟩
  · match i, hf, hz with
    | 0, hf, hz =>
      cases hf; cases hz
      exact kept_met kept1 hinj rfl n out ck cv (fun Ha ea => .number (x := v1) (eX _ (xt xall ea)) lX fun E' Q' hE => ⟨_, rfl, _, rfl, v1, v2, rfl, eV _ (xt xall ea), eB, hE⟩)
    | 1, hf, hz =>
      cases hf; cases hz
      exact kept_met kept2 hinj rfl n out ck cv (fun Ha ea => .letters fun E' Q' hE => ⟨_, rfl, .int 6, v2, rfl, .int 6, b6, eS _ (xt xall ea), hE⟩)
    | 2, hf, hz =>
      cases hf; cases hz
      exact kept_met kept3 hinj rfl n out ck cv (fun Ha ea => .fine fun E' Q' hQ => ⟨by show 2 ≤ sizeLine; decide, fun u hu => ⟨u, [1, 40], 1000, rfl, SqT.of upd_same, by decide, by decide, by decide, by decide, fun H' s => hQ _ H' ((Same.new hu).trans s)⟩⟩)
    | 3, hf, hz =>
      cases hf; cases hz
      exact kept_met kept4 hinj rfl n out ck cv (fun Ha ea => .fine fun E' Q' hQ => ⟨by show 0 ≤ sizeLine; decide, fun u hu => ⟨u, [], 0, rfl, SqT.of upd_same, by decide, by decide, by decide, by decide, fun H' s => hQ _ H' ((Same.new hu).trans s)⟩⟩)
    | 4, hf, hz =>
      cases hf; cases hz
      exact kept_met kept5 hinj rfl n out ck cv (fun Ha ea => by
        obtain ⟨t, a, b, EV, OD, rfl, ht, ha, hb, hE2, hO2, hn2, hl2⟩ := eF _ (xt xall ea)
        rw [hm8]
        exact .many sh80 l80 fun E' Q' hE => ⟨_, rfl, t, _, _, _, rfl, rfl, ht, rfl, _, rfl, t, _, _, _, rfl, rfl, ht, rfl, a, b, EV, OD, 80, rfl, ha, hE2, hb, hO2, hn2, hl2, hE⟩)
    | 5, hf, hz =>
      cases hf; cases hz
      exact kept_met kept6 hinj rfl n out ck cv (fun Ha ea => by
        obtain ⟨t, a, b, EV, OD, rfl, ht, ha, hb, hE2, hO2, hn2, hl2⟩ := eF _ (xt xall ea)
        rw [hm8]
        exact .many sh80 l80 fun E' Q' hE => ⟨_, rfl, t, _, _, _, rfl, rfl, ht, rfl, _, rfl, t, _, _, _, rfl, rfl, ht, rfl, a, b, .non, EV, OD, 80, rfl, ha, hE2, hb, hO2, hn2, hl2, hE⟩)
    | 6, hf, hz =>
      cases hf; cases hz
      exact kept_met kept7 hinj rfl n out ck cv (fun Ha ea => by
        obtain ⟨t, a, b, EV, OD, rfl, ht, ha, hb, hE2, hO2, hn2, hl2⟩ := eW _ (xt xall ea)
        rw [hm15]
        exact .many sh150 l150 fun E' Q' hE => ⟨_, rfl, t, _, _, _, rfl, rfl, ht, rfl, _, rfl, t, _, _, _, rfl, rfl, ht, rfl, a, b, EV, OD, 150, rfl, ha, hE2, hb, hO2, hn2, hl2, hE⟩)
    | 7, hf, hz =>
      cases hf; cases hz
      exact kept_met kept8 hinj rfl n out ck cv (fun Ha ea => by
        obtain ⟨t, a, b, EV, OD, rfl, ht, ha, hb, hE2, hO2, hn2, hl2⟩ := eW _ (xt xall ea)
        rw [hm15]
        exact .many sh150 l150 fun E' Q' hE => ⟨_, rfl, t, _, _, _, rfl, rfl, ht, rfl, _, rfl, t, _, _, _, rfl, rfl, ht, rfl, by show 1 ≤ sizeLine; decide, fun u hu => ⟨by show 2 ≤ sizeLine; decide, fun u2 hu2 => ⟨a, b, .ref u2, EV, OD, 150, rfl, tupSame ((Same.new hu).trans (Same.new hu2)) ha, hE2, tupSame ((Same.new hu).trans (Same.new hu2)) hb, hO2, hn2, hl2, hE.mono ((Same.new hu).trans (Same.new hu2))⟩⟩⟩)
    | 8, hf, hz =>
      cases hf; cases hz
      exact kept_met kept9 hinj rfl n out ck cv (fun Ha ea => .fine fun E' Q' hQ => ⟨by show 0 ≤ sizeLine; decide, fun e0 he0 => ⟨by show 1 ≤ sizeLine; decide, fun u hu => ⟨u, 10, [.int 39], rfl, rfl, SqT.of upd_same, (fun z => nomatch z), by decide, by decide, by decide, fun e => absurd e (by decide), fun _ m hm' => ⟨e0, m, [], List.replicate 10 39, rfl, tupSame ((Same.new hu).trans (Same.new hm')) (SqT.of upd_same), SqT.of upd_same, .inr ⟨rfl, rfl⟩, fun v H' s => hQ v H' ((((Same.new he0).trans (Same.new hu)).trans (Same.new hm')).trans s)⟩⟩⟩⟩)
    | 9, hf, hz =>
      cases hf; cases hz
      exact kept_met kept10 hinj rfl n out ck cv (fun Ha ea => by
        rw [hm8]
        exact .many sh80 l80 fun E' Q' hE => ⟨by show 2 ≤ sizeLine; decide, fun e0 he0 => ⟨by show 1 ≤ sizeLine; decide, fun u hu => ⟨u, 10, [.int 39], rfl, rfl, SqT.of upd_same, (fun z => nomatch z), by decide, by decide, by decide, fun e => absurd e (by decide), fun _ m hm' => ⟨e0, m, [20, 20], List.replicate 10 39, 80, rfl, tupSame ((Same.new hu).trans (Same.new hm')) (SqT.of upd_same), evB_ev (by decide +kernel), SqT.of upd_same, odB_od (by decide +kernel), by decide +kernel, by decide +kernel, hE.mono (((Same.new he0).trans (Same.new hu)).trans (Same.new hm'))⟩⟩⟩⟩)
    | i + 10, hf, hz => cases hf
  · have xf : ExtN Jz (minus (cellsOf (cxOf CX0 P w K mg base nOR "_law_others_right" (defScope sLawOthersRight) f (.ref c) A outer s H E).nox) H') := fun b o q _ => (minus_out (nin q)).trans (s' _ _ ((out b (nin q)).trans q))
    have xe := xt xall xf
    exact k _ L4' (fun b o nb e nt' => xe b o (kp0 b o e (.inl fun z => nb (List.mem_singleton.mp z)) nt') nt') (xe _ _ hd4 nl) hL4 (tabs_minus wz n out s')
end
end K9
namespace K9
open PySem PySem.Spec PyProof.Rows L2 LamX LamY
theorem scLaw : FnScope ["script", "spot", "dice"] ["script"] (defScope sLaw) := ⟨rfl, rfl, rfl, by decide +kernel, rfl, by decide +kernel, by decide +kernel⟩
def spLaw (K : PySem.W.Frag) (T : List (Addr × Str)) : Sp := fun vs H Q _ => ∃ (a : Addr) (ns : List Int), vs = [.ref a] ∧ SqL K H a (ns.map V.int) ∧ Tabs T H ∧ ∀ H', Q (.bl true) H'
theorem bar66 : barring [2, 2, 2, 2, 2, 2] (List.replicate 10 39) = [] := by decide +kernel
theorem seq_but {K : PySem.W.Frag} {H H' : Hp} {a p : Addr} {xs : List V} {o : HO} (h : SqL K H a xs) (hp : H p = none) (k : ∀ b u, b ≠ p → upd H p o b = some u → NoTbl u → H' b = some u) : SqL K H' a xs := by
  rcases h with (h | ⟨ob, h⟩) | h
  · have ne := ne_of_none h hp
    exact .inl (.inl (k _ _ ne (by rw [upd_ne ne]; exact h) (lst_nt _)))
  · have ne := ne_of_none h hp
    exact .inl (.inr ⟨ob, k _ _ ne (by rw [upd_ne ne]; exact h) fun _ z => nomatch z⟩)
  · exact .inr h
section
variable {P : Program} {w : World} {K : PySem.W.Frag} {mg : Str → Option Value} {base : Heap} {fD fW fO fV : Addr} {dD dW dO dV : FuncData} {T0 : List (Addr × Str)}
theorem ok_law {f : Addr} {fd : FuncData} (F : Fun K "law" "law" sLaw f fd) (T : Txt K mg)
    (gD : mg "_law_dice" = some (.ref fD)) (kD : PySem.W.keepIn K (.ref fD) = true) (bD : Binds K dD ["script", "spot"] []) (FD : FnOk P w K mg base CX0 1 fD dD ["script", "spot"] (spDice K))
    (gW : mg "_law_degrees_right" = some (.ref fW)) (kW : PySem.W.keepIn K (.ref fW) = true) (bW : Binds K dW ["dice"] []) (FW : LamY.FnG P w K mg base CX0 16 fW dW ["dice"] (spWR T0))
    (gO : mg "_law_others_right" = some (.ref fO)) (kO : PySem.W.keepIn K (.ref fO) = true) (bO : Binds K dO ["dice"] []) (FO : LamY.FnG P w K mg base CX0 16 fO dO ["dice"] (spWR T0))
    (gV : mg "barring_lots" = some (.ref fV)) (kV : PySem.W.keepIn K (.ref fV) = true) (bV : Binds K dV ["evens", "odds"] []) (FV : FnOk P w K mg base CX0 6 fV dV ["evens", "odds"] (spBarring K)) :
    LamY.FnG P w K mg base CX0 17 f fd ["script"] (spLaw K T0) := by
  refine okG F scLaw (fun vs H Q E h => ?_) (fun cdv A outer s H vs Q E hgd hr h => ?_)
  · obtain ⟨a, ns, rfl, _⟩ := h; rfl
  obtain ⟨a, ns, rfl, hS, hT, k⟩ := h
  have hr1 : Room 1 _ := hr.mono (by decide)
  have hr6 : Room 6 _ := hr.mono (by decide)
  obtain ⟨t1, m1⟩ := T.cMAXEVENS
  obtain ⟨t2, m2⟩ := T.cMAXODDS
  obtain ⟨t3, m3⟩ := T.cMAXSHOWN
  obtain ⟨t4, m4⟩ := T.cMAXLISTED
  refine ⟨_, pss_cons (ps_for PassesOwn.never rfl (pi_range1 rfl T.range (pa_cons (pe_callB (call_max2 rfl) (by rfl) T.max bootMax (pa_cons pe_int (pa_cons (pe_callB (call_min2 rfl) (by rfl) T.min bootMin (pa_cons pe_int (pa_cons (pe_callB call_len_seq (by rfl) T.len PySem.boot_len (pa_cons (pv 0) pa_nil)) pa_nil))) pa_nil))) pa_nil))
      (pg_name (i := 1) scLaw.nd rfl (.inl rfl))
      (pss_cons (ps_set (i := 2) scLaw.nd rfl (.inl rfl) (pe_call FD hr1 (by rfl) gD kD bD .nil pass0 (pa_cons (pv 0) (pa_cons (pv 1) pa_nil))))
      (pss_one (ps_if (PW.pt (pw_or (pt_not (pt_val (LamY.pe_callG FW hgd hr (by rfl) gW kW bW (pa_cons (pv 2) pa_nil)))) (pw_or1 (pt_not (pt_val (LamY.pe_callG FO hgd hr (by rfl) gO kO bO (pa_cons (pv 2) pa_nil))))))) (pss_one (ps_ret pe_bl)) pss_nil))))
    (pss_one (ps_ret (pe_and (pe_cmpR (op_eqD hr.units) (pe_lst (pa_cons (pe_glob (v := .int 6) (by rfl) m1 ⟨_, rfl⟩) (pa_cons (pe_glob (v := .int 10) (by rfl) m2 ⟨_, rfl⟩) (pa_cons (pe_glob (v := .int 80) (by rfl) m3 ⟨_, rfl⟩) (pa_cons (pe_glob (v := .int 150) (by rfl) m4 ⟨_, rfl⟩) pa_nil))))) (pe_lst (pa_cons pe_int (pa_cons pe_int (pa_cons pe_int (pa_cons pe_int pa_nil))))) (nomark _))
      (pe_one (pe_cmpR (op_eqD hr.units) (pe_call FV hr6 (by rfl) gV kV bV .nil pass0 (pa_cons (pe_op op_mulT (pe_tup (pa_cons pe_int pa_nil)) pe_int) (pa_cons (pe_op op_mulT (pe_tup (pa_cons pe_int pa_nil)) pe_int) pa_nil))) (pe_tup pa_nil) (nomark _)))))), ?_⟩
  refine ⟨_, rfl, a, _, rfl, .inl hS, _, _, rfl, _, _, rfl, _, rfl, ?_, ?_, ?_⟩
  · split <;> split <;> omega
  · split <;> split <;> omega
  refine for_range (lo := 0) (fun _ σ' H' => (∃ o1 o2 : Option V, σ' = [some (.ref a), o1, o2]) ∧ SqL K H' a (ns.map V.int) ∧ Tabs T0 H') ⟨⟨none, none, rfl⟩, hS, hT⟩ ?_ ?_
  · rintro i σ' H' _ ⟨⟨o1, o2, rfl⟩, hs, ht⟩
    refine ⟨_, rfl, _, rfl, a, _, ns, rfl, hs, by omega, fun L p hL hp => ?_⟩
    have t1 : Tabs T0 (upd H' p (.lst L)) := fun q hq => (ht q hq).ext (Same.new hp)
    exact ⟨_, rfl, p, L, rfl, upd_same, hL, t1, fun H3 L3 B3 h3 hL3 t3 => ⟨_, rfl, iteF ⟨_, rfl, p, L3, rfl, h3, hL3, t3, fun H4 L4 B4 h4 hL4 t4 => ⟨_, rfl, iteF ⟨⟨_, _, rfl⟩, seq_but hs hp fun b u nb e nt => B4 b u nb (B3 b u nb e nt) nt, t4⟩⟩⟩⟩⟩
  rintro σ' H0 ⟨⟨o1, o2, rfl⟩, hs, ht⟩
  refine ⟨by show 4 ≤ sizeLine; decide, fun q1 hq1 => ⟨by show 4 ≤ sizeLine; decide, fun q2 hq2 => ?_⟩⟩
  have sh : Shp 1 (.list ([6, 10, 80, 150].map PyData.int)) := .lst .int _
  refine ⟨.list ([6, 10, 80, 150].map PyData.int), .list ([6, 10, 80, 150].map PyData.int), .lst (SqL.of (Same.new hq2 _ _ upd_same)) (dp_ints [6, 10, 80, 150]), .lst (SqL.of upd_same) (dp_ints [6, 10, 80, 150]), sh.shaped (by decide), sh.shaped (by decide), ?_⟩
  rw [eqv_self sh (by decide)]
  refine ⟨_, rfl, iteT ⟨by show 1 ≤ sizeLine; decide, fun u hu => ⟨u, 6, [.int 2], rfl, rfl, SqT.of upd_same, (fun z => nomatch z), by decide, by decide, by decide, fun e => absurd e (by decide), fun _ m1 hm1 => ⟨by show 1 ≤ sizeLine; decide, fun u2 hu2 => ⟨u2, 10, [.int 39], rfl, rfl, SqT.of upd_same, (fun z => nomatch z), by decide, by decide, by decide, fun e => absurd e (by decide), fun _ m2 hm2 => ?_⟩⟩⟩⟩⟩
  refine ⟨m1, m2, [2, 2, 2, 2, 2, 2], List.replicate 10 39, rfl, tupSame ((Same.new hu2).trans (Same.new hm2)) (SqT.of upd_same), ⟨by decide, by decide, by decide⟩, SqT.of upd_same, ⟨by decide, by decide, by decide⟩, fun H' p ys s' hp tv => ⟨by show 0 ≤ sizeLine; decide, fun q hq => ?_⟩⟩
  have ly := tv_len tv
  rw [bar66] at ly
  obtain rfl := List.eq_nil_of_length_eq_zero ly
  have sh0 : Shp 1 (.tuple []) := ⟨by decide +kernel, by decide +kernel⟩
  refine ⟨.tuple [], .tuple [], .tup (SqT.of (Same.new hq _ _ hp)) .nil, .tup (SqT.of upd_same) .nil, sh0.shaped (by decide), sh0.shaped (by decide), ?_⟩
  rw [eqv_self sh0 (by decide)]
  exact k _
end
end K9
namespace K9
open PySem PySem.Spec PyProof.Rows L2 LamX LamY
/-! ### the end: the law called from outside, no repr under way, tables of code objects -/
/-- what is tracked at first: the tables, and the script where nothing else tells of it -/
def hp0 (cs : List (Addr × Addr)) (a : Addr) (B : Option HO) : Hp := fun b => if b ∈ cs.map (·.2) then some (.tbl #[]) else if b = a then B else none
theorem hp0_tab {cs : List (Addr × Addr)} {a b : Addr} {B : Option HO} (h : b ∈ cs.map (·.2)) : hp0 cs a B b = some (.tbl #[]) := if_pos h
theorem hp0_arg {cs : List (Addr × Addr)} {a : Addr} {B : Option HO} (n : a ∉ cs.map (·.2)) : hp0 cs a B a = B := (if_neg n).trans (if_pos rfl)
theorem hp0_else {cs : List (Addr × Addr)} {a b : Addr} {B : Option HO} (n : b ∉ cs.map (·.2)) (m : b ≠ a) : hp0 cs a B b = none := (if_neg n).trans (if_neg m)
theorem hp0_some {cs : List (Addr × Addr)} {a b : Addr} {B : Option HO} {o : HO} (h : hp0 cs a B b = some o) : (b ∈ cs.map (·.2) ∧ o = .tbl #[]) ∨ (b ∉ cs.map (·.2) ∧ b = a ∧ B = some o) := by
  by_cases e : b ∈ cs.map (·.2)
  · rw [hp0_tab e] at h
    exact .inl ⟨e, (Option.some.inj h).symm⟩
  · by_cases f : b = a
    · subst f
      rw [hp0_arg e] at h
      exact .inr ⟨e, rfl, h⟩
    · rw [hp0_else e f] at h
      cases h
theorem in_tabs {cs : List (Addr × Addr)} {b : Addr} (h : b ∈ cs.map (·.2)) : ∃ p ∈ cs, p.2 = b := by
  obtain ⟨p, hp, e⟩ := List.mem_map.mp h
  exact ⟨p, hp, e⟩
/-- an object that is no sequence and no empty record stays where it is -/
theorem hp0_free {h : Heap} {cs : List (Addr × Addr)} {a b : Addr} {B : Option HO} {o oa : Obj} (tP : ∀ p ∈ cs, h.get? p.2 = some { cls := .none, data := .fields #[] }) (ga : h.get? a = some oa) (e : h.get? b = some o) (n1 : o.data ≠ .fields #[]) (n2 : o ≠ oa) : hp0 cs a B b = none := by
  refine hp0_else (fun q => ?_) (fun q => ?_)
  · obtain ⟨p, hp, z⟩ := in_tabs q
    have y := tP p hp
    rw [z, e] at y
    exact n1 (by rw [Option.some.inj y])
  · subst q
    rw [ga] at e
    exact n2 (Option.some.inj e).symm
theorem law_runs {P : Program} {w : World} {K : PySem.W.Frag} {mg mb : Str → Option Value} {k : Nat} {fa a : Addr} {cs : List (Addr × Addr)} {fd : FuncData} {x : Str} {sp : Sp} {s : Shared} {vs : List Value} {ns : List Int}
    (KX : K.In s.heap) (gM : s.heap.Ns mainGlobals mg) (gB : s.heap.Ns builtinsNs mb) (gBB : ∀ y : Str, y ≠ "__name__" → mb y = bootBuiltins y) (gL : s.heap.NoLimit) (gG : s.gens = #[])
    (tP : ∀ p ∈ cs, s.heap.get? p.2 = some { cls := .none, data := .fields #[] }) (nP : ∀ p ∈ cs, K.lookup p.2 = none) (cP : ∀ p ∈ cs, PySem.W.CodeHd s.heap p.1 p.2)
    (bM : ∃ (bm : Addr) (ob : Obj), mg "__builtins__" = some (.ref bm) ∧ bm ≠ builtinsNs ∧ s.heap.get? bm = some ob ∧ ob.cls = .type "module" ∧ ob.dict = some builtinsNs ∧ ob.data = .plain)
    (ga : s.heap.get? a = some { cls := .type "list", data := .seq vs.toArray }) (hi : IntsAre vs ns) (hl : ns.length ≤ sizeLine) (hr : Room k callerA)
    (F : ∀ base : Heap, K.In base → base.Ns mainGlobals mg → (∀ p ∈ cs, TabB base mg p.1 p.2) → FnG P w K mg base CX0 k fa fd [x] sp) (bF : ∀ (s : Shared) (u : Value), BindsTo s fd ⟨[u], []⟩ [(x, u)])
    (hS : ∀ H : Hp, (∀ p ∈ cs, H p.2 = some (.tbl #[])) → SqL K H a (ns.map V.int) → sp [.ref a] H (fun v _ => v = .bl true) fun _ _ _ => False) :
    codeAny (model P w) callerA (.call (.ref fa) ⟨[.ref a], []⟩) (fun r t => r = .ok (.ret (.bool true)) ∧ OldK s.heap t.heap ∧ t.os = s.os ∧ AllBare t.gens) s := by
  have isT : ∀ {b : Addr} {o : Obj}, b ∈ cs.map (·.2) → s.heap.get? b = some o → o = { cls := .none, data := .fields #[] } := fun {b o} h e => by
    obtain ⟨p, hp, z⟩ := in_tabs h
    have y := tP p hp
    rw [z, e] at y
    exact Option.some.inj y
  have aP : a ∉ cs.map (·.2) := fun q => by
    have y := isT q ga
    cases y
  obtain ⟨B, hB, hA⟩ : ∃ B : Option HO, (B = none ∨ (K.lookup a = none ∧ B = some (.frz { cls := .type "list", data := .seq vs.toArray } (.lst (ns.map V.int))))) ∧ SqL K (hp0 cs a B) a (ns.map V.int) := by
    cases hk : K.lookup a with
    | some o =>
      have e := KX a o hk
      rw [ga] at e
      cases e
      exact ⟨none, .inl rfl, .inr ⟨_, vs.toArray, _, hk, rfl, rfl, rfl, by rw [List.size_toArray, hi.length]; exact hl, by simpa using vals_ints hi⟩⟩
    | none => exact ⟨_, .inr ⟨rfl, rfl⟩, .inl (.inr ⟨{ cls := .type "list", data := .seq vs.toArray }, hp0_arg aP⟩)⟩
  let H : Hp := hp0 cs a B
  have hH : ∀ p ∈ cs, H p.2 = some (.tbl #[]) := fun p hp => hp0_tab (List.mem_map.mpr ⟨p, hp, rfl⟩)
  have ok0 : HOk P w H s.heap := fun b u z => by
    rcases hp0_some z with ⟨hb, rfl⟩ | ⟨n, rfl, e⟩
    · obtain ⟨p, hp, rfl⟩ := in_tabs hb
      exact tP p hp
    · rcases hB with q | ⟨_, q⟩
      · rw [q] at e
        cases e
      · rw [q] at e
        cases e
        exact ⟨ga, by rw [List.length_map]; exact hl, vs, _, vals_ints hi, ga⟩
  have stay : ∀ {b : Addr} {o : Obj}, s.heap.get? b = some o → H b = none → (hidT s.heap H).get? b = some o := fun e n => hidT_get e n
  have stayD : ∀ {b : Addr} {m : Str → Option Value}, s.heap.Ns b m → (hidT s.heap H).Ns b m := fun {b m} ⟨o, es, ep, e, d, r⟩ =>
    ⟨o, es, ep, stay e (hp0_free tP ga e (fun z => by rw [d] at z; cases z) (fun z => by rw [z] at d; cases d)), d, r⟩
  have KB : K.In (hidT s.heap H) := fun b o e => stay (KX b o e) (by
    cases q : H b with
    | none => rfl
    | some u =>
      rcases hp0_some q with ⟨hb, _⟩ | ⟨_, rfl, e2⟩
      · obtain ⟨p, hp, rfl⟩ := in_tabs hb
        rw [nP p hp] at e
        cases e
      · rcases hB with z | ⟨z, _⟩
        · rw [z] at e2
          cases e2
        · rw [z] at e
          cases e)
  have MB : L2.Mod K mg (hidT s.heap H) := ⟨KB, stayD gM, ⟨mb, stayD gB, gBB⟩, let ⟨mc, h1, h2⟩ := gL; ⟨mc, stayD h1, h2⟩⟩
  have TB : ∀ p ∈ cs, TabB (hidT s.heap H) mg p.1 p.2 := fun p hp => by
    refine ⟨?_, ?_, fun z => ?_⟩
    · obtain ⟨o, us, file, tf, flags, tg, inF, text, tt, e1, r1, r2, rest⟩ := cP p hp
      refine ⟨o, us, file, tf, flags, tg, inF, text, tt, stay e1 (hp0_free tP ga e1 (fun z => ?_) (fun z => ?_)), r1, r2, rest⟩
      · rw [r2] at z
        cases z
        simp at rest
      · rw [z] at r2
        cases r2
    · obtain ⟨bm, ob, b1, b2, b3, b4, b5, b6⟩ := bM
      refine ⟨bm, ob, b1, b2, fun q => ?_, fun q => ?_, stay b3 (hp0_free tP ga b3 (fun z => ?_) (fun z => ?_)), b4, b5, b6⟩
      · obtain ⟨o, es, ep, e, hd, _⟩ := gM
        rw [q, e] at b3
        cases b3
        rw [hd] at b6
        cases b6
      · rw [q, tP p hp] at b3
        cases b3
        cases b6
      · rw [b6] at z
        cases z
      · rw [z] at b6
        cases b6
    · obtain ⟨o, es, ep, e, hd, _⟩ := gM
      rw [z, tP p hp] at e
      cases e
      cases hd
  have E0 : Env0 P w K mg (hidT s.heap H) callerA [] s H := ⟨rfl, MB, fun b o e => of_hidT e, Nat.le_of_eq (hidT_size _ _), trivial, fun b hb => absurd (show b ∈ ([] : List Addr) from hb) (by simp), ok0, .of_eq gG⟩
  refine codeAny_mono ((F _ KB (stayD gM) TB).run callerA [] s H ⟨[.ref a], []⟩ [.ref a] [.ref a] _ _ rfl hr E0 (bF s (.ref a)) (.cons rfl .nil) (hS H hH hA)) fun r t h => ?_
  cases r with
  | error e => exact (show False from h).elim
  | ok fl =>
    cases fl with
    | next => exact (show False from h).elim
    | brk => exact (show False from h).elim
    | cont => exact (show False from h).elim
    | ret u =>
      obtain ⟨v, H', os, bare, un, ok1, rv, q⟩ := h
      obtain rfl : v = .bl true := q
      obtain rfl : u = Value.bool true := rv
      have grown : ∀ p ∈ cs, ∃ more : Array Value, t.heap.get? p.2 = some { cls := .none, data := .fields more } := fun p hp => by
        obtain ⟨more, z⟩ := un.tbls p.2 #[] (hH p hp)
        exact ⟨_, ok1 p.2 _ z⟩
      have same : ∀ b o, b ∉ cs.map (·.2) → s.heap.get? b = some o → t.heap.get? b = some o := fun b o nb e => by
        cases z : H b with
        | none => exact un.keep b o e z (fun y => absurd (show b ∈ ([] : List Addr) from y) (by simp)) (by simp)
        | some y =>
          rcases hp0_some z with ⟨e2, _⟩ | ⟨_, rfl, e2⟩
          · exact absurd e2 nb
          · rcases hB with e3 | ⟨_, e3⟩
            · rw [e3] at e2
              cases e2
            · rw [e3] at e2
              cases e2
              obtain ⟨g1, _⟩ := ok1 b _ (un.frzs b _ _ z)
              rw [ga] at e
              cases e
              exact g1
      refine ⟨rfl, ⟨fun b o e => ?_, fun b o e => ?_⟩, os, bare⟩
      · by_cases nb : b ∈ cs.map (·.2)
        · obtain rfl := isT nb e
          obtain ⟨p, hp, rfl⟩ := in_tabs nb
          obtain ⟨more, gT⟩ := grown p hp
          exact .inr (.inl ⟨((cP p hp).tab (tP p hp)).isCodeTable, rfl, #[], more, rfl, by rw [Array.empty_append]; exact gT⟩)
        · exact .inl (same b o nb e)
      · by_cases nb : b ∈ cs.map (·.2)
        · obtain ⟨p, hp, rfl⟩ := in_tabs nb
          obtain ⟨more, gT⟩ := grown p hp
          exact ⟨_, gT⟩
        · exact ⟨o, same b o nb e⟩
/-- what is asked of the law at the head's heap -/
def LawIs (l : PySem.W.OpenLaw) (w : World) (K : PySem.W.Frag) (k n : Nat) (x : Str) (mg : Str → Option Value) (fa : Addr) (cs : List (Addr × Addr)) : Prop :=
  ∃ (fd : FuncData) (sp : Sp), (∀ p ∈ cs, K.lookup p.2 = none) ∧ (∀ (s : Shared) (u : Value), BindsTo s fd ⟨[u], []⟩ [(x, u)]) ∧
    (∀ (H : Hp) (a : Addr) (ns : List Int), (∀ p ∈ cs, H p.2 = some (.tbl #[])) → SqL K H a (ns.map V.int) → sp [.ref a] H (fun v _ => v = .bl true) fun _ _ _ => False) ∧
    ∀ base : Heap, K.In base → base.Ns mainGlobals mg → (∀ p ∈ cs, TabB base mg p.1 p.2) → FnG l.prog w K mg base CX0 k fa fd [x] sp
theorem walk_tabs {l : PySem.W.OpenLaw} {n k : Nat} {q : Program} {loose : List Str} {XP : (Str → Option Value) → Heap → Prop} {YP : World → Heap → Prop} {d : DefRec} {K : Params → PySem.W.Frag} {x : Str} {xs : List Str}
    (hn : l.most = some n) (hn2 : n ≤ sizeLine) (hdf : d.params.defaults = []) (hr : Room k callerA) (hY : ∀ (w : World) (h : Heap), YP w h → (K w.params).In h) (hrec : (xs.all fun y => ((recsOf q).find? fun e => e.name == y).isSome) = true)
    (F : ∀ (w : World) (mg : Str → Option Value) (fa : Addr) (h : Heap), (K w.params).In h → h.Ns mainGlobals mg → mg d.name = some (.ref fa) → ∃ cs : List (Addr × Addr), (∀ p ∈ cs, ∃ y ∈ xs, PySem.W.tabIn (K w.params) y = some p) ∧ LawIs l w (K w.params) k n x mg fa cs) :
    PySem.W.WalkO q loose XP YP l.row.toRowW d [] (fun f vs => PySem.call f vs) := by
  refine Att.attach_callB hn hdf fun w s₀ s₁ mg mb fa o pm cd doc a vs ns G Y ho hd hcd hmg hobj hints hlen hbits hg => ?_
  have KX := hY w _ Y
  obtain ⟨cs, ht, fd, sp, nP, bF, hS, hF⟩ := F w mg fa _ KX G.T.g hmg
  have both : ∀ p ∈ cs, PySem.W.CodeHd s₁.heap p.1 p.2 ∧ s₁.heap.get? p.2 = some { cls := .none, data := .fields #[] } := fun p hp => by
    obtain ⟨y, hy, e⟩ := ht p hp
    obtain ⟨dt, hdt⟩ := Option.isSome_iff_exists.mp (List.all_eq_true.mp hrec y hy)
    exact PySem.W.tab_of G.T KX hdt e
  exact law_runs KX G.T.g G.T.b G.T.builtins G.T.nolimit hg (fun p hp => (both p hp).2) nP (fun p hp => (both p hp).1) G.T.bmain hobj hints (Nat.le_trans hlen hn2) hr hF bF (fun H hH h => hS H a ns hH h)
end K9
namespace K9
open PySem PySem.Spec PyProof.Rows L2 LamX LamY
/-! ### the facts of the written part -/
structure Has (K : PySem.W.Frag) (x : Str) (st : Stmt) (f : Addr) : Prop where
  at' : PySem.W.nsIn K mainGlobals x = some (some (.ref f))
  kp : PySem.W.keepIn K (.ref f) = true
  look : ∃ (oc : Value) (od : Option Addr) (kV doc pm : Value) (an : Option Addr) (cdv ct : Value) (osl : Array (Option Value)),
    K.lookup f = some ⟨oc, od, .func (PySem.W.fnOf x x (defArgs st) (defBody st) (defScope st) .none kV doc pm an cdv ct), osl⟩ ∧ PySem.W.codeIn K cdv x = true
theorem has_of {K : PySem.W.Frag} {x : Str} {st : Stmt} {f : Addr} {oc kV doc pm cdv ct : Value} {od an : Option Addr} {osl : Array (Option Value)} (a : PySem.W.nsIn K mainGlobals x = some (some (.ref f)))
    (l : K.lookup f = some ⟨oc, od, .func (PySem.W.fnOf x x (defArgs st) (defBody st) (defScope st) .none kV doc pm an cdv ct), osl⟩) (c : PySem.W.codeIn K cdv x = true) (k : PySem.W.keepIn K (.ref f) = true) : Has K x st f :=
  ⟨a, k, oc, od, kV, doc, pm, an, cdv, ct, osl, l, c⟩
theorem Has.fn {K : PySem.W.Frag} {x : Str} {st : Stmt} {f : Addr} (F : Has K x st f) : ∃ fd, Fun K x x st f fd := by
  obtain ⟨oc, od, kV, doc, pm, an, cdv, ct, osl, l, c⟩ := F.look
  exact ⟨_, fun_mk (st := st) l c F.kp⟩
/-- the same of a def with one default, which is None -/
structure HasD (K : PySem.W.Frag) (x : Str) (st : Stmt) (f : Addr) : Prop where
  at' : PySem.W.nsIn K mainGlobals x = some (some (.ref f))
  kp : PySem.W.keepIn K (.ref f) = true
  look : ∃ (oc : Value) (od : Option Addr) (dT : Addr) (kV doc pm : Value) (an : Option Addr) (cdv ct : Value) (osl : Array (Option Value)),
    K.lookup f = some ⟨oc, od, .func (PySem.W.fnOf x x (defArgs st) (defBody st) (defScope st) (.ref dT) kV doc pm an cdv ct), osl⟩ ∧ PySem.W.codeIn K cdv x = true ∧ ∃ (oT : Obj) (m : Nat), K.lookup dT = some oT ∧ oT.data = .seq #[Value.none] m
theorem hasd_of {K : PySem.W.Frag} {x : Str} {st : Stmt} {f dT : Addr} {oc kV doc pm cdv ct : Value} {od an : Option Addr} {osl : Array (Option Value)} {oT : Obj} {m : Nat} (a : PySem.W.nsIn K mainGlobals x = some (some (.ref f)))
    (l : K.lookup f = some ⟨oc, od, .func (PySem.W.fnOf x x (defArgs st) (defBody st) (defScope st) (.ref dT) kV doc pm an cdv ct), osl⟩) (c : PySem.W.codeIn K cdv x = true) (k : PySem.W.keepIn K (.ref f) = true) (t : K.lookup dT = some oT) (d : oT.data = .seq #[Value.none] m) : HasD K x st f :=
  ⟨a, k, oc, od, dT, kV, doc, pm, an, cdv, ct, osl, l, c, oT, m, t, d⟩
/-- what an except clause over the class at S says of the class at C -/
theorem exm_by {K : PySem.W.Frag} {C S : Addr} {b : Bool} (h1 : PySem.W.subIn K (.ref S) (.type "BaseException") = some true) (h2 : PySem.W.isClsIn K S = true) (h3 : PySem.W.typeIn K (.ref S) = some (.type "type")) (h4 : PySem.W.subIn K (.ref C) (.ref S) = some b) :
    PySem.W.exmOne K (.ref C) (.ref S) = some b := by
  have e1 : (PySem.W.subIn K (.ref S) (.type "BaseException") == some true) = true := by rw [h1] <;> rfl
  have e2 : ((PySem.W.clsIn K S).isSome && PySem.W.typeIn K (.ref S) == some (.type "type")) = true := by
    have h5 : (PySem.W.clsIn K S).isSome = true := h2
    rw [h5, h3] <;> rfl
  unfold PySem.W.exmOne
  rw [if_pos e1]
  exact (if_pos e2).trans h4
/-- a class of errors: of its own, over BaseException -/
structure Cl (K : PySem.W.Frag) (x : Str) (C : Addr) : Prop where
  at' : PySem.W.nsIn K mainGlobals x = some (some (.ref C))
  kp : PySem.W.keepIn K (.ref C) = true
  ex : PySem.W.subIn K (.ref C) (.type "BaseException") = some true
  ty : PySem.W.typeIn K (.ref C) = some (.type "type")
  is : PySem.W.isClsIn K C = true
theorem cl_of {K : PySem.W.Frag} {x : Str} {C : Addr} (a : PySem.W.nsIn K mainGlobals x = some (some (.ref C))) (k : PySem.W.keepIn K (.ref C) = true) (e : PySem.W.subIn K (.ref C) (.type "BaseException") = some true)
    (t : PySem.W.typeIn K (.ref C) = some (.type "type")) (i : PySem.W.isClsIn K C = true) : Cl K x C := ⟨a, k, e, t, i⟩
structure FactsInvalidNumber (K : PySem.W.Frag) (C i0 : Addr) : Prop where
  made : PySem.W.excInitIn K C K9X.ieB "IndexError.__new__" = true
  over : PySem.W.excOver K C K9X.ieB = true
  dict : PySem.W.hasDictIn K C = true
  stores : PySem.W.findIn K (.ref C) "__setattr__" = some (some (.builtin "object.__setattr__"))
  reads : PySem.W.findIn K (.ref C) "__getattribute__" = some (some (.builtin "BaseException.__getattribute__"))
  reads2 : PySem.W.findIn K (.ref C) "__getattr__" = some none
  noGiven : PySem.W.findIn K (.ref C) "given" = some none
  inits : PySem.W.findIn K (.ref C) "__init__" = some (some (.ref i0))
  isdef : PySem.W.typeIn K (.ref i0) = some (.type "function")
  text : ∃ (oc : Value) (od : Option Addr) (doc pm : Value) (an : Option Addr) (cdv ct : Value) (osl : Array (Option Value)) (r1 r2 r3 r4 r5 r6 : Pos),
    K.lookup i0 = some ⟨oc, od, .func (PySem.W.fnOf "__init__" "InvalidNumber.__init__" (K9X.nuA r1 r2) (K9X.nuB r3 r4 r5 r6) K9X.nuS .none .none doc pm an cdv ct), osl⟩ ∧ PySem.W.codeIn K cdv "InvalidNumber.__init__" = true
theorem ofInvalidNumber {K : PySem.W.Frag} {C i0 : Addr} {oc doc pm cdv ct : Value} {od an : Option Addr} {osl : Array (Option Value)} (j : PySem.W.findIn K (.ref C) "__init__" = some (some (.ref i0)))
    (l : K.lookup i0 = some ⟨oc, od, .func (PySem.W.fnOf "__init__" "InvalidNumber.__init__" (K9X.nuA ⟨25, 17, 25, 21⟩ ⟨25, 23, 25, 28⟩) (K9X.nuB ⟨26, 8, 26, 12⟩ ⟨26, 8, 26, 18⟩ ⟨26, 21, 26, 26⟩ ⟨26, 8, 26, 26⟩) K9X.nuS .none .none doc pm an cdv ct), osl⟩)
    (u : PySem.W.codeIn K cdv "InvalidNumber.__init__" = true) (m : PySem.W.excInitIn K C K9X.ieB "IndexError.__new__" = true) (v : PySem.W.excOver K C K9X.ieB = true) (d : PySem.W.hasDictIn K C = true)
    (s : PySem.W.findIn K (.ref C) "__setattr__" = some (some (.builtin "object.__setattr__"))) (g : PySem.W.findIn K (.ref C) "__getattribute__" = some (some (.builtin "BaseException.__getattribute__")))
    (n : PySem.W.findIn K (.ref C) "__getattr__" = some none) (e : PySem.W.findIn K (.ref C) "given" = some none) (t : PySem.W.typeIn K (.ref i0) = some (.type "function")) : FactsInvalidNumber K C i0 :=
  ⟨m, v, d, s, g, n, e, j, t, oc, od, doc, pm, an, cdv, ct, osl, _, _, _, _, _, _, l, u⟩
structure FactsTooMany (K : PySem.W.Frag) (C i0 : Addr) : Prop where
  made : PySem.W.excInitIn K C K9M.ieB "OverflowError.__new__" = true
  over : PySem.W.excOver K C K9M.ieB = true
  dict : PySem.W.hasDictIn K C = true
  stores : PySem.W.findIn K (.ref C) "__setattr__" = some (some (.builtin "object.__setattr__"))
  reads : PySem.W.findIn K (.ref C) "__getattribute__" = some (some (.builtin "BaseException.__getattribute__"))
  reads2 : PySem.W.findIn K (.ref C) "__getattr__" = some none
  noGiven : PySem.W.findIn K (.ref C) "limit" = some none
  inits : PySem.W.findIn K (.ref C) "__init__" = some (some (.ref i0))
  isdef : PySem.W.typeIn K (.ref i0) = some (.type "function")
  text : ∃ (oc : Value) (od : Option Addr) (doc pm : Value) (an : Option Addr) (cdv ct : Value) (osl : Array (Option Value)) (r1 r2 r3 r4 r5 r6 : Pos),
    K.lookup i0 = some ⟨oc, od, .func (PySem.W.fnOf "__init__" "TooMany.__init__" (K9M.nuA r1 r2) (K9M.nuB r3 r4 r5 r6) K9M.nuS .none .none doc pm an cdv ct), osl⟩ ∧ PySem.W.codeIn K cdv "TooMany.__init__" = true
theorem ofTooMany {K : PySem.W.Frag} {C i0 : Addr} {oc doc pm cdv ct : Value} {od an : Option Addr} {osl : Array (Option Value)} (j : PySem.W.findIn K (.ref C) "__init__" = some (some (.ref i0)))
    (l : K.lookup i0 = some ⟨oc, od, .func (PySem.W.fnOf "__init__" "TooMany.__init__" (K9M.nuA ⟨29, 17, 29, 21⟩ ⟨29, 23, 29, 28⟩) (K9M.nuB ⟨30, 8, 30, 12⟩ ⟨30, 8, 30, 18⟩ ⟨30, 21, 30, 26⟩ ⟨30, 8, 30, 26⟩) K9M.nuS .none .none doc pm an cdv ct), osl⟩)
    (u : PySem.W.codeIn K cdv "TooMany.__init__" = true) (m : PySem.W.excInitIn K C K9M.ieB "OverflowError.__new__" = true) (v : PySem.W.excOver K C K9M.ieB = true) (d : PySem.W.hasDictIn K C = true)
    (s : PySem.W.findIn K (.ref C) "__setattr__" = some (some (.builtin "object.__setattr__"))) (g : PySem.W.findIn K (.ref C) "__getattribute__" = some (some (.builtin "BaseException.__getattribute__")))
    (n : PySem.W.findIn K (.ref C) "__getattr__" = some none) (e : PySem.W.findIn K (.ref C) "limit" = some none) (t : PySem.W.typeIn K (.ref i0) = some (.type "function")) : FactsTooMany K C i0 :=
  ⟨m, v, d, s, g, n, e, j, t, oc, od, doc, pm, an, cdv, ct, osl, _, _, _, _, _, _, l, u⟩
theorem all_mk {l : PySem.W.OpenLaw} {w : World} {K : PySem.W.Frag} {h : Heap} {mg : Str → Option Value} {fa CL CN CM iCN iCM : Addr} (X : K.In h) (G : h.Ns mainGlobals mg) (hfa : mg "law" = some (.ref fa))
    {flawroll flawdice flawpick fiswhole fisinteger fisbetween fcountswith fsuffixcounts fleastexponents ffirstword fleastrise fnextword fcheckbetween fcountwords flistedwords fisdegrees fcheckdegrees fissumoftwo flots fdoesbar fbarring fbarringlots fcanend fismade fcheckedlots fdegreespaper fisdegreespaper fboundof fchecklisted ffirstpower fjoined flengthof finversebyprime fwholemultiple fwholerows findependentplaces fareallmade fmaderows fopendegree fasratio fdostepsend fiswithin fneededwords fendingsteps flawmet flawaremet : Addr} {flawdegreesright clawdegreesright Plawdegreesright : Addr} {oclawdegreesright kVlawdegreesright doclawdegreesright pmlawdegreesright ctlawdegreesright : Value} {anlawdegreesright odlawdegreesright : Option Addr} {sllawdegreesright : Array (Option Value)} {flawothersright clawothersright Plawothersright : Addr} {oclawothersright kVlawothersright doclawothersright pmlawothersright ctlawothersright : Value} {anlawothersright odlawothersright : Option Addr} {sllawothersright : Array (Option Value)} {fLw : Addr} {ocL kVL docL pmL cdL ctL : Value} {anL odL : Option Addr} {slL : Array (Option Value)}
    (aCL : Cl K "InvalidLetters" CL)
    (mCL : PySem.W.excIn K CL PySem.HandSPX.veTail "ValueError.__new__" = true)
    (aCN : Cl K "InvalidNumber" CN)
    (nCN : FactsInvalidNumber K CN iCN)
    (aCM : Cl K "TooMany" CM)
    (nCM : FactsTooMany K CM iCM)
    (s_CL_CL : PySem.W.subIn K (.ref CL) (.ref CL) = some true)
    (s_CN_CL : PySem.W.subIn K (.ref CN) (.ref CL) = some false)
    (s_CN_CN : PySem.W.subIn K (.ref CN) (.ref CN) = some true)
    (s_CM_CL : PySem.W.subIn K (.ref CM) (.ref CL) = some false)
    (s_CM_CN : PySem.W.subIn K (.ref CM) (.ref CN) = some false)
    (s_CM_CM : PySem.W.subIn K (.ref CM) (.ref CM) = some true)
    (z_int : PySem.W.nsIn K mainGlobals "int" = some none)
    (z_bool : PySem.W.nsIn K mainGlobals "bool" = some none)
    (z_tuple : PySem.W.nsIn K mainGlobals "tuple" = some none)
    (z_list : PySem.W.nsIn K mainGlobals "list" = some none)
    (z_dict : PySem.W.nsIn K mainGlobals "dict" = some none)
    (z_isinstance : PySem.W.nsIn K mainGlobals "isinstance" = some none)
    (z_len : PySem.W.nsIn K mainGlobals "len" = some none)
    (z_abs : PySem.W.nsIn K mainGlobals "abs" = some none)
    (z_max : PySem.W.nsIn K mainGlobals "max" = some none)
    (z_min : PySem.W.nsIn K mainGlobals "min" = some none)
    (z_range : PySem.W.nsIn K mainGlobals "range" = some none)
    (z_sum : PySem.W.nsIn K mainGlobals "sum" = some none)
    (z_all : PySem.W.nsIn K mainGlobals "all" = some none)
    (z_any : PySem.W.nsIn K mainGlobals "any" = some none)
    (z_enumerate : PySem.W.nsIn K mainGlobals "enumerate" = some none)
    (z_reversed : PySem.W.nsIn K mainGlobals "reversed" = some none)
    (z_zip : PySem.W.nsIn K mainGlobals "zip" = some none)
    (z_sorted : PySem.W.nsIn K mainGlobals "sorted" = some none)
    (z_repr : PySem.W.nsIn K mainGlobals "repr" = some none)
    (x_gcd : mg "gcd" = some (.builtin "math.gcd"))
    (x_lcm : mg "lcm" = some (.builtin "math.lcm"))
    (y__LIMIT : ∃ t, mg "_LIMIT" = some (.int (10 ^ 60) t))
    (y_PRIME_echelon : ∃ t, mg "PRIME_echelon" = some (.int (2147483647) t))
    (y_MAX_LETTER : ∃ t, mg "MAX_LETTER" = some (.int (40) t))
    (y_MAX_EVENS : ∃ t, mg "MAX_EVENS" = some (.int (6) t))
    (y_MAX_ODDS : ∃ t, mg "MAX_ODDS" = some (.int (10) t))
    (y_MAX_SHOWN : ∃ t, mg "MAX_SHOWN" = some (.int (80) t))
    (y_MAX_LISTED : ∃ t, mg "MAX_LISTED" = some (.int (150) t))
    (y__MOST_MADE : ∃ t, mg "_MOST_MADE" = some (.int (1000) t))
    (y_PRIME_degrees : ∃ t, mg "PRIME_degrees" = some (.int (2147483647) t))
    (y__FACTOR : ∃ t, mg "_FACTOR" = some (.int (48271) t))
    (y__MOST_NUMBER : ∃ t, mg "_MOST_NUMBER" = some (.int (50) t))
    (hlawroll : Has K "_law_roll" sRoll flawroll)
    (hlawdice : Has K "_law_dice" sDice flawdice)
    (hlawpick : Has K "_law_pick" sPick flawpick)
    (hiswhole : Has K "is_whole" sIsWhole fiswhole)
    (hisinteger : Has K "is_integer" sIsInt fisinteger)
    (hisbetween : Has K "is_between" sBetween fisbetween)
    (hcountswith : Has K "_counts_with" sCntW fcountswith)
    (hsuffixcounts : Has K "suffix_counts" sSuffix fsuffixcounts)
    (hleastexponents : Has K "_least_exponents" sLeast fleastexponents)
    (hfirstword : Has K "first_word" sFirst ffirstword)
    (hleastrise : Has K "_least_rise" sRise fleastrise)
    (hnextword : Has K "next_word" sNext fnextword)
    (hcheckbetween : Has K "check_between" sChkB fcheckbetween)
    (hcountwords : Has K "count_words" sCount fcountwords)
    (hlistedwords : Has K "listed_words" sListed flistedwords)
    (hisdegrees : Has K "_is_degrees" sIsDeg fisdegrees)
    (hcheckdegrees : Has K "_check_degrees" sChkD fcheckdegrees)
    (hissumoftwo : Has K "_is_sum_of_two" sSumTwo fissumoftwo)
    (hlots : Has K "_lots" sLots flots)
    (hdoesbar : Has K "_does_bar" sDoesBar fdoesbar)
    (hbarring : Has K "_barring" sBarring fbarring)
    (hbarringlots : Has K "barring_lots" sBarLots fbarringlots)
    (hcanend : Has K "can_end" sCanEnd fcanend)
    (hismade : Has K "is_made" sIsMade fismade)
    (hcheckedlots : Has K "_checked_lots" sCheckedLots fcheckedlots)
    (hdegreespaper : Has K "degrees_paper" sDegreesPaper fdegreespaper)
    (hisdegreespaper : Has K "is_degrees_paper" sIsDegreesPaper fisdegreespaper)
    (hboundof : Has K "bound_of" sBoundOf fboundof)
    (hchecklisted : Has K "check_listed" sCheckListed fchecklisted)
    (hfirstpower : Has K "first_power" sFirstPower ffirstpower)
    (hjoined : Has K "_joined" sJoined fjoined)
    (hlengthof : Has K "length_of" sLenOf flengthof)
    (hinversebyprime : Has K "_inverse_by_prime" sInverseByPrime finversebyprime)
    (hwholemultiple : Has K "whole_multiple" sWholeMultiple fwholemultiple)
    (hwholerows : Has K "whole_rows" sWholeRows fwholerows)
    (hindependentplaces : Has K "independent_places" sIndependentPlaces findependentplaces)
    (hareallmade : Has K "are_all_made" sAreAllMade fareallmade)
    (hmaderows : Has K "made_rows" sMadeRows fmaderows)
    (hopendegree : Has K "open_degree" sOpenDegree fopendegree)
    (hasratio : Has K "as_ratio" sAsRatio fasratio)
    (hdostepsend : Has K "_do_steps_end" sDoStepsEnd fdostepsend)
    (hiswithin : Has K "_is_within" sIsWithin fiswithin)
    (hneededwords : Has K "_needed_words" sNeededWords fneededwords)
    (hendingsteps : Has K "_ending_steps" sEndingSteps fendingsteps)
    (hlawmet : Has K "_law_met" sMet flawmet)
    (hlawaremet : Has K "_law_are_met" sAreMet flawaremet)
    (alawdegreesright : PySem.W.nsIn K mainGlobals "_law_degrees_right" = some (some (.ref flawdegreesright)))
    (llawdegreesright : K.lookup flawdegreesright = some ⟨oclawdegreesright, odlawdegreesright, .func (PySem.W.fnOf "_law_degrees_right" "_law_degrees_right" (defArgs sLawDegreesRight) (defBody sLawDegreesRight) (defScope sLawDegreesRight) .none kVlawdegreesright doclawdegreesright pmlawdegreesright anlawdegreesright (.ref clawdegreesright) ctlawdegreesright), sllawdegreesright⟩)
    (clawdegreesright_ : PySem.W.codeIn K (.ref clawdegreesright) "_law_degrees_right" = true)
    (klawdegreesright : PySem.W.keepIn K (.ref flawdegreesright) = true)
    (tlawdegreesright : PySem.W.tabIn K "_law_degrees_right" = some (clawdegreesright, Plawdegreesright))
    (olawdegreesright : K.lookup Plawdegreesright = none)
    (alawothersright : PySem.W.nsIn K mainGlobals "_law_others_right" = some (some (.ref flawothersright)))
    (llawothersright : K.lookup flawothersright = some ⟨oclawothersright, odlawothersright, .func (PySem.W.fnOf "_law_others_right" "_law_others_right" (defArgs sLawOthersRight) (defBody sLawOthersRight) (defScope sLawOthersRight) .none kVlawothersright doclawothersright pmlawothersright anlawothersright (.ref clawothersright) ctlawothersright), sllawothersright⟩)
    (clawothersright_ : PySem.W.codeIn K (.ref clawothersright) "_law_others_right" = true)
    (klawothersright : PySem.W.keepIn K (.ref flawothersright) = true)
    (tlawothersright : PySem.W.tabIn K "_law_others_right" = some (clawothersright, Plawothersright))
    (olawothersright : K.lookup Plawothersright = none)
    (n0_1 : Plawdegreesright ≠ Plawothersright)
    (aL : PySem.W.nsIn K mainGlobals "law" = some (some (.ref fLw)))
    (lL : K.lookup fLw = some ⟨ocL, odL, .func (PySem.W.fnOf "law" "law" (defArgs sLaw) (defBody sLaw) (defScope sLaw) .none kVL docL pmL anL cdL ctL), slL⟩)
    (cL : PySem.W.codeIn K cdL "law" = true)
    (kL : PySem.W.keepIn K (.ref fLw) = true)
    : ∃ cs : List (Addr × Addr), (∀ p ∈ cs, ∃ y ∈ (["_law_degrees_right", "_law_others_right"] : List Str), PySem.W.tabIn K y = some p) ∧ LawIs l w K 17 63 "script" mg fa cs := by
  have e := hfa.symm.trans (PySem.W.mg_of X G aL)
  cases e
  have ER_InvalidLetters : ErrTxt K mg "InvalidLetters" CL := ⟨PySem.W.mg_of X G aCL.at', mCL, aCL.kp, aCL.ex, aCL.ty⟩
  have NT_CN : K9X.NumTxt K mg CN iCN := ⟨PySem.W.mg_of X G aCN.at', nCN.made, nCN.over, nCN.dict, nCN.stores, nCN.reads, nCN.reads2, nCN.noGiven, nCN.inits, nCN.isdef, aCN.kp, aCN.ex, aCN.ty, exm_by aCN.ex aCN.is aCN.ty s_CN_CN, nCN.text⟩
  have NT_CM : K9M.NumTxt K mg CM iCM := ⟨PySem.W.mg_of X G aCM.at', nCM.made, nCM.over, nCM.dict, nCM.stores, nCM.reads, nCM.reads2, nCM.noGiven, nCM.inits, nCM.isdef, aCM.kp, aCM.ex, aCM.ty, exm_by aCM.ex aCM.is aCM.ty s_CM_CM, nCM.text⟩
  have CS : Clss K mg CL CN CM := ⟨PySem.W.mg_of X G aCL.at', PySem.W.mg_of X G aCN.at', PySem.W.mg_of X G aCM.at', exm_by aCL.ex aCL.is aCL.ty s_CL_CL, exm_by aCL.ex aCL.is aCL.ty s_CN_CL, exm_by aCN.ex aCN.is aCN.ty s_CN_CN, exm_by aCL.ex aCL.is aCL.ty s_CM_CL, exm_by aCN.ex aCN.is aCN.ty s_CM_CN, exm_by aCM.ex aCM.is aCM.ty s_CM_CM⟩
  have T : Txt K mg := ⟨PySem.W.mg_none_of X G z_int, PySem.W.mg_none_of X G z_bool, PySem.W.mg_none_of X G z_tuple, PySem.W.mg_none_of X G z_list, PySem.W.mg_none_of X G z_dict, PySem.W.mg_none_of X G z_isinstance, PySem.W.mg_none_of X G z_len, PySem.W.mg_none_of X G z_abs, PySem.W.mg_none_of X G z_max, PySem.W.mg_none_of X G z_min, PySem.W.mg_none_of X G z_range, PySem.W.mg_none_of X G z_sum, PySem.W.mg_none_of X G z_all, PySem.W.mg_none_of X G z_any, PySem.W.mg_none_of X G z_enumerate, PySem.W.mg_none_of X G z_reversed, PySem.W.mg_none_of X G z_zip, PySem.W.mg_none_of X G z_sorted, PySem.W.mg_none_of X G z_repr, x_gcd, x_lcm, y__LIMIT, y_PRIME_echelon, y_MAX_LETTER, y_MAX_EVENS, y_MAX_ODDS, y_MAX_SHOWN, y_MAX_LISTED, y__MOST_MADE, y_PRIME_degrees, y__FACTOR, y__MOST_NUMBER⟩
  obtain ⟨dlawroll, Flawroll⟩ := hlawroll.fn
  have glawroll := PySem.W.mg_of X G hlawroll.at'
  have klawroll := hlawroll.kp
  have blawroll := Flawroll.binds (ps := ["dice", "total"]) fun _ _ _ _ _ _ us hl => match us, hl with | [_, _], _ => rfl
  obtain ⟨dlawdice, Flawdice⟩ := hlawdice.fn
  have glawdice := PySem.W.mg_of X G hlawdice.at'
  have klawdice := hlawdice.kp
  have blawdice := Flawdice.binds (ps := ["script", "spot"]) fun _ _ _ _ _ _ us hl => match us, hl with | [_, _], _ => rfl
  obtain ⟨dlawpick, Flawpick⟩ := hlawpick.fn
  have glawpick := PySem.W.mg_of X G hlawpick.at'
  have klawpick := hlawpick.kp
  have blawpick := Flawpick.binds (ps := ["dice", "items"]) fun _ _ _ _ _ _ us hl => match us, hl with | [_, _], _ => rfl
  obtain ⟨diswhole, Fiswhole⟩ := hiswhole.fn
  have giswhole := PySem.W.mg_of X G hiswhole.at'
  have kiswhole := hiswhole.kp
  have biswhole := Fiswhole.binds (ps := ["value"]) fun _ _ _ _ _ _ us hl => match us, hl with | [_], _ => rfl
  obtain ⟨disinteger, Fisinteger⟩ := hisinteger.fn
  have gisinteger := PySem.W.mg_of X G hisinteger.at'
  have kisinteger := hisinteger.kp
  have bisinteger := Fisinteger.binds (ps := ["value"]) fun _ _ _ _ _ _ us hl => match us, hl with | [_], _ => rfl
  obtain ⟨disbetween, Fisbetween⟩ := hisbetween.fn
  have gisbetween := PySem.W.mg_of X G hisbetween.at'
  have kisbetween := hisbetween.kp
  have bisbetween := Fisbetween.binds (ps := ["value", "least", "most"]) fun _ _ _ _ _ _ us hl => match us, hl with | [_, _, _], _ => rfl
  obtain ⟨dcountswith, Fcountswith⟩ := hcountswith.fn
  have gcountswith := PySem.W.mg_of X G hcountswith.at'
  have kcountswith := hcountswith.kp
  have bcountswith := Fcountswith.binds (ps := ["row", "letter"]) fun _ _ _ _ _ _ us hl => match us, hl with | [_, _], _ => rfl
  obtain ⟨dsuffixcounts, Fsuffixcounts⟩ := hsuffixcounts.fn
  have gsuffixcounts := PySem.W.mg_of X G hsuffixcounts.at'
  have ksuffixcounts := hsuffixcounts.kp
  have bsuffixcounts := Fsuffixcounts.binds (ps := ["letters", "most"]) fun _ _ _ _ _ _ us hl => match us, hl with | [_, _], _ => rfl
  obtain ⟨dleastexponents, Fleastexponents⟩ := hleastexponents.fn
  have gleastexponents := PySem.W.mg_of X G hleastexponents.at'
  have kleastexponents := hleastexponents.kp
  have bleastexponents := Fleastexponents.binds (ps := ["letters", "counts", "start", "rest"]) fun _ _ _ _ _ _ us hl => match us, hl with | [_, _, _, _], _ => rfl
  obtain ⟨dfirstword, Ffirstword⟩ := hfirstword.fn
  have gfirstword := PySem.W.mg_of X G hfirstword.at'
  have kfirstword := hfirstword.kp
  have bfirstword := Ffirstword.binds (ps := ["letters", "counts", "degree"]) fun _ _ _ _ _ _ us hl => match us, hl with | [_, _, _], _ => rfl
  obtain ⟨dleastrise, Fleastrise⟩ := hleastrise.fn
  have gleastrise := PySem.W.mg_of X G hleastrise.at'
  have kleastrise := hleastrise.kp
  have bleastrise := Fleastrise.binds (ps := ["letter", "counts", "exponent", "rest"]) fun _ _ _ _ _ _ us hl => match us, hl with | [_, _, _, _], _ => rfl
  obtain ⟨dnextword, Fnextword⟩ := hnextword.fn
  have gnextword := PySem.W.mg_of X G hnextword.at'
  have knextword := hnextword.kp
  have bnextword := Fnextword.binds (ps := ["letters", "counts", "word"]) fun _ _ _ _ _ _ us hl => match us, hl with | [_, _, _], _ => rfl
  obtain ⟨dcheckbetween, Fcheckbetween⟩ := hcheckbetween.fn
  have gcheckbetween := PySem.W.mg_of X G hcheckbetween.at'
  have kcheckbetween := hcheckbetween.kp
  have bcheckbetween := Fcheckbetween.binds (ps := ["value", "least", "most"]) fun _ _ _ _ _ _ us hl => match us, hl with | [_, _, _], _ => rfl
  obtain ⟨dcountwords, Fcountwords⟩ := hcountwords.fn
  have gcountwords := PySem.W.mg_of X G hcountwords.at'
  have kcountwords := hcountwords.kp
  have bcountwords := Fcountwords.binds (ps := ["letters", "degree"]) fun _ _ _ _ _ _ us hl => match us, hl with | [_, _], _ => rfl
  obtain ⟨dlistedwords, Flistedwords⟩ := hlistedwords.fn
  have glistedwords := PySem.W.mg_of X G hlistedwords.at'
  have klistedwords := hlistedwords.kp
  have blistedwords := Flistedwords.binds (ps := ["letters", "degree"]) fun _ _ _ _ _ _ us hl => match us, hl with | [_, _], _ => rfl
  obtain ⟨disdegrees, Fisdegrees⟩ := hisdegrees.fn
  have gisdegrees := PySem.W.mg_of X G hisdegrees.at'
  have kisdegrees := hisdegrees.kp
  have bisdegrees := Fisdegrees.binds (ps := ["value", "many", "least", "most"]) fun _ _ _ _ _ _ us hl => match us, hl with | [_, _, _, _], _ => rfl
  obtain ⟨dcheckdegrees, Fcheckdegrees⟩ := hcheckdegrees.fn
  have gcheckdegrees := PySem.W.mg_of X G hcheckdegrees.at'
  have kcheckdegrees := hcheckdegrees.kp
  have bcheckdegrees := Fcheckdegrees.binds (ps := ["evens", "odds"]) fun _ _ _ _ _ _ us hl => match us, hl with | [_, _], _ => rfl
  obtain ⟨dissumoftwo, Fissumoftwo⟩ := hissumoftwo.fn
  have gissumoftwo := PySem.W.mg_of X G hissumoftwo.at'
  have kissumoftwo := hissumoftwo.kp
  have bissumoftwo := Fissumoftwo.binds (ps := ["number", "degrees"]) fun _ _ _ _ _ _ us hl => match us, hl with | [_, _], _ => rfl
  obtain ⟨dlots, Flots⟩ := hlots.fn
  have glots := PySem.W.mg_of X G hlots.at'
  have klots := hlots.kp
  have blots := Flots.binds (ps := ["size"]) fun _ _ _ _ _ _ us hl => match us, hl with | [_], _ => rfl
  obtain ⟨ddoesbar, Fdoesbar⟩ := hdoesbar.fn
  have gdoesbar := PySem.W.mg_of X G hdoesbar.at'
  have kdoesbar := hdoesbar.kp
  have bdoesbar := Fdoesbar.binds (ps := ["evens", "odds", "lot"]) fun _ _ _ _ _ _ us hl => match us, hl with | [_, _, _], _ => rfl
  obtain ⟨dbarring, Fbarring⟩ := hbarring.fn
  have gbarring := PySem.W.mg_of X G hbarring.at'
  have kbarring := hbarring.kp
  have bbarring := Fbarring.binds (ps := ["evens", "odds"]) fun _ _ _ _ _ _ us hl => match us, hl with | [_, _], _ => rfl
  obtain ⟨dbarringlots, Fbarringlots⟩ := hbarringlots.fn
  have gbarringlots := PySem.W.mg_of X G hbarringlots.at'
  have kbarringlots := hbarringlots.kp
  have bbarringlots := Fbarringlots.binds (ps := ["evens", "odds"]) fun _ _ _ _ _ _ us hl => match us, hl with | [_, _], _ => rfl
  obtain ⟨dcanend, Fcanend⟩ := hcanend.fn
  have gcanend := PySem.W.mg_of X G hcanend.at'
  have kcanend := hcanend.kp
  have bcanend := Fcanend.binds (ps := ["evens", "odds"]) fun _ _ _ _ _ _ us hl => match us, hl with | [_, _], _ => rfl
  obtain ⟨dismade, Fismade⟩ := hismade.fn
  have gismade := PySem.W.mg_of X G hismade.at'
  have kismade := hismade.kp
  have bismade := Fismade.binds (ps := ["number", "degrees"]) fun _ _ _ _ _ _ us hl => match us, hl with | [_, _], _ => rfl
  obtain ⟨dcheckedlots, Fcheckedlots⟩ := hcheckedlots.fn
  have gcheckedlots := PySem.W.mg_of X G hcheckedlots.at'
  have kcheckedlots := hcheckedlots.kp
  have bcheckedlots := Fcheckedlots.binds (ps := ["evens", "odds"]) fun _ _ _ _ _ _ us hl => match us, hl with | [_, _], _ => rfl
  obtain ⟨ddegreespaper, Fdegreespaper⟩ := hdegreespaper.fn
  have gdegreespaper := PySem.W.mg_of X G hdegreespaper.at'
  have kdegreespaper := hdegreespaper.kp
  have bdegreespaper := Fdegreespaper.binds (ps := ["evens", "odds"]) fun _ _ _ _ _ _ us hl => match us, hl with | [_, _], _ => rfl
  obtain ⟨disdegreespaper, Fisdegreespaper⟩ := hisdegreespaper.fn
  have gisdegreespaper := PySem.W.mg_of X G hisdegreespaper.at'
  have kisdegreespaper := hisdegreespaper.kp
  have bisdegreespaper := Fisdegreespaper.binds (ps := ["evens", "odds", "value"]) fun _ _ _ _ _ _ us hl => match us, hl with | [_, _, _], _ => rfl
  obtain ⟨dboundof, Fboundof⟩ := hboundof.fn
  have gboundof := PySem.W.mg_of X G hboundof.at'
  have kboundof := hboundof.kp
  have bboundof := Fboundof.binds (ps := ["letters"]) fun _ _ _ _ _ _ us hl => match us, hl with | [_], _ => rfl
  obtain ⟨dchecklisted, Fchecklisted⟩ := hchecklisted.fn
  have gchecklisted := PySem.W.mg_of X G hchecklisted.at'
  have kchecklisted := hchecklisted.kp
  have bchecklisted := Fchecklisted.binds (ps := ["letters", "degrees", "limit"]) fun _ _ _ _ _ _ us hl => match us, hl with | [_, _, _], _ => rfl
  obtain ⟨dfirstpower, Ffirstpower⟩ := hfirstpower.fn
  have gfirstpower := PySem.W.mg_of X G hfirstpower.at'
  have kfirstpower := hfirstpower.kp
  have bfirstpower := Ffirstpower.binds (ps := ["degree", "bound"]) fun _ _ _ _ _ _ us hl => match us, hl with | [_, _], _ => rfl
  obtain ⟨djoined, Fjoined⟩ := hjoined.fn
  have gjoined := PySem.W.mg_of X G hjoined.at'
  have kjoined := hjoined.kp
  have bjoined := Fjoined.binds (ps := ["word", "other"]) fun _ _ _ _ _ _ us hl => match us, hl with | [_, _], _ => rfl
  obtain ⟨dlengthof, Flengthof⟩ := hlengthof.fn
  have glengthof := PySem.W.mg_of X G hlengthof.at'
  have klengthof := hlengthof.kp
  have blengthof := Flengthof.binds (ps := ["word"]) fun _ _ _ _ _ _ us hl => match us, hl with | [_], _ => rfl
  obtain ⟨dinversebyprime, Finversebyprime⟩ := hinversebyprime.fn
  have ginversebyprime := PySem.W.mg_of X G hinversebyprime.at'
  have kinversebyprime := hinversebyprime.kp
  have binversebyprime := Finversebyprime.binds (ps := ["number"]) fun _ _ _ _ _ _ us hl => match us, hl with | [_], _ => rfl
  obtain ⟨dwholemultiple, Fwholemultiple⟩ := hwholemultiple.fn
  have gwholemultiple := PySem.W.mg_of X G hwholemultiple.at'
  have kwholemultiple := hwholemultiple.kp
  have bwholemultiple := Fwholemultiple.binds (ps := ["row"]) fun _ _ _ _ _ _ us hl => match us, hl with | [_], _ => rfl
  obtain ⟨dwholerows, Fwholerows⟩ := hwholerows.fn
  have gwholerows := PySem.W.mg_of X G hwholerows.at'
  have kwholerows := hwholerows.kp
  have bwholerows := Fwholerows.binds (ps := ["rows"]) fun _ _ _ _ _ _ us hl => match us, hl with | [_], _ => rfl
  obtain ⟨dindependentplaces, Findependentplaces⟩ := hindependentplaces.fn
  have gindependentplaces := PySem.W.mg_of X G hindependentplaces.at'
  have kindependentplaces := hindependentplaces.kp
  have bindependentplaces := Findependentplaces.binds (ps := ["rows", "width"]) fun _ _ _ _ _ _ us hl => match us, hl with | [_, _], _ => rfl
  obtain ⟨dareallmade, Fareallmade⟩ := hareallmade.fn
  have gareallmade := PySem.W.mg_of X G hareallmade.at'
  have kareallmade := hareallmade.kp
  have bareallmade := Fareallmade.binds (ps := ["rows", "width"]) fun _ _ _ _ _ _ us hl => match us, hl with | [_, _], _ => rfl
  obtain ⟨dmaderows, Fmaderows⟩ := hmaderows.fn
  have gmaderows := PySem.W.mg_of X G hmaderows.at'
  have kmaderows := hmaderows.kp
  have bmaderows := Fmaderows.binds (ps := ["evens", "parts", "degree"]) fun _ _ _ _ _ _ us hl => match us, hl with | [_, _, _], _ => rfl
  obtain ⟨dopendegree, Fopendegree⟩ := hopendegree.fn
  have gopendegree := PySem.W.mg_of X G hopendegree.at'
  have kopendegree := hopendegree.kp
  have bopendegree := Fopendegree.binds (ps := ["evens", "parts", "bound"]) fun _ _ _ _ _ _ us hl => match us, hl with | [_, _, _], _ => rfl
  obtain ⟨dasratio, Fasratio⟩ := hasratio.fn
  have gasratio := PySem.W.mg_of X G hasratio.at'
  have kasratio := hasratio.kp
  have basratio := Fasratio.binds (ps := ["number"]) fun _ _ _ _ _ _ us hl => match us, hl with | [_], _ => rfl
  obtain ⟨ddostepsend, Fdostepsend⟩ := hdostepsend.fn
  have gdostepsend := PySem.W.mg_of X G hdostepsend.at'
  have kdostepsend := hdostepsend.kp
  have bdostepsend := Fdostepsend.binds (ps := ["evens", "odds", "steps"]) fun _ _ _ _ _ _ us hl => match us, hl with | [_, _, _], _ => rfl
  obtain ⟨diswithin, Fiswithin⟩ := hiswithin.fn
  have giswithin := PySem.W.mg_of X G hiswithin.at'
  have kiswithin := hiswithin.kp
  have biswithin := Fiswithin.binds (ps := ["lot", "other"]) fun _ _ _ _ _ _ us hl => match us, hl with | [_, _], _ => rfl
  obtain ⟨dneededwords, Fneededwords⟩ := hneededwords.fn
  have gneededwords := PySem.W.mg_of X G hneededwords.at'
  have kneededwords := hneededwords.kp
  have bneededwords := Fneededwords.binds (ps := ["evens", "degree"]) fun _ _ _ _ _ _ us hl => match us, hl with | [_, _], _ => rfl
  obtain ⟨dendingsteps, Fendingsteps⟩ := hendingsteps.fn
  have gendingsteps := PySem.W.mg_of X G hendingsteps.at'
  have kendingsteps := hendingsteps.kp
  have bendingsteps := Fendingsteps.binds (ps := ["evens", "odds"]) fun _ _ _ _ _ _ us hl => match us, hl with | [_, _], _ => rfl
  obtain ⟨dlawmet, Flawmet⟩ := hlawmet.fn
  have glawmet := PySem.W.mg_of X G hlawmet.at'
  have klawmet := hlawmet.kp
  have blawmet := Flawmet.binds (ps := ["call"]) fun _ _ _ _ _ _ us hl => match us, hl with | [_], _ => rfl
  obtain ⟨dlawaremet, Flawaremet⟩ := hlawaremet.fn
  have glawaremet := PySem.W.mg_of X G hlawaremet.at'
  have klawaremet := hlawaremet.kp
  have blawaremet := Flawaremet.binds (ps := ["calls", "due"]) fun _ _ _ _ _ _ us hl => match us, hl with | [_, _], _ => rfl
  refine ⟨[(clawdegreesright, Plawdegreesright), (clawothersright, Plawothersright)], fun p hp => ?_, PySem.W.fnOf "law" "law" (defArgs sLaw) (defBody sLaw) (defScope sLaw) .none kVL docL pmL anL cdL ctL, spLaw K [(Plawdegreesright, qDR), (Plawothersright, qOR)], fun p hp => ?_, fun s u => .of_eq rfl, fun H a ns hH hS => ⟨a, ns, rfl, hS, fun p hp => ?_, fun _ => rfl⟩, fun base _ _ TB => ?_⟩
  · rcases List.mem_cons.mp hp with e | e
    · exact ⟨_, List.mem_cons_self, by rw [e]; exact tlawdegreesright⟩
    · exact ⟨_, (List.mem_cons_of_mem _ List.mem_cons_self), by rw [List.mem_singleton.mp e]; exact tlawothersright⟩
  · rcases List.mem_cons.mp hp with e | e
    · rw [e]; exact olawdegreesright
    · rw [List.mem_singleton.mp e]; exact olawothersright
  · rcases List.mem_cons.mp hp with e | e
    · rw [e]; exact TabS.nil (hH _ List.mem_cons_self)
    · rw [List.mem_singleton.mp e]; exact TabS.nil (hH _ (List.mem_cons_of_mem _ List.mem_cons_self))
  have ulawdegreesright : ∀ p ∈ ([(Plawdegreesright, qDR), (Plawothersright, qOR)] : List (Addr × Str)), p.1 = Plawdegreesright → p.2 = qDR := fun p hp e => by
    simp only [List.mem_cons, List.not_mem_nil, or_false] at hp
    rcases hp with z | z
    · rw [z]
    · rw [z] at e; exact absurd e.symm n0_1
  have glawdegreesright := PySem.W.mg_of X G alawdegreesright
  have blawdegreesright : L2.Binds K (PySem.W.fnOf "_law_degrees_right" "_law_degrees_right" (defArgs sLawDegreesRight) (defBody sLawDegreesRight) (defScope sLawDegreesRight) .none kVlawdegreesright doclawdegreesright pmlawdegreesright anlawdegreesright (.ref clawdegreesright) ctlawdegreesright) ["dice"] [] := .all fun us hl => match us, hl with | [_], _ => rfl
  have ulawothersright : ∀ p ∈ ([(Plawdegreesright, qDR), (Plawothersright, qOR)] : List (Addr × Str)), p.1 = Plawothersright → p.2 = qOR := fun p hp e => by
    simp only [List.mem_cons, List.not_mem_nil, or_false] at hp
    rcases hp with z | z
    · rw [z] at e; exact absurd e n0_1
    · rw [z]
  have glawothersright := PySem.W.mg_of X G alawothersright
  have blawothersright : L2.Binds K (PySem.W.fnOf "_law_others_right" "_law_others_right" (defArgs sLawOthersRight) (defBody sLawOthersRight) (defScope sLawOthersRight) .none kVlawothersright doclawothersright pmlawothersright anlawothersright (.ref clawothersright) ctlawothersright) ["dice"] [] := .all fun us hl => match us, hl with | [_], _ => rfl
  have FLAW := fun_mk (st := sLaw) lL cL kL
  have q_ok_roll := ok_roll (P := l.prog) (w := w) (K := K) (mg := mg) (base := base)  Flawroll T
  have q_ok_dice := ok_dice (P := l.prog) (w := w) (K := K) (mg := mg) (base := base)  Flawdice T
  have q_ok_pick := ok_pick (P := l.prog) (w := w) (K := K) (mg := mg) (base := base)  Flawpick T glawroll klawroll blawroll q_ok_roll
  have q_ok_iswhole := ok_iswhole (P := l.prog) (w := w) (K := K) (mg := mg) (base := base)  Fiswhole T
  have q_ok_isint := ok_isint (P := l.prog) (w := w) (K := K) (mg := mg) (base := base)  Fisinteger T giswhole kiswhole biswhole q_ok_iswhole
  have q_ok_betw := ok_betw (P := l.prog) (w := w) (K := K) (mg := mg) (base := base)  Fisbetween gisinteger kisinteger bisinteger q_ok_isint
  have q_ok_cntw := ok_cntw (P := l.prog) (w := w) (K := K) (mg := mg) (base := base)  Fcountswith T
  have q_ok_suf := ok_suf (P := l.prog) (w := w) (K := K) (mg := mg) (base := base)  Fsuffixcounts T gcountswith kcountswith bcountswith q_ok_cntw
  have q_ok_least := ok_least (P := l.prog) (w := w) (K := K) (mg := mg) (base := base)  Fleastexponents T
  have q_ok_first := ok_first (P := l.prog) (w := w) (K := K) (mg := mg) (base := base)  Ffirstword T gleastexponents kleastexponents bleastexponents q_ok_least
  have q_ok_rise := ok_rise (P := l.prog) (w := w) (K := K) (mg := mg) (base := base)  Fleastrise T
  have q_ok_next := ok_next (P := l.prog) (w := w) (K := K) (mg := mg) (base := base)  Fnextword T gleastrise kleastrise bleastrise q_ok_rise gleastexponents kleastexponents bleastexponents q_ok_least
  have q_ok_chkb := ok_chkb (P := l.prog) (w := w) (K := K) (mg := mg) (base := base)  Fcheckbetween gisbetween kisbetween bisbetween q_ok_betw
  have q_ok_count := ok_count (P := l.prog) (w := w) (K := K) (mg := mg) (base := base)  Fcountwords gsuffixcounts ksuffixcounts bsuffixcounts q_ok_suf
  have q_ok_listed := ok_listed (P := l.prog) (w := w) (K := K) (mg := mg) (base := base)  Flistedwords gsuffixcounts ksuffixcounts bsuffixcounts q_ok_suf gfirstword kfirstword bfirstword q_ok_first gnextword knextword bnextword q_ok_next
  have q_ok_chkbE := ok_chkbE (P := l.prog) (w := w) (K := K) (mg := mg) (base := base)  Fcheckbetween NT_CN gisbetween kisbetween bisbetween q_ok_betw
  have q_ok_isdeg := ok_isdeg (P := l.prog) (w := w) (K := K) (mg := mg) (base := base)  Fisdegrees T gisbetween kisbetween bisbetween q_ok_betw
  have q_ok_chkd := ok_chkd (P := l.prog) (w := w) (K := K) (mg := mg) (base := base)  Fcheckdegrees T gisdegrees kisdegrees bisdegrees q_ok_isdeg
  have q_ok_sumtwo := ok_sumtwo (P := l.prog) (w := w) (K := K) (mg := mg) (base := base)  Fissumoftwo T
  have q_ok_lots := ok_lots (P := l.prog) (w := w) (K := K) (mg := mg) (base := base)  Flots T
  have q_ok_doesbar := ok_doesbar (P := l.prog) (w := w) (K := K) (mg := mg) (base := base)  Fdoesbar T gissumoftwo kissumoftwo bissumoftwo q_ok_sumtwo
  have q_ok_barring := ok_barring (P := l.prog) (w := w) (K := K) (mg := mg) (base := base)  Fbarring T glots klots blots q_ok_lots gdoesbar kdoesbar bdoesbar q_ok_doesbar
  have q_ok_barlots := ok_barlots (P := l.prog) (w := w) (K := K) (mg := mg) (base := base)  Fbarringlots gcheckdegrees kcheckdegrees bcheckdegrees q_ok_chkd gbarring kbarring bbarring q_ok_barring
  have q_ok_canend := ok_canend (P := l.prog) (w := w) (K := K) (mg := mg) (base := base)  Fcanend T gcheckdegrees kcheckdegrees bcheckdegrees q_ok_chkd gbarring kbarring bbarring q_ok_barring
  have q_ok_ismade := ok_ismade (P := l.prog) (w := w) (K := K) (mg := mg) (base := base)  Fismade T gcheckbetween kcheckbetween bcheckbetween q_ok_chkb gisdegrees kisdegrees bisdegrees q_ok_isdeg gissumoftwo kissumoftwo bissumoftwo q_ok_sumtwo
  have q_ok_isdegB := ok_isdegB (P := l.prog) (w := w) (K := K) (mg := mg) (base := base)  Fisdegrees T gisbetween kisbetween bisbetween q_ok_betw
  have q_ok_chkdE := ok_chkdE (P := l.prog) (w := w) (K := K) (mg := mg) (base := base)  Fcheckdegrees T ER_InvalidLetters gisdegrees kisdegrees bisdegrees q_ok_isdegB
  have q_ok_barlotsBad := ok_barlotsBad (P := l.prog) (w := w) (K := K) (mg := mg) (base := base)  Fbarringlots gcheckdegrees kcheckdegrees bcheckdegrees q_ok_chkdE
  have q_ok_canendBad := ok_canendBad (P := l.prog) (w := w) (K := K) (mg := mg) (base := base)  Fcanend gcheckdegrees kcheckdegrees bcheckdegrees q_ok_chkdE
  have q_ok_chklotsBad := ok_chklotsBad (P := l.prog) (w := w) (K := K) (mg := mg) (base := base)  Fcheckedlots gcheckdegrees kcheckdegrees bcheckdegrees q_ok_chkdE
  have q_ok_degpBad := ok_degpBad (P := l.prog) (w := w) (K := K) (mg := mg) (base := base)  Fdegreespaper gcheckedlots kcheckedlots bcheckedlots q_ok_chklotsBad
  have q_ok_isdegpBad := ok_isdegpBad (P := l.prog) (w := w) (K := K) (mg := mg) (base := base)  Fisdegreespaper gcheckedlots kcheckedlots bcheckedlots q_ok_chklotsBad
  have q_ok_madeN := ok_madeN (P := l.prog) (w := w) (K := K) (mg := mg) (base := base)  Fismade T gcheckbetween kcheckbetween bcheckbetween q_ok_chkbE
  have q_ok_madeL := ok_madeL (P := l.prog) (w := w) (K := K) (mg := mg) (base := base)  Fismade T ER_InvalidLetters gcheckbetween kcheckbetween bcheckbetween q_ok_chkbE gisdegrees kisdegrees bisdegrees q_ok_isdegB
  have q_ok_bound := ok_bound (P := l.prog) (w := w) (K := K) (mg := mg) (base := base)  Fboundof T
  have q_ok_chklist := ok_chklist (P := l.prog) (w := w) (K := K) (mg := mg) (base := base)  Fchecklisted T NT_CM gcountwords kcountwords bcountwords q_ok_count
  have q_ok_chklots := ok_chklots (P := l.prog) (w := w) (K := K) (mg := mg) (base := base)  Fcheckedlots T NT_CM gcheckdegrees kcheckdegrees bcheckdegrees q_ok_chkd gbarring kbarring bbarring q_ok_barring gboundof kboundof bboundof q_ok_bound gchecklisted kchecklisted bchecklisted q_ok_chklist
  have q_ok_firstpow := ok_firstpow (P := l.prog) (w := w) (K := K) (mg := mg) (base := base)  Ffirstpower
  have q_ok_jnd := ok_jnd (P := l.prog) (w := w) (K := K) (mg := mg) (base := base)  Fjoined T
  have q_ok_len := ok_len (P := l.prog) (w := w) (K := K) (mg := mg) (base := base)  Flengthof T
  have q_ok_inv := ok_inv (P := l.prog) (w := w) (K := K) (mg := mg) (base := base)  Finversebyprime T
  have q_ok_whole := ok_whole (P := l.prog) (w := w) (K := K) (mg := mg) (base := base)  Fwholemultiple T
  have q_ok_wholerows := ok_wholerows (P := l.prog) (w := w) (K := K) (mg := mg) (base := base)  Fwholerows gwholemultiple kwholemultiple bwholemultiple q_ok_whole
  have q_ok_places := ok_places (P := l.prog) (w := w) (K := K) (mg := mg) (base := base)  Findependentplaces T ginversebyprime kinversebyprime binversebyprime q_ok_inv
  have q_ok_allmade := ok_allmade (P := l.prog) (w := w) (K := K) (mg := mg) (base := base)  Fareallmade T gindependentplaces kindependentplaces bindependentplaces q_ok_places
  have q_ok_first1 := ok_first1 (P := l.prog) (w := w) (K := K) (mg := mg) (base := base)  Ffirstword T gleastexponents kleastexponents bleastexponents q_ok_least
  have q_ok_listed1 := ok_listed1 (P := l.prog) (w := w) (K := K) (mg := mg) (base := base)  Flistedwords gsuffixcounts ksuffixcounts bsuffixcounts q_ok_suf gfirstword kfirstword bfirstword q_ok_first1 gnextword knextword bnextword q_ok_next
  have q_ok_made1 := ok_made1 (P := l.prog) (w := w) (K := K) (mg := mg) (base := base)  Fmaderows T glistedwords klistedwords blistedwords q_ok_listed1 gjoined kjoined bjoined q_ok_jnd
  have q_ok_open := ok_open (P := l.prog) (w := w) (K := K) (mg := mg) (base := base)  Fopendegree T gfirstpower kfirstpower bfirstpower q_ok_firstpow gwholerows kwholerows bwholerows q_ok_wholerows gmaderows kmaderows bmaderows q_ok_made1 gareallmade kareallmade bareallmade q_ok_allmade gcountwords kcountwords bcountwords q_ok_count
  have q_ok_ratio1 := ok_ratio1 (P := l.prog) (w := w) (K := K) (mg := mg) (base := base)  Fasratio T
  have q_ok_ends := ok_ends (P := l.prog) (w := w) (K := K) (mg := mg) (base := base)  Fdostepsend T gasratio kasratio basratio q_ok_ratio1 gopendegree kopendegree bopendegree q_ok_open gboundof kboundof bboundof q_ok_bound
  have q_ok_within0 := ok_within0 (P := l.prog) (w := w) (K := K) (mg := mg) (base := base)  Fiswithin T
  have q_ok_needed := ok_needed (P := l.prog) (w := w) (K := K) (mg := mg) (base := base)  Fneededwords T glistedwords klistedwords blistedwords q_ok_listed1 glengthof klengthof blengthof q_ok_len giswithin kiswithin biswithin q_ok_within0
  have q_ok_steps := ok_steps (P := l.prog) (w := w) (K := K) (mg := mg) (base := base)  Fendingsteps T gneededwords kneededwords bneededwords q_ok_needed gdostepsend kdostepsend bdostepsend q_ok_ends
  have q_ok_degpFine := ok_degpFine (P := l.prog) (w := w) (K := K) (mg := mg) (base := base)  Fdegreespaper T gcheckedlots kcheckedlots bcheckedlots q_ok_chklots gendingsteps kendingsteps bendingsteps q_ok_steps
  have q_ok_degpMany := ok_degpMany (P := l.prog) (w := w) (K := K) (mg := mg) (base := base)  Fdegreespaper gcheckedlots kcheckedlots bcheckedlots q_ok_chklots
  have q_ok_isdegpMany := ok_isdegpMany (P := l.prog) (w := w) (K := K) (mg := mg) (base := base)  Fisdegreespaper gcheckedlots kcheckedlots bcheckedlots q_ok_chklots
  have q_ok_isdegpNo := ok_isdegpNo (P := l.prog) (w := w) (K := K) (mg := mg) (base := base)  Fisdegreespaper T gcheckedlots kcheckedlots bcheckedlots q_ok_chklots
  have q_ok_met := ok_met (P := l.prog) (w := w) (K := K) (mg := mg) (base := base) (k := 12) Flawmet T CS NT_CN NT_CM
  have q_ok_are := ok_are (P := l.prog) (w := w) (K := K) (mg := mg) (base := base) (k := 12) Flawaremet glawmet klawmet blawmet q_ok_met
  have q_ok_dr := ok_dr (P := l.prog) (w := w) (K := K) (mg := mg) (base := base)  List.mem_cons_self ulawdegreesright llawdegreesright clawdegreesright_ (TB _ List.mem_cons_self) glawpick klawpick blawpick q_ok_pick glawmet klawmet blawmet q_ok_met glawaremet klawaremet blawaremet q_ok_are gbarringlots kbarringlots bbarringlots q_ok_barlotsBad q_ok_barlots gcanend kcanend bcanend q_ok_canendBad q_ok_canend gdegreespaper kdegreespaper bdegreespaper q_ok_degpBad q_ok_degpFine gisdegreespaper kisdegreespaper bisdegreespaper q_ok_isdegpBad q_ok_isdegpNo
  have q_ok_or := ok_or (P := l.prog) (w := w) (K := K) (mg := mg) (base := base)  (List.mem_cons_of_mem _ List.mem_cons_self) ulawothersright llawothersright clawothersright_ (TB _ (List.mem_cons_of_mem _ List.mem_cons_self)) T glawpick klawpick blawpick q_ok_pick glawaremet klawaremet blawaremet q_ok_are gismade kismade bismade q_ok_madeN q_ok_madeL q_ok_ismade gdegreespaper kdegreespaper bdegreespaper q_ok_degpMany q_ok_degpFine gisdegreespaper kisdegreespaper bisdegreespaper q_ok_isdegpMany
  exact ok_law (P := l.prog) (w := w) (K := K) (mg := mg) (base := base)  FLAW T glawdice klawdice blawdice q_ok_dice glawdegreesright klawdegreesright blawdegreesright q_ok_dr glawothersright klawothersright blawothersright q_ok_or gbarringlots kbarringlots bbarringlots q_ok_barlots
end K9
open PySem PySem.W PyProof.Rows
set_option maxRecDepth 100000 in
set_option maxHeartbeats 0 in
theorem PySem.Challenge.cw_stepletters_k37_errors_of_degrees_holds : PySem.Challenge.rw_stepletters_k37_errors_of_degrees.Holds := by
  w_on; o_law; k_head; (case hw => w_witness2)
  k_fill
  refine K9.walk_tabs (l := PySem.Challenge.rw_stepletters_k37_errors_of_degrees) (n := 63) (k := 17) (x := "script") (xs := ["_law_degrees_right", "_law_others_right"]) rfl (by decide) rfl ⟨rfl, by decide, by decide⟩ (fun w h Y => PySem.W.km_in_of Y) (by rfl) ?F
  case F =>
    intro w mg fa h KX G hmg
    refine' K9.all_mk (Plawdegreesright := 462) (Plawothersright := 469) KX G hmg ?aCL ?mCL ?aCN ?nCN ?aCM ?nCM ?s_CL_CL ?s_CN_CL ?s_CN_CN ?s_CM_CL ?s_CM_CN ?s_CM_CM ?z_int ?z_bool ?z_tuple ?z_list ?z_dict ?z_isinstance ?z_len ?z_abs ?z_max ?z_min ?z_range ?z_sum ?z_all ?z_any ?z_enumerate ?z_reversed ?z_zip ?z_sorted ?z_repr ?x_gcd ?x_lcm ?y__LIMIT ?y_PRIME_echelon ?y_MAX_LETTER ?y_MAX_EVENS ?y_MAX_ODDS ?y_MAX_SHOWN ?y_MAX_LISTED ?y__MOST_MADE ?y_PRIME_degrees ?y__FACTOR ?y__MOST_NUMBER ?hlawroll ?hlawdice ?hlawpick ?hiswhole ?hisinteger ?hisbetween ?hcountswith ?hsuffixcounts ?hleastexponents ?hfirstword ?hleastrise ?hnextword ?hcheckbetween ?hcountwords ?hlistedwords ?hisdegrees ?hcheckdegrees ?hissumoftwo ?hlots ?hdoesbar ?hbarring ?hbarringlots ?hcanend ?hismade ?hcheckedlots ?hdegreespaper ?hisdegreespaper ?hboundof ?hchecklisted ?hfirstpower ?hjoined ?hlengthof ?hinversebyprime ?hwholemultiple ?hwholerows ?hindependentplaces ?hareallmade ?hmaderows ?hopendegree ?hasratio ?hdostepsend ?hiswithin ?hneededwords ?hendingsteps ?hlawmet ?hlawaremet ?alawdegreesright ?llawdegreesright ?clawdegreesright_ ?klawdegreesright ?tlawdegreesright ?olawdegreesright ?alawothersright ?llawothersright ?clawothersright_ ?klawothersright ?tlawothersright ?olawothersright ?n0_1 ?aL ?lL ?cL ?kL
    (case aCL => refine' K9.cl_of ?a ?k ?e ?t ?i; (case a => k_is); (case k => k_is); (case e => k_is); (case t => k_is); (case i => k_is))
    (case mCL => kernel_rfl)
    (case aCN => refine' K9.cl_of ?a ?k ?e ?t ?i; (case a => k_is); (case k => k_is); (case e => k_is); (case t => k_is); (case i => k_is))
    (case nCN => refine' K9.ofInvalidNumber ?j ?l ?u ?m ?v ?d ?s ?g ?n ?e ?t; (case j => k_is); (case l => k_is); (case u => k_is); (case m => kernel_rfl); (case v => kernel_rfl); (case d => k_is); (case s => k_is); (case g => k_is); (case n => k_is); (case e => k_is); (case t => k_is))
    (case aCM => refine' K9.cl_of ?a ?k ?e ?t ?i; (case a => k_is); (case k => k_is); (case e => k_is); (case t => k_is); (case i => k_is))
    (case nCM => refine' K9.ofTooMany ?j ?l ?u ?m ?v ?d ?s ?g ?n ?e ?t; (case j => k_is); (case l => k_is); (case u => k_is); (case m => kernel_rfl); (case v => kernel_rfl); (case d => k_is); (case s => k_is); (case g => k_is); (case n => k_is); (case e => k_is); (case t => k_is))
    (case s_CL_CL => first | rfl | k_is)
    (case s_CN_CL => first | rfl | k_is)
    (case s_CN_CN => first | rfl | k_is)
    (case s_CM_CL => first | rfl | k_is)
    (case s_CM_CN => first | rfl | k_is)
    (case s_CM_CM => first | rfl | k_is)
    (case z_int => k_is)
    (case z_bool => k_is)
    (case z_tuple => k_is)
    (case z_list => k_is)
    (case z_dict => k_is)
    (case z_isinstance => k_is)
    (case z_len => k_is)
    (case z_abs => k_is)
    (case z_max => k_is)
    (case z_min => k_is)
    (case z_range => k_is)
    (case z_sum => k_is)
    (case z_all => k_is)
    (case z_any => k_is)
    (case z_enumerate => k_is)
    (case z_reversed => k_is)
    (case z_zip => k_is)
    (case z_sorted => k_is)
    (case z_repr => k_is)
    (case x_gcd => exact PySem.W.mg_of KX G (by k_is))
    (case x_lcm => exact PySem.W.mg_of KX G (by k_is))
    (case y__LIMIT => exact ⟨_, PySem.W.mg_of KX G (by k_is)⟩)
    (case y_PRIME_echelon => exact ⟨_, PySem.W.mg_of KX G (by k_is)⟩)
    (case y_MAX_LETTER => exact ⟨_, PySem.W.mg_of KX G (by k_is)⟩)
    (case y_MAX_EVENS => exact ⟨_, PySem.W.mg_of KX G (by k_is)⟩)
    (case y_MAX_ODDS => exact ⟨_, PySem.W.mg_of KX G (by k_is)⟩)
    (case y_MAX_SHOWN => exact ⟨_, PySem.W.mg_of KX G (by k_is)⟩)
    (case y_MAX_LISTED => exact ⟨_, PySem.W.mg_of KX G (by k_is)⟩)
    (case y__MOST_MADE => exact ⟨_, PySem.W.mg_of KX G (by k_is)⟩)
    (case y_PRIME_degrees => exact ⟨_, PySem.W.mg_of KX G (by k_is)⟩)
    (case y__FACTOR => exact ⟨_, PySem.W.mg_of KX G (by k_is)⟩)
    (case y__MOST_NUMBER => exact ⟨_, PySem.W.mg_of KX G (by k_is)⟩)
    (case hlawroll => refine' K9.has_of ?a ?l ?c ?k; (case a => k_is); (case l => k_is); (case c => k_is); (case k => k_is))
    (case hlawdice => refine' K9.has_of ?a ?l ?c ?k; (case a => k_is); (case l => k_is); (case c => k_is); (case k => k_is))
    (case hlawpick => refine' K9.has_of ?a ?l ?c ?k; (case a => k_is); (case l => k_is); (case c => k_is); (case k => k_is))
    (case hiswhole => refine' K9.has_of ?a ?l ?c ?k; (case a => k_is); (case l => k_is); (case c => k_is); (case k => k_is))
    (case hisinteger => refine' K9.has_of ?a ?l ?c ?k; (case a => k_is); (case l => k_is); (case c => k_is); (case k => k_is))
    (case hisbetween => refine' K9.has_of ?a ?l ?c ?k; (case a => k_is); (case l => k_is); (case c => k_is); (case k => k_is))
    (case hcountswith => refine' K9.has_of ?a ?l ?c ?k; (case a => k_is); (case l => k_is); (case c => k_is); (case k => k_is))
    (case hsuffixcounts => refine' K9.has_of ?a ?l ?c ?k; (case a => k_is); (case l => k_is); (case c => k_is); (case k => k_is))
    (case hleastexponents => refine' K9.has_of ?a ?l ?c ?k; (case a => k_is); (case l => k_is); (case c => k_is); (case k => k_is))
    (case hfirstword => refine' K9.has_of ?a ?l ?c ?k; (case a => k_is); (case l => k_is); (case c => k_is); (case k => k_is))
    (case hleastrise => refine' K9.has_of ?a ?l ?c ?k; (case a => k_is); (case l => k_is); (case c => k_is); (case k => k_is))
    (case hnextword => refine' K9.has_of ?a ?l ?c ?k; (case a => k_is); (case l => k_is); (case c => k_is); (case k => k_is))
    (case hcheckbetween => refine' K9.has_of ?a ?l ?c ?k; (case a => k_is); (case l => k_is); (case c => k_is); (case k => k_is))
    (case hcountwords => refine' K9.has_of ?a ?l ?c ?k; (case a => k_is); (case l => k_is); (case c => k_is); (case k => k_is))
    (case hlistedwords => refine' K9.has_of ?a ?l ?c ?k; (case a => k_is); (case l => k_is); (case c => k_is); (case k => k_is))
    (case hisdegrees => refine' K9.has_of ?a ?l ?c ?k; (case a => k_is); (case l => k_is); (case c => k_is); (case k => k_is))
    (case hcheckdegrees => refine' K9.has_of ?a ?l ?c ?k; (case a => k_is); (case l => k_is); (case c => k_is); (case k => k_is))
    (case hissumoftwo => refine' K9.has_of ?a ?l ?c ?k; (case a => k_is); (case l => k_is); (case c => k_is); (case k => k_is))
    (case hlots => refine' K9.has_of ?a ?l ?c ?k; (case a => k_is); (case l => k_is); (case c => k_is); (case k => k_is))
    (case hdoesbar => refine' K9.has_of ?a ?l ?c ?k; (case a => k_is); (case l => k_is); (case c => k_is); (case k => k_is))
    (case hbarring => refine' K9.has_of ?a ?l ?c ?k; (case a => k_is); (case l => k_is); (case c => k_is); (case k => k_is))
    (case hbarringlots => refine' K9.has_of ?a ?l ?c ?k; (case a => k_is); (case l => k_is); (case c => k_is); (case k => k_is))
    (case hcanend => refine' K9.has_of ?a ?l ?c ?k; (case a => k_is); (case l => k_is); (case c => k_is); (case k => k_is))
    (case hismade => refine' K9.has_of ?a ?l ?c ?k; (case a => k_is); (case l => k_is); (case c => k_is); (case k => k_is))
    (case hcheckedlots => refine' K9.has_of ?a ?l ?c ?k; (case a => k_is); (case l => k_is); (case c => k_is); (case k => k_is))
    (case hdegreespaper => refine' K9.has_of ?a ?l ?c ?k; (case a => k_is); (case l => k_is); (case c => k_is); (case k => k_is))
    (case hisdegreespaper => refine' K9.has_of ?a ?l ?c ?k; (case a => k_is); (case l => k_is); (case c => k_is); (case k => k_is))
    (case hboundof => refine' K9.has_of ?a ?l ?c ?k; (case a => k_is); (case l => k_is); (case c => k_is); (case k => k_is))
    (case hchecklisted => refine' K9.has_of ?a ?l ?c ?k; (case a => k_is); (case l => k_is); (case c => k_is); (case k => k_is))
    (case hfirstpower => refine' K9.has_of ?a ?l ?c ?k; (case a => k_is); (case l => k_is); (case c => k_is); (case k => k_is))
    (case hjoined => refine' K9.has_of ?a ?l ?c ?k; (case a => k_is); (case l => k_is); (case c => k_is); (case k => k_is))
    (case hlengthof => refine' K9.has_of ?a ?l ?c ?k; (case a => k_is); (case l => k_is); (case c => k_is); (case k => k_is))
    (case hinversebyprime => refine' K9.has_of ?a ?l ?c ?k; (case a => k_is); (case l => k_is); (case c => k_is); (case k => k_is))
    (case hwholemultiple => refine' K9.has_of ?a ?l ?c ?k; (case a => k_is); (case l => k_is); (case c => k_is); (case k => k_is))
    (case hwholerows => refine' K9.has_of ?a ?l ?c ?k; (case a => k_is); (case l => k_is); (case c => k_is); (case k => k_is))
    (case hindependentplaces => refine' K9.has_of ?a ?l ?c ?k; (case a => k_is); (case l => k_is); (case c => k_is); (case k => k_is))
    (case hareallmade => refine' K9.has_of ?a ?l ?c ?k; (case a => k_is); (case l => k_is); (case c => k_is); (case k => k_is))
    (case hmaderows => refine' K9.has_of ?a ?l ?c ?k; (case a => k_is); (case l => k_is); (case c => k_is); (case k => k_is))
    (case hopendegree => refine' K9.has_of ?a ?l ?c ?k; (case a => k_is); (case l => k_is); (case c => k_is); (case k => k_is))
    (case hasratio => refine' K9.has_of ?a ?l ?c ?k; (case a => k_is); (case l => k_is); (case c => k_is); (case k => k_is))
    (case hdostepsend => refine' K9.has_of ?a ?l ?c ?k; (case a => k_is); (case l => k_is); (case c => k_is); (case k => k_is))
    (case hiswithin => refine' K9.has_of ?a ?l ?c ?k; (case a => k_is); (case l => k_is); (case c => k_is); (case k => k_is))
    (case hneededwords => refine' K9.has_of ?a ?l ?c ?k; (case a => k_is); (case l => k_is); (case c => k_is); (case k => k_is))
    (case hendingsteps => refine' K9.has_of ?a ?l ?c ?k; (case a => k_is); (case l => k_is); (case c => k_is); (case k => k_is))
    (case hlawmet => refine' K9.has_of ?a ?l ?c ?k; (case a => k_is); (case l => k_is); (case c => k_is); (case k => k_is))
    (case hlawaremet => refine' K9.has_of ?a ?l ?c ?k; (case a => k_is); (case l => k_is); (case c => k_is); (case k => k_is))
    (case alawdegreesright => k_is)
    (case llawdegreesright => k_is)
    (case clawdegreesright_ => k_is)
    (case klawdegreesright => k_is)
    (case tlawdegreesright => kernel_rfl)
    (case olawdegreesright => kernel_rfl)
    (case alawothersright => k_is)
    (case llawothersright => k_is)
    (case clawothersright_ => k_is)
    (case klawothersright => k_is)
    (case tlawothersright => kernel_rfl)
    (case olawothersright => kernel_rfl)
    (case n0_1 => decide)
    (case aL => k_is)
    (case lL => k_is)
    (case cL => k_is)
    (case kL => k_is)
