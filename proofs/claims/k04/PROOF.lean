import PyProof.Rows.All
import Wide.All
import OpenK.AllK
import Wide.FinOn
import PyProof.EqAt
import PyProof.EqKinds
import PyProof.TupleCall
import HandS.ForMost
import HandS.ForExc
import HandS.Wide
import HandS.Gcd
import HandS.FStr
import HandS.IsInst
import HandS.Lambda
import HandS.EndTab
import HandS.CallLocal
import HandS.CallSlots
import HandS.RaiseMore
import PySem.Challenge.RW_stepletters_k04_whole_words_listed_and_c
import HandS.Zip
import HandS.NoneIn
import HandS.TupAny
import HandS.TupMul
import HandS.Walk
import HandS.Rev
import HandS.Style
import HandS.Steps
import HandS.SetFor
import HandS.TupLe
import KE.GoesMore
import KE.KTupSum
import HandS.Deep
import HandS.Conv
import HandS.RevRange
import HandS.GenBody
import HandS.GenYield
import HandS.GenCall
import HandS.GenList
set_option Elab.async false
set_option linter.all false
set_option maxRecDepth 100000
set_option maxHeartbeats 4000000
set_option exponentiation.threshold 5000
namespace K5
/-! ### numbers of words, by series -/
def sh (a : Nat) (f : Nat → Nat) (d : Nat) : Nat := if a ≤ d then f (d - a) else 0
def opO (a : Nat) (f : Nat → Nat) (d : Nat) : Nat := f d + sh a f d
def opE (a : Nat) (f : Nat → Nat) (d : Nat) : Nat := if h : 1 ≤ a ∧ a ≤ d then f d + opE a f (d - a) else f d
termination_by d
decreasing_by omega
theorem opE_eq {a : Nat} (h : 1 ≤ a) (f : Nat → Nat) (d : Nat) : opE a f d = f d + sh a (opE a f) d := by
  rw [opE]
  unfold sh
  by_cases c : a ≤ d
  · rw [dif_pos ⟨h, c⟩, if_pos c]
  · rw [dif_neg (fun z => c z.2), if_neg c, Nat.add_zero]
theorem opE_uniq {a : Nat} (h : 1 ≤ a) {f g : Nat → Nat} (e : ∀ d, g d = f d + sh a g d) : ∀ d, g d = opE a f d := by
  intro d
  induction d using Nat.strongRecOn with
  | ind d ih =>
    rw [e d, opE_eq h]
    unfold sh
    by_cases c : a ≤ d
    · rw [if_pos c, if_pos c, ih (d - a) (by omega)]
    · rw [if_neg c, if_neg c]
theorem sh_comm (a b : Nat) (f : Nat → Nat) (d : Nat) : sh a (sh b f) d = sh b (sh a f) d := by
  unfold sh
  by_cases c : a ≤ d
  · by_cases e : b ≤ d
    · by_cases g : a + b ≤ d
      · rw [if_pos c, if_pos e, if_pos (by omega), if_pos (by omega), Nat.sub_right_comm]
      · rw [if_pos c, if_pos e, if_neg (by omega), if_neg (by omega)]
    · rw [if_pos c, if_neg e, if_neg (by omega)]
  · by_cases e : b ≤ d
    · rw [if_neg c, if_pos e, if_neg (by omega)]
    · rw [if_neg c, if_neg e]
theorem sh_add (a : Nat) (f g : Nat → Nat) (d : Nat) : sh a (fun e => f e + g e) d = sh a f d + sh a g d := by
  unfold sh
  split
  · rfl
  · rfl
theorem sh_congr {a : Nat} {f g : Nat → Nat} {d : Nat} (h : ∀ e, e ≤ d - a → f e = g e) : sh a f d = sh a g d := by
  unfold sh
  split
  · exact h _ (Nat.le_refl _)
  · rfl
def op (h : Nat) (f : Nat → Nat) : Nat → Nat := if h % 2 = 1 then opO h f else opE h f
theorem oo (a b : Nat) (f : Nat → Nat) : opO a (opO b f) = opO b (opO a f) := funext fun d => by
  show f d + sh b f d + sh a (fun e => f e + sh b f e) d = f d + sh a f d + sh b (fun e => f e + sh a f e) d
  rw [sh_add, sh_add, sh_comm a b]
  omega
theorem oe {b : Nat} (hb : 1 ≤ b) (a : Nat) (f : Nat → Nat) : opO a (opE b f) = opE b (opO a f) := funext fun d => by
  refine opE_uniq hb (fun d => ?_) d
  have e : ∀ d, opE b f d = f d + sh b (opE b f) d := opE_eq hb f
  show opE b f d + sh a (opE b f) d = f d + sh a f d + sh b (fun e => opE b f e + sh a (opE b f) e) d
  rw [sh_add, sh_comm b a]
  have e2 : sh a (opE b f) d = sh a (fun e => f e + sh b (opE b f) e) d := sh_congr fun x _ => e x
  rw [sh_add] at e2
  have := e d
  omega
theorem ee {a b : Nat} (ha : 1 ≤ a) (hb : 1 ≤ b) (f : Nat → Nat) : opE a (opE b f) = opE b (opE a f) := funext fun d => by
  refine opE_uniq hb (fun d => ?_) d
  induction d using Nat.strongRecOn with
  | ind d ih =>
    have e1 := opE_eq ha (opE b f) d
    have e2 := opE_eq hb f d
    have e3 := opE_eq ha f d
    have e4 : sh a (opE a (opE b f)) d = sh a (fun e => opE a f e + sh b (opE a (opE b f)) e) d := by
      unfold sh
      by_cases c : a ≤ d
      · rw [if_pos c, if_pos c]
        exact ih (d - a) (by omega)
      · rw [if_neg c, if_neg c]
    rw [sh_add, sh_comm a b] at e4
    have e5 : sh b (opE a (opE b f)) d = sh b (fun e => opE b f e + sh a (opE a (opE b f)) e) d := sh_congr fun x _ => opE_eq ha (opE b f) x
    rw [sh_add] at e5
    omega
theorem op_comm {a b : Nat} (ha : 1 ≤ a) (hb : 1 ≤ b) (f : Nat → Nat) : op a (op b f) = op b (op a f) := by
  unfold op
  by_cases c : a % 2 = 1
  · by_cases d : b % 2 = 1
    · rw [if_pos c, if_pos d, if_pos d, if_pos c, oo]
    · rw [if_pos c, if_neg d, if_neg d, if_pos c, oe hb]
  · by_cases d : b % 2 = 1
    · rw [if_neg c, if_pos d, if_pos d, if_neg c, oe ha]
    · rw [if_neg c, if_neg d, if_neg d, if_neg c, ee ha hb]
def dl (d : Nat) : Nat := if d = 0 then 1 else 0
def cnt (L : List Int) : Nat → Nat := L.foldr (fun h f => op h.toNat f) dl
theorem cnt_cons (h : Int) (L : List Int) : cnt (h :: L) = op h.toNat (cnt L) := rfl
abbrev Pos1 (L : List Int) : Prop := ∀ h ∈ L, (1 : Int) ≤ h
theorem cnt_perm {L M : List Int} (p : L.Perm M) (h : Pos1 L) : cnt L = cnt M := by
  induction p with
  | nil => rfl
  | cons x p ih => rw [cnt_cons, cnt_cons, ih fun y hy => h y (List.mem_cons_of_mem _ hy)]
  | swap x y l =>
    have hx := h x (by simp)
    have hy := h y (by simp)
    rw [cnt_cons, cnt_cons, cnt_cons, cnt_cons, op_comm (by omega) (by omega)]
  | trans p q ih1 ih2 => rw [ih1 h, ih2 fun y hy => h y (p.mem_iff.mpr hy)]
/-- letter by letter from the front -/
theorem cnt_foldl : ∀ (L : List Int) (M : List Int), Pos1 L → Pos1 M → L.foldl (fun f h => op h.toNat f) (cnt M) = cnt (L ++ M)
  | [], M, _, _ => rfl
  | h :: L, M, hL, hM => by
    have h1 := hL h List.mem_cons_self
    have p : (L ++ h :: M).Perm (h :: L ++ M) := List.perm_middle
    rw [← cnt_perm p fun y hy => ?_]
    · rw [← cnt_foldl L (h :: M) (fun y hy => hL y (List.mem_cons_of_mem _ hy)) (fun y hy => by
        rcases List.mem_cons.mp hy with e | e
        · rw [e]
          exact h1
        · exact hM y e)]
      rfl
    · rcases List.mem_append.mp hy with e | e
      · exact hL y (List.mem_cons_of_mem _ e)
      · rcases List.mem_cons.mp e with e | e
        · rw [e]
          exact h1
        · exact hM y e
/-! ### all words of a degree -/
def mx (h : Int) (d : Nat) : Nat := if h.toNat % 2 = 1 then min 1 (d / h.toNat) else d / h.toNat
def wds : List Int → Nat → List (List Int)
  | [], d => if d = 0 then [[]] else []
  | h :: L, d => (List.range (mx h d + 1)).flatMap fun e => (wds L (d - e * h.toNat)).map fun w => (e : Int) :: w
theorem wds_cons (h : Int) (L : List Int) (d : Nat) : wds (h :: L) d = (List.range (mx h d + 1)).flatMap fun e => (wds L (d - e * h.toNat)).map fun w => (e : Int) :: w := rfl
theorem sum_even (a : Nat) (ha : 1 ≤ a) (f : Nat → Nat) : ∀ d : Nat, ((List.range (d / a + 1)).map fun e => f (d - e * a)).sum = opE a f d := by
  intro d
  induction d using Nat.strongRecOn with
  | ind d ih =>
    rw [opE_eq ha]
    unfold sh
    by_cases c : a ≤ d
    · rw [if_pos c, ← ih (d - a) (by omega)]
      have e : d / a = (d - a) / a + 1 := by
        rw [Nat.div_eq d a, if_pos ⟨by omega, c⟩]
      rw [e, List.range_succ_eq_map, List.map_cons, List.sum_cons, List.map_map]
      have z : d - 0 * a = d := by omega
      rw [z]
      congr 2
      refine List.map_congr_left fun x _ => ?_
      show f (d - (x + 1) * a) = f (d - a - x * a)
      rw [Nat.add_mul, Nat.one_mul, Nat.add_comm, Nat.sub_add_eq]
    · rw [if_neg c, Nat.div_eq_of_lt (by omega)]
      show (f (d - 0 * a) + 0) = f d + 0
      rw [Nat.zero_mul, Nat.sub_zero]
theorem wds_len : ∀ (L : List Int) (d : Nat), Pos1 L → (wds L d).length = cnt L d
  | [], d, _ => by
    show (if d = 0 then [[]] else [] : List (List Int)).length = if d = 0 then 1 else 0
    split <;> rfl
  | h :: L, d, hp => by
    have ih := fun d => wds_len L d fun y hy => hp y (List.mem_cons_of_mem _ hy)
    have h1 := hp h List.mem_cons_self
    rw [cnt_cons]
    unfold wds op mx
    rw [List.length_flatMap]
    have e : (fun e : Nat => ((wds L (d - e * h.toNat)).map fun w => (e : Int) :: w).length) = fun e : Nat => cnt L (d - e * h.toNat) := funext fun e => by rw [List.length_map, ih]
    rw [e]
    by_cases c : h.toNat % 2 = 1
    · rw [if_pos c, if_pos c]
      unfold opO sh
      by_cases q : h.toNat ≤ d
      · have z : min 1 (d / h.toNat) = 1 := by
          have : 1 ≤ d / h.toNat := (Nat.le_div_iff_mul_le (by omega)).mpr (by omega)
          omega
        rw [z, if_pos q]
        show (cnt L (d - 0 * h.toNat) + (cnt L (d - 1 * h.toNat) + 0)) = _
        rw [Nat.zero_mul, Nat.one_mul, Nat.sub_zero, Nat.add_zero]
      · have z : min 1 (d / h.toNat) = 0 := by
          rw [Nat.div_eq_of_lt (by omega)]
          rfl
        rw [z, if_neg q]
        show (cnt L (d - 0 * h.toNat) + 0) = _
        rw [Nat.zero_mul, Nat.sub_zero]
    · rw [if_neg c, if_neg c]
      exact sum_even h.toNat (by omega) (cnt L) d
/-- the degree of a word -/
def dg : List Int → List Int → Int
  | h :: L, e :: w => h * e + dg L w
  | _, _ => 0
/-- its exponents are as told -/
structure Wo (L w : List Int) (d : Nat) : Prop where
  len : w.length = L.length
  deg : dg L w = d
theorem wds_mem : ∀ {L : List Int} {d : Nat} {w : List Int}, Pos1 L → w ∈ wds L d → Wo L w d ∧ ∀ e ∈ w, 0 ≤ e ∧ e ≤ d
  | [], d, w, _, h => by
    unfold wds at h
    split at h
    · rw [List.mem_singleton.mp h]
      rename_i e
      rw [e]
      exact ⟨⟨rfl, rfl⟩, fun _ z => absurd z List.not_mem_nil⟩
    · cases h
  | h :: L, d, w, hp, hw => by
    have h1 := hp h List.mem_cons_self
    unfold wds at hw
    obtain ⟨e, he, hw⟩ := List.mem_flatMap.mp hw
    obtain ⟨v, hv, rfl⟩ := List.mem_map.mp hw
    obtain ⟨⟨a, b⟩, c⟩ := wds_mem (fun y hy => hp y (List.mem_cons_of_mem _ hy)) hv
    have em := List.mem_range.mp he
    have ed : e * h.toNat ≤ d := by
      have : e ≤ d / h.toNat := by
        unfold mx at em
        split at em <;> omega
      exact (Nat.le_div_iff_mul_le (by omega)).mp this
    have e1 : e ≤ d := Nat.le_trans (Nat.le_mul_of_pos_right e (by omega)) ed
    refine ⟨⟨by rw [List.length_cons, List.length_cons, a], ?_⟩, fun x hx => ?_⟩
    · show h * (e : Int) + dg L v = d
      rw [b]
      have z : h * (e : Int) = ((e * h.toNat : Nat) : Int) := by
        rw [Int.natCast_mul, Int.mul_comm, Int.toNat_of_nonneg (by omega)]
      rw [z]
      omega
    · rcases List.mem_cons.mp hx with q | q
      · rw [q]
        omega
      · have := c x q
        omega
/-- the least one -/
def fstE (h : Int) (L : List Int) (d : Nat) : Nat := ((List.range (mx h d + 1)).find? fun e => decide (0 < cnt L (d - e * h.toNat))).getD 0
def least : List Int → Nat → List Int
  | [], _ => []
  | h :: L, d => (fstE h L d : Int) :: least L (d - fstE h L d * h.toNat)
theorem head_flatMap {α β : Type} (f : α → List β) : ∀ l : List α, (l.flatMap f).head? = (l.find? fun x => decide (0 < (f x).length)).bind fun x => (f x).head?
  | [] => rfl
  | x :: l => by
    rw [List.flatMap_cons, List.find?_cons]
    cases e : f x with
    | nil =>
      rw [List.nil_append, head_flatMap f l]
      rfl
    | cons y r => simp [e]
theorem wds_head : ∀ {L : List Int} {d : Nat}, Pos1 L → (wds L d).head? = if 0 < cnt L d then some (least L d) else none
  | [], d, _ => by
    by_cases c : d = 0
    · subst c
      rfl
    · have e1 : wds [] d = [] := if_neg c
      have e2 : cnt [] d = 0 := if_neg c
      rw [e1, e2]
      rfl
  | h :: L, d, hp => by
    have hp' : Pos1 L := fun y hy => hp y (List.mem_cons_of_mem _ hy)
    have ih := fun d => wds_head (L := L) (d := d) hp'
    have eq : (fun e : Nat => decide (0 < ((wds L (d - e * h.toNat)).map fun w => (e : Int) :: w).length)) = fun e : Nat => decide (0 < cnt L (d - e * h.toNat)) := funext fun e => by rw [List.length_map, wds_len L _ hp']
    have q : (wds (h :: L) d).head? = ((List.range (mx h d + 1)).find? fun e => decide (0 < cnt L (d - e * h.toNat))).bind fun e : Nat => ((wds L (d - e * h.toNat)).map fun w => (e : Int) :: w).head? := by
      rw [wds_cons, head_flatMap, eq]
    cases c : (List.range (mx h d + 1)).find? fun e => decide (0 < cnt L (d - e * h.toNat)) with
    | none =>
      rw [c] at q
      have z : wds (h :: L) d = [] := by
        cases y : wds (h :: L) d with
        | nil => rfl
        | cons a r => rw [y] at q; cases q
      have n : cnt (h :: L) d = 0 := by rw [← wds_len _ _ hp, z]; rfl
      rw [z, n, if_neg (Nat.lt_irrefl 0)]
      rfl
    | some e =>
      have hc : 0 < cnt L (d - e * h.toNat) := of_decide_eq_true (List.find?_some (p := fun e : Nat => decide (0 < cnt L (d - e * h.toNat))) c)
      rw [c] at q
      have q2 : (wds (h :: L) d).head? = some ((e : Int) :: least L (d - e * h.toNat)) := by
        rw [q]
        show ((wds L (d - e * h.toNat)).map fun w => (e : Int) :: w).head? = _
        rw [List.head?_map, ih, if_pos hc]
        rfl
      have f : fstE h L d = e := by
        unfold fstE
        rw [c]
        rfl
      have n : 0 < cnt (h :: L) d := by
        rw [← wds_len _ _ hp]
        cases y : wds (h :: L) d with
        | nil => rw [y] at q2; cases q2
        | cons a r => exact Nat.succ_pos _
      rw [q2, if_pos n]
      show _ = some ((fstE h L d : Int) :: least L (d - fstE h L d * h.toNat))
      rw [f]
/-! ### the next word -/
/-- how far an exponent can rise -/
def mr (h : Int) (e : Int) (r : Nat) : Nat := if h.toNat % 2 = 1 then min (r / h.toNat) (1 - e).toNat else r / h.toNat
def rise (h : Int) (L : List Int) (e : Int) (r : Nat) : Option Nat := (List.range (mr h e r)).find? fun k => decide (0 < cnt L (r - (k + 1) * h.toNat))
def nxt : List Int → List Int → Option (List Int)
  | h :: L, e :: w => match nxt L w with
    | some v => some (e :: v)
    | none => (rise h L e (dg L w).toNat).map fun k => (e + (k + 1 : Nat)) :: least L ((dg L w).toNat - (k + 1) * h.toNat)
  | _, _ => none
def Good {α : Type} (f : α → Option α) (A : List α) (o : Option α) : Prop := ∀ (j : Nat) (w : α), A[j]? = some w → f w = (A[j + 1]?).or o
theorem Good.app {α : Type} {f : α → Option α} {A B : List α} {o : Option α} (h1 : Good f A (B.head?.or o)) (h2 : Good f B o) : Good f (A ++ B) o := by
  intro j w hj
  by_cases c : j < A.length
  · rw [List.getElem?_append_left c] at hj
    rw [h1 j w hj]
    by_cases c2 : j + 1 < A.length
    · rw [List.getElem?_append_left c2, List.getElem?_eq_getElem c2]
      rfl
    · rw [List.getElem?_append_right (by omega), List.getElem?_eq_none (by omega), show j + 1 - A.length = 0 by omega]
      show B.head?.or o = (B[0]?).or o
      rw [List.head?_eq_getElem?]
  · rw [List.getElem?_append_right (by omega)] at hj
    rw [h2 _ w hj, List.getElem?_append_right (by omega), show j + 1 - A.length = j - A.length + 1 by omega]
theorem find_shift {p : Nat → Bool} {a : Nat} : ∀ (n : Nat), ((List.range' a n).find? p) = ((List.range n).find? fun k => p (a + k)).map (a + ·) := by
  intro n
  rw [List.range'_eq_map_range, List.find?_map]
  rfl
/-- the blocks from e on -/
theorem good_blocks {h : Int} {L : List Int} {d : Nat} (hp : Pos1 (h :: L)) (ih : ∀ r, Good (nxt L) (wds L r) none) : ∀ (n e : Nat), e + n = mx h d + 1 → Good (nxt (h :: L)) ((List.range' e n).flatMap fun e => (wds L (d - e * h.toNat)).map fun w => (e : Int) :: w) none
  | 0, e, _ => by
    intro j w hj
    cases hj
  | n + 1, e, he => by
    have hp' : Pos1 L := fun y hy => hp y (List.mem_cons_of_mem _ hy)
    have h1 := hp h List.mem_cons_self
    rw [List.range'_succ, List.flatMap_cons]
    refine Good.app ?_ (good_blocks hp ih n (e + 1) (by omega))
    rw [Option.or_none]
    intro j w hj
    rw [List.getElem?_map] at hj
    obtain ⟨v, hv, rfl⟩ := Option.map_eq_some_iff.mp hj
    obtain ⟨⟨a, b⟩, _⟩ := wds_mem hp' (List.mem_of_getElem? hv)
    have q := ih _ j v hv
    rw [Option.or_none] at q
    have em : e ≤ mx h d := by omega
    have ed : e ≤ d / h.toNat := by
      unfold mx at em
      split at em <;> omega
    have eh : e * h.toNat ≤ d := (Nat.le_div_iff_mul_le (by omega)).mp ed
    show (match nxt L v with
      | some v => some ((e : Int) :: v)
      | none => (rise h L e (dg L v).toNat).map fun k => ((e : Int) + (k + 1 : Nat)) :: least L ((dg L v).toNat - (k + 1) * h.toNat)) = _
    rw [q, b, List.getElem?_map]
    cases c : (wds L (d - e * h.toNat))[j + 1]? with
    | some u => rfl
    | none =>
      show (rise h L e ((d - e * h.toNat : Nat) : Int).toNat).map _ = _
      rw [show (((d - e * h.toNat : Nat) : Int)).toNat = d - e * h.toNat by omega]
      rw [Option.map_none, Option.none_or, head_flatMap]
      have eq : (fun e : Nat => decide (0 < ((wds L (d - e * h.toNat)).map fun w => (e : Int) :: w).length)) = fun e : Nat => decide (0 < cnt L (d - e * h.toNat)) := funext fun e => by rw [List.length_map, wds_len L _ hp']
      rw [eq, find_shift]
      have em2 : mr h e (d - e * h.toNat) = n := by
        have dv : (d - e * h.toNat) / h.toNat = d / h.toNat - e := by
          rw [Nat.mul_comm]
          exact Nat.sub_mul_div d h.toNat e
        unfold mr
        unfold mx at he
        rw [dv]
        split at he
        · rename_i o
          rw [if_pos o]
          omega
        · rename_i o
          rw [if_neg o]
          omega
      have pq : (fun k : Nat => decide (0 < cnt L (d - e * h.toNat - (k + 1) * h.toNat))) = fun k : Nat => decide (0 < cnt L (d - (e + 1 + k) * h.toNat)) := funext fun k => by
        rw [show d - e * h.toNat - (k + 1) * h.toNat = d - (e + 1 + k) * h.toNat by rw [Nat.sub_sub, ← Nat.add_mul, show e + (k + 1) = e + 1 + k by omega]]
      unfold rise
      rw [em2, pq]
      cases z : (List.range n).find? fun k : Nat => decide (0 < cnt L (d - (e + 1 + k) * h.toNat)) with
      | none => rfl
      | some k =>
        have hc : 0 < cnt L (d - (e + 1 + k) * h.toNat) := of_decide_eq_true (List.find?_some (p := fun k : Nat => decide (0 < cnt L (d - (e + 1 + k) * h.toNat))) z)
        show some (((e : Int) + (k + 1 : Nat)) :: least L (d - e * h.toNat - (k + 1) * h.toNat)) = ((wds L (d - (e + 1 + k) * h.toNat)).map fun w => ((e + 1 + k : Nat) : Int) :: w).head?
        rw [List.head?_map, wds_head hp', if_pos hc]
        show _ = some (((e + 1 + k : Nat) : Int) :: least L (d - (e + 1 + k) * h.toNat))
        rw [show d - e * h.toNat - (k + 1) * h.toNat = d - (e + 1 + k) * h.toNat by rw [Nat.sub_sub, ← Nat.add_mul, show e + (k + 1) = e + 1 + k by omega], show (e : Int) + ((k + 1 : Nat) : Int) = ((e + 1 + k : Nat) : Int) by omega]
theorem nxt_good : ∀ (L : List Int) (d : Nat), Pos1 L → Good (nxt L) (wds L d) none
  | [], d, _ => by
    intro j w hj
    by_cases c : d = 0
    · have e : wds [] d = [[]] := if_pos c
      rw [e] at hj ⊢
      cases j with
      | zero =>
        cases hj
        rfl
      | succ j => cases hj
    · have e : wds [] d = [] := if_neg c
      rw [e] at hj
      cases hj
  | h :: L, d, hp => by
    have q := good_blocks (h := h) (L := L) (d := d) hp (fun r => nxt_good L r fun y hy => hp y (List.mem_cons_of_mem _ hy)) (mx h d + 1) 0 (by omega)
    rw [wds_cons, List.range_eq_range']
    exact q
/-! ### the law's listing -/
def rch (L : List Int) (d : Nat) : Bool := decide (0 < cnt L d)
def lstep (h : Int) (L : List Int) (ps : List (List Int × Nat)) : List (List Int × Nat) := ps.flatMap fun q => ((List.range (mx h q.2 + 1)).filter fun e => rch L (q.2 - e * h.toNat)).map fun e : Nat => (q.1 ++ [(e : Int)], q.2 - e * h.toNat)
def lwk : List Int → List (List Int × Nat) → List (List Int × Nat)
  | [], ps => ps
  | h :: L, ps => lwk L (lstep h L ps)
theorem flatMap_filter {α β : Type} {p : α → Bool} {f : α → List β} : ∀ l : List α, (∀ x ∈ l, p x = false → f x = []) → (l.filter p).flatMap f = l.flatMap f
  | [], _ => rfl
  | x :: l, h => by
    have ih := flatMap_filter (p := p) (f := f) l fun y hy => h y (List.mem_cons_of_mem _ hy)
    rw [List.filter_cons]
    cases c : p x with
    | true => rw [if_pos rfl, List.flatMap_cons, List.flatMap_cons, ih]
    | false => rw [if_neg Bool.false_ne_true, List.flatMap_cons, h x List.mem_cons_self c, List.nil_append, ih]
theorem rch_false {L : List Int} {d : Nat} (hp : Pos1 L) (h : rch L d = false) : wds L d = [] := by
  have := of_decide_eq_false h
  rw [← wds_len L d hp] at this
  exact List.eq_nil_of_length_eq_zero (by omega)
theorem lwk_words : ∀ (L : List Int) (ps : List (List Int × Nat)), Pos1 L → (∀ q ∈ ps, rch L q.2 = true) → (lwk L ps).map (·.1) = ps.flatMap fun q => (wds L q.2).map (q.1 ++ ·)
  | [], ps, _, hr => by
    show ps.map (·.1) = _
    induction ps with
    | nil => rfl
    | cons q ps ih =>
      have h0 := of_decide_eq_true (hr q List.mem_cons_self)
      have z : q.2 = 0 := by
        cases c : q.2 with
        | zero => rfl
        | succ n =>
          rw [c] at h0
          have : cnt [] (n + 1) = 0 := rfl
          omega
      rw [List.map_cons, List.flatMap_cons, ih fun y hy => hr y (List.mem_cons_of_mem _ hy), z]
      show q.1 :: _ = [q.1 ++ []] ++ _
      rw [List.append_nil]
      rfl
  | h :: L, ps, hp, hr => by
    have hp' : Pos1 L := fun y hy => hp y (List.mem_cons_of_mem _ hy)
    show (lwk L (lstep h L ps)).map (·.1) = _
    rw [lwk_words L (lstep h L ps) hp' fun q hq => ?_]
    · unfold lstep
      rw [List.flatMap_assoc]
      congr 1
      funext q
      rw [List.flatMap_map, wds_cons, List.map_flatMap]
      rw [flatMap_filter]
      · congr 1
        funext e
        rw [List.map_map]
        refine List.map_congr_left fun w _ => ?_
        show q.1 ++ [(e : Int)] ++ w = q.1 ++ ((e : Int) :: w)
        rw [List.append_assoc]
        rfl
      · intro e _ he
        rw [rch_false hp' he]
        rfl
    · obtain ⟨q', _, hm⟩ := List.mem_flatMap.mp hq
      obtain ⟨e, he, rfl⟩ := List.mem_map.mp hm
      exact (List.mem_filter.mp he).2
def lfirst (L : List Int) (d : Nat) : List (List Int × Nat) := if rch L d = true then [([], d)] else []
theorem lw_words {L : List Int} {d : Nat} (hp : Pos1 L) : (lwk L (lfirst L d)).map (·.1) = wds L d := by
  rw [lwk_words L _ hp]
  · unfold lfirst
    cases c : rch L d with
    | true =>
      rw [if_pos rfl, List.flatMap_cons]
      show ((wds L d).map fun w => [] ++ w) ++ [] = _
      rw [List.append_nil]
      exact List.map_id' _
    | false =>
      rw [if_neg Bool.false_ne_true, rch_false hp c]
      rfl
  · intro q hq
    unfold lfirst at hq
    split at hq
    · rw [List.mem_singleton.mp hq]
      assumption
    · cases hq
/-! ### the highest word of odd letters -/
def sn (L : List Int) : Nat := (L.map Int.toNat).sum
theorem cnt_pos_cons {h : Int} {L : List Int} (o : h.toNat % 2 = 1) (d : Nat) : cnt (h :: L) d = cnt L d + (if h.toNat ≤ d then cnt L (d - h.toNat) else 0) := by
  rw [cnt_cons]
  unfold op
  rw [if_pos o]
  rfl
theorem cnt_high : ∀ {L : List Int}, (∀ h ∈ L, (h.toNat) % 2 = 1) → ∀ d, sn L < d → cnt L d = 0
  | [], _, d, h => by
    have e : (0 : Nat) < d := h
    exact if_neg (by omega)
  | h :: L, o, d, hd => by
    have ih := cnt_high (L := L) fun y hy => o y (List.mem_cons_of_mem _ hy)
    have e : sn (h :: L) = h.toNat + sn L := by
      unfold sn
      rw [List.map_cons, List.sum_cons]
    rw [e] at hd
    rw [cnt_pos_cons (o h List.mem_cons_self), ih d (by omega)]
    split
    · rw [ih _ (by omega)]
    · rfl
theorem wds_top : ∀ {L : List Int}, Pos1 L → (∀ h ∈ L, (h.toNat) % 2 = 1) → wds L (sn L) = [List.replicate L.length 1]
  | [], _, _ => rfl
  | h :: L, hp, o => by
    have hp' : Pos1 L := fun y hy => hp y (List.mem_cons_of_mem _ hy)
    have o' : ∀ h ∈ L, (h.toNat) % 2 = 1 := fun y hy => o y (List.mem_cons_of_mem _ hy)
    have h1 := hp h List.mem_cons_self
    have ih := wds_top hp' o'
    have e : sn (h :: L) = h.toNat + sn L := by
      unfold sn
      rw [List.map_cons, List.sum_cons]
    have z : mx h (h.toNat + sn L) = 1 := by
      have : 1 ≤ (h.toNat + sn L) / h.toNat := (Nat.le_div_iff_mul_le (by omega)).mpr (by omega)
      unfold mx
      rw [if_pos (o h List.mem_cons_self)]
      omega
    have n : wds L (h.toNat + sn L - 0 * h.toNat) = [] := by
      refine List.eq_nil_of_length_eq_zero ?_
      rw [wds_len L _ hp']
      exact cnt_high o' _ (by omega)
    have m : wds L (h.toNat + sn L - 1 * h.toNat) = [List.replicate L.length 1] := by
      rw [← ih]
      congr 1
      omega
    rw [e, wds_cons, z]
    show ((wds L (h.toNat + sn L - 0 * h.toNat)).map _ ++ ((wds L (h.toNat + sn L - 1 * h.toNat)).map _ ++ [])) = _
    rw [n, m]
    rfl
theorem cnt_top {L : List Int} (hp : Pos1 L) (o : ∀ h ∈ L, (h.toNat) % 2 = 1) : cnt L (sn L) = 1 := by
  rw [← wds_len L _ hp, wds_top hp o]
  rfl
theorem sn_sum : ∀ {L : List Int}, Pos1 L → ((sn L : Nat) : Int) = L.sum
  | [], _ => rfl
  | h :: L, hp => by
    have ih := sn_sum (L := L) fun y hy => hp y (List.mem_cons_of_mem _ hy)
    have := hp h List.mem_cons_self
    unfold sn at ih ⊢
    rw [List.map_cons, List.sum_cons, List.sum_cons]
    omega
/-- no words of even letters in odd degrees -/
theorem dg_even : ∀ {L w : List Int}, (∀ h ∈ L, h % 2 = 0) → dg L w % 2 = 0
  | [], _, _ => rfl
  | _ :: _, [], _ => rfl
  | h :: L, e :: w, o => by
    have ih := dg_even (L := L) (w := w) fun y hy => o y (List.mem_cons_of_mem _ hy)
    have h0 := o h List.mem_cons_self
    show (h * e + dg L w) % 2 = 0
    have : (h * e) % 2 = 0 := by
      rw [Int.mul_emod, h0, Int.zero_mul]
      rfl
    omega
theorem wds_evens {L : List Int} {d : Nat} (hp : Pos1 L) (o : ∀ h ∈ L, h % 2 = 0) (hd : d % 2 = 1) : wds L d = [] := by
  cases c : wds L d with
  | nil => rfl
  | cons w r =>
    have m := (wds_mem hp (show w ∈ wds L d by rw [c]; exact List.mem_cons_self)).1.deg
    have := dg_even (w := w) o
    omega
/-- the law's series: odd letters first, then even ones -/
theorem cnt_series {L : List Int} (hp : Pos1 L) : (L.filter fun h => decide (h % 2 = 0)).foldl (fun f h => op h.toNat f) ((L.filter fun h => decide (h % 2 = 1)).foldl (fun f h => op h.toNat f) dl) = cnt L := by
  have e1 := cnt_foldl (L.filter fun h => decide (h % 2 = 1)) [] (fun y hy => hp y (List.mem_filter.mp hy).1) fun _ z => absurd z List.not_mem_nil
  have e2 := cnt_foldl (L.filter fun h => decide (h % 2 = 0)) (L.filter fun h => decide (h % 2 = 1)) (fun y hy => hp y (List.mem_filter.mp hy).1) fun y hy => hp y (List.mem_filter.mp hy).1
  rw [List.append_nil] at e1
  have e0 : cnt [] = dl := rfl
  rw [e0] at e1
  rw [e1, e2]
  refine cnt_perm ?_ fun y hy => ?_
  · have q := List.filter_append_perm (fun h : Int => decide (h % 2 = 0)) L
    have z : (L.filter fun h => !decide (h % 2 = 0)) = L.filter fun h => decide (h % 2 = 1) := by
      refine List.filter_congr fun x _ => ?_
      rw [Bool.eq_iff_iff, Bool.not_eq_true', decide_eq_false_iff_not, decide_eq_true_eq]
      omega
    rw [z] at q
    exact q
  · rcases List.mem_append.mp hy with z | z <;> exact hp y (List.mem_filter.mp z).1
end K5
namespace K5
open PySem PySem.Spec PyProof.Rows GenW L2
/-! ### a for loop in a generator's body -/
section
variable {M : Model} {A : Around} {R : GenEnd} {Y : Protocol} {n : Nat} {s₀ : Shared} {c : Code} {fs : List Frame} {s : Shared} {env : Env} {K : Flow → Sem PySem.Fin} {H : Value → Sem PySem.Fin} {gd : Bool → Bool} {lv : List Value → List Value}
theorem seg_For {tg iter : Expr} {body orelse : List Stmt} {pos : Pos}
    (h : wpAny M (A.over c fs) (eval iter env) (fun x s1 => wpAny M (A.over c fs) (pyIter x) (fun it s2 => ∀ p, Seg M A R Y n s₀ (.forLoop tg it body orelse env) (M.den (.forLoop tg it body orelse env))
      (.ret (fun r => ((match r with | .ok f => (.pure f : Sem Flow) | .error e => .raise e).onRaise fun (x : Value) => do
        if (← field x 1) == Value.none then unsupported "frame.own-activation:exception-without-traceback"
        setFlight x env.frame).wrap K H gd lv) none (gd false) (lv []) c p [] :: fs) s2) (fun x s' => Seg M A R Y n s₀ c (H x) fs s') s1) (fun x s' => Seg M A R Y n s₀ c (H x) fs s') s)
    (hs : ∀ x, foldedSetIterable iter env x = pure x := by intro _; rfl) :
    Seg M A R Y n s₀ c ((exec (.For tg iter body orelse pos) env).wrap K H gd lv) fs s := by
  rw [exec_For]
  refine seg_bind_wrap (wpAny_standAt ?_)
  refine seg_bind_wrap (wpAny_mono h (fun x s1 h1 => ?_) fun _ _ z => z)
  refine seg_bind_wrap (wpAny_of_eq (hs x) ?_)
  refine seg_bind_wrap (wpAny_standAt ?_)
  refine seg_bind_wrap (wpAny_holding (wpAny_mono h1 (fun it s2 h2 => ?_) fun _ _ z => z))
  exact seg_call h2
end
section
variable {prog : Program} {w : World} {A : Around} {R : GenEnd} {Y : Protocol} {n : Nat} {s₀ : Shared} {fs : List Frame} {s : Shared} {env : Env}
/-- what an exception does that leaves a turn -/
abbrev noted (env : Env) : Value → Sem PySem.Fin := fun e => (do noteFrame e env; theTreesLotGoes e : Sem Unit).wrap (fun _ => .raise e) .raise id id
theorem seg_forLoop {tg : Expr} {it : Value} {body : List Stmt}
    (h : wpAny (model prog w) (A.over (.forLoop tg it body [] env) fs) (pyNext it) (fun r s1 => match r with
        | none => Seg (model prog w) A R Y n s₀ (.block [] env) (.pure (.done .next)) fs s1
        | some v => wpAny (model prog w) (A.over (.forLoop tg it body [] env) fs) (letOwnedTupleGo tg it v) (fun _ s2 => wpAny (model prog w) (A.over (.forLoop tg it body [] env) fs) (assign tg env v) (fun _ s3 =>
            Seg (model prog w) A R Y n s₀ (.forLoop tg it body [] env) ((execs body env).wrap (fun f => match f with
              | .next | .cont => .pure (.again (.forLoop tg it body [] env))
              | .brk => .pure (.done .next)
              | .ret v => .pure (.done (.ret v))) (noted env) id id) fs s3)
            (fun x s' => Seg (model prog w) A R Y n s₀ (.forLoop tg it body [] env) (noted env x) fs s') s2) (fun x s' => Seg (model prog w) A R Y n s₀ (.forLoop tg it body [] env) (noted env x) fs s') s1)
      (fun x s' => Seg (model prog w) A R Y n s₀ (.forLoop tg it body [] env) (noted env x) fs s') s) :
    Seg (model prog w) A R Y n s₀ (.forLoop tg it body [] env) ((model prog w).den (.forLoop tg it body [] env)) fs s := by
  show Seg _ A R Y n s₀ _ ((forTurn tg it body [] env).onRaise (fun x => do noteFrame x env; theTreesLotGoes x)) fs s
  unfold forTurn
  rw [Sem.onRaise_eq_wrap]
  have eN : (fun e => (do noteFrame e env; theTreesLotGoes e : Sem Unit).bind fun _ => (.raise e : Sem PySem.Fin)) = noted env := funext fun e => Sem.bind_eq_wrap _ _
  refine seg_bind_wrap (wpAny_standAt ?_)
  refine seg_bind_wrap (wpAny_onRaise (wpAny_mono h (fun r s1 h1 => ?_) fun x s' h' => wpAny_standAt ?_))
  · cases r with
    | none =>
      dsimp only at h1 ⊢
      show Seg _ A R Y n s₀ _ (.pure (.again (.block [] env))) fs s1
      refine seg_again rfl ?_
      show Seg _ A R Y n s₀ _ (.pure (.done .next)) fs s1
      exact h1
    | some v =>
      dsimp only at h1 ⊢
      have ex : ∀ (x : Value) (s' : Shared), Seg (model prog w) A R Y n s₀ (.forLoop tg it body [] env) (noted env x) fs s' → Seg (model prog w) A R Y n s₀ (.forLoop tg it body [] env) ((do noteFrame x env; theTreesLotGoes x : Sem Unit).bind fun _ => (.raise x : Sem PySem.Fin)) fs s' := fun x s' hx => by
        rw [show ((do noteFrame x env; theTreesLotGoes x : Sem Unit).bind fun _ => (.raise x : Sem PySem.Fin)) = noted env x from congrFun eN x]
        exact hx
      refine seg_bind_wrap (wpAny_mono h1 (fun _ s2 h2 => ?_) fun x s' hx => ex x s' hx)
      refine seg_bind_wrap (wpAny_mono h2 (fun _ s3 h3 => ?_) fun x s' hx => ex x s' hx)
      rw [Sem.bind_eq_wrap', Sem.wrap_wrap]
      exact cast (congrArg (fun t => Seg (model prog w) A R Y n s₀ (.forLoop tg it body [] env) t fs s3) (Sem.wrap_congr (execs body env) id id (fun f => by cases f <;> rfl) fun e => (congrFun eN e).symm)) h3
  · show Seg _ A R Y n s₀ _ ((do noteFrame x env; theTreesLotGoes x : Sem Unit).bind fun _ => (.raise x : Sem PySem.Fin)) fs s'
    rw [show ((do noteFrame x env; theTreesLotGoes x : Sem Unit).bind fun _ => (.raise x : Sem PySem.Fin)) = noted env x from congrFun eN x]
    exact h'
end
end K5
namespace L2
open PySem PySem.Spec PyProof.Rows GenW
section
variable {X : Cx}
def tGFor (wi : TI) (g : TG) (tb : TGn) : TGn := fun D ys σ H => wi σ H fun J H1 => ∃ W : Nat → Nat → List V → St → Hp → Prop, (∃ m, W 0 m ys σ H1) ∧ ∀ i m ys σ H, W i m ys σ H →
  (J.stop i H ∧ D.nx ys σ H) ∨ (J.go i H ∧ ∃ N : List V → St → Hp → Prop, (∀ ys' σ' H', N ys' σ' H' → ∃ m', m' < m ∧ W (i + 1) m' ys' σ' H') ∧ ∀ x H', J.yld i H x H' → g x σ H' fun σ2 H2 => tb { D with nx := N, ct := N, bk := D.nx } ys σ2 H2)
theorem GI.sub {S : Addr} {ip pl : List (Addr × Obj)} {ys : List V} {σ : St} {H : Hp} {s : Shared} (h : GI X S (ip ++ pl) ys σ H s) : GI X S ip ys σ H s := by
  obtain ⟨acc, c, r, I⟩ := h
  refine ⟨acc, c, r, I.pins_of fun p hp => I.pin p (List.mem_append_right _ ?_)⟩
  rcases List.mem_cons.mp hp with z | z
  · rw [z]
    exact List.mem_cons_self
  · exact List.mem_cons_of_mem _ (List.mem_append_left _ z)
theorem gs_for {tg iter : Expr} {body : List Stmt} {pos : Pos} {wi : TI} {g : TG} {tb : TGn} (hp : PassesOwn (model X.prog X.w) X.A X.env X.xe) (hc : X.calm = true) (hi : PI X tg iter wi) (hg : PG X tg g) (hb : GSs X body tb)
    (hs : ∀ x, foldedSetIterable iter X.env x = pure x := by intro _; rfl) : GS X (.For tg iter body [] pos) (tGFor wi g tb) := by
  refine ⟨fun A S ip R n ys s₀ c fs K J gd lv s σ H D gc hn k hI ht => ?_⟩
  obtain ⟨acc, cc, r, I⟩ := hI
  refine K5.seg_For ?_ hs
  rw [gc.over]
  refine wpAny_mono (hi.run _ s σ H _ I ht) (fun v s1 h1 => ?_) fun x s' hx => k.exc n s₀ x s' hx
  refine wpAny_mono h1 (fun itv s2 h2 => ?_) fun x s' hx => k.exc n s₀ x s' hx
  obtain ⟨it, fp, tn, Jt, H2, e, I2, T, st2, f2, W, ⟨m0, w0⟩, turn⟩ := h2
  subst e
  intro p
  have gl := fun (ip' : List (Addr × Obj)) (g' : GC X S ip' A c fs gd) (kk : Result → Sem PySem.Fin) => gc_loop (k := kk) (c' := .forLoop tg (.ref it) body [] X.env) (l := lv []) (kp := []) (p := p) g' rfl rfl
  -- an iterator's object is not the consumer's list
  have apart : ∀ b ∈ fp, b ≠ S := fun b hb z => (f2 b hb).2.2.2.2.2 (S, lstObj acc cc) (List.mem_append_right _ List.mem_cons_self) z.symm
  have stat : ∀ {H' : Hp} {acc' : Array Value} {c' : Nat}, (∀ b ∈ fp, H' b = none) → ∀ b ∈ fp, FpOk X ((S, lstObj acc' c') :: ip) H' b := fun {H' acc' c'} hn b hb => by
    obtain ⟨_, a1, a2, a3, a4, a5⟩ := f2 b hb
    refine ⟨hn b hb, a1, a2, a3, a4, fun p hp => ?_⟩
    rcases List.mem_append.mp hp with z | z
    · exact a5 p (List.mem_append_left _ z)
    · rcases List.mem_cons.mp z with z | z
      · rw [z]
        exact (apart b hb).symm
      · exact a5 p (List.mem_append_right _ (List.mem_cons_of_mem _ z))
  have loop : ∀ (m i n : Nat) (ys : List V) (s₀ s : Shared) (σ : St) (H : Hp), n + ys.length = sizeLine → W i m ys σ H → GI X S ip ys σ H s → tn i s.heap → (∀ b ∈ fp, H b = none) →
      Seg (model X.prog X.w) A R (GY X S) n s₀ (.forLoop tg (.ref it) body [] X.env) ((model X.prog X.w).den (.forLoop tg (.ref it) body [] X.env))
        (.ret (fun r => ((match r with | .ok f => (.pure f : Sem Flow) | .error e => .raise e).onRaise (cameBack X.env)).wrap K J gd lv) none (gd false) (lv []) c p [] :: fs) s := by
    intro m
    induction m using Nat.strongRecOn with
    | ind m ih =>
      intro i n ys s₀ s3 σ3 H3 hn w hI st3 fr3
      have ee : ∀ (n : Nat) (s₀ : Shared) (x : Value) (s' : Shared), X.xe x s' → Seg (model X.prog X.w) A R (GY X S) n s₀ (.forLoop tg (.ref it) body [] X.env)
          (K5.noted X.env x)
          (.ret (fun r => ((match r with | .ok f => (.pure f : Sem Flow) | .error e => .raise e).onRaise (cameBack X.env)).wrap K J gd lv) none (gd false) (lv []) c p [] :: fs) s' := fun n s₀ x s' hx => by
        refine seg_wrap ?_
        rw [(gl ip gc _).over]
        refine wpAny_bind (wpAny_mono (hp x s' hx) (fun _ s'' hcb => wpAny_theTreesLotGoes ?_) fun y s'' hcb => ?_)
        · exact seg_leaf (.error x) (seg_cameBack gc k hcb)
        · exact seg_leaf (.error y) (seg_cameBack gc k hcb)
      refine K5.seg_forLoop ?_
      rw [(gl ip gc _).over]
      obtain ⟨acc, cc, r, I3⟩ := hI
      rcases turn i m ys σ3 H3 w with ⟨stop, qn⟩ | ⟨go, N, hN, step⟩
      · refine wpAny_mono (T.done X rfl rfl rfl hc i _ s3 σ3 H3 X.xe I3 (stat fr3) st3 stop) (fun r' s4 ⟨hr, I4⟩ => ?_) fun x s' hx => ee n s₀ x s' hx
        subst hr
        exact seg_leaf (.ok .next) (k.ok n ys s₀ s4 .next hn ⟨σ3, H3, ⟨acc, cc, r, I4⟩, qn⟩)
      · refine wpAny_mono (T.item X rfl rfl rfl hc i _ s3 σ3 H3 X.xe I3 (stat fr3) st3 go) (fun r' s4 ⟨u, hr, h4⟩ => ?_) fun x s' hx => ee n s₀ x s' hx
        subst hr
        refine wpAny_mono h4 (fun _ s5 ⟨x, H5, I5, r5, y5, st5, fr5⟩ => ?_) fun x s' hx => ee n s₀ x s' hx
        have I5' := I5.pinned (stat fr5) (T.obj _ _ st5)
        refine wpAny_mono (hg.run _ s5 σ3 H5 x u _ I5' r5 (step x H5 y5)) (fun _ s6 ⟨σ6, H6, I6, q6⟩ => ?_) fun x s' hx => ee n s₀ x s' hx
        have gc' : GC X S (ip ++ pinsAt fp s5.heap) A c fs gd := { gc with ip := fun p hp => (List.mem_append.mp hp).elim (fun z => gc.ip p z) fun z => apart p.1 (of_pinsAt z).1 }
        have back : ∀ {ys7 : List V} {σ7 : St} {H7 : Hp} {s7 : Shared}, GI X S (ip ++ pinsAt fp s5.heap) ys7 σ7 H7 s7 → GI X S ip ys7 σ7 H7 s7 ∧ tn (i + 1) s7.heap ∧ ∀ b ∈ fp, H7 b = none := fun {ys7 σ7 H7 s7} I7 => by
          refine ⟨I7.sub, ?_, fun b hb => ?_⟩
          · obtain ⟨acc7, c7, r7, J7⟩ := I7
            exact T.keep _ _ _ st5 fun b hb o e => (J7.pin (b, o) (List.mem_append_right _ (List.mem_cons_of_mem _ (List.mem_append_right _ (mem_pinsAt hb e))))).1
          · obtain ⟨acc7, c7, r7, J7⟩ := I7
            obtain ⟨o, e, d⟩ := T.obj _ _ st5 b hb
            exact (J7.pin (b, o) (List.mem_append_right _ (List.mem_cons_of_mem _ (List.mem_append_right _ (mem_pinsAt hb e))))).2.1
        refine hb.run A S (ip ++ pinsAt fp s5.heap) R n ys s₀ _ _ _ _ id id s6 σ6 H6 { D with nx := N, ct := N, bk := D.nx } (gl _ gc' _) hn ⟨fun n' ys' s₀' s7 f hn' hs => ?_, fun n' s₀' x s7 hx => ee n' s₀' x s7 hx⟩ ⟨acc, cc, r, I6⟩ q6
        cases f with
        | next =>
          obtain ⟨σ7, H7, I7, n7⟩ := hs
          obtain ⟨m', hm, w7⟩ := hN ys' σ7 H7 n7
          obtain ⟨b1, b2, b3⟩ := back I7
          exact seg_again rfl (ih m' hm (i + 1) n' ys' s₀' s7 σ7 H7 hn' w7 b1 b2 b3)
        | cont =>
          obtain ⟨σ7, H7, I7, n7⟩ := hs
          obtain ⟨m', hm, w7⟩ := hN ys' σ7 H7 n7
          obtain ⟨b1, b2, b3⟩ := back I7
          exact seg_again rfl (ih m' hm (i + 1) n' ys' s₀' s7 σ7 H7 hn' w7 b1 b2 b3)
        | brk =>
          obtain ⟨σ7, H7, I7, n7⟩ := hs
          exact seg_leaf (.ok .next) (k.ok n' ys' s₀' s7 .next hn' ⟨σ7, H7, (back I7).1, n7⟩)
        | ret v =>
          obtain ⟨x7, σ7, H7, I7, r7, n7⟩ := hs
          exact seg_leaf (.ok (.ret v)) (k.ok n' ys' s₀' s7 (.ret v) hn' ⟨x7, σ7, H7, (back I7).1, r7, n7⟩)
  exact loop m0 0 n ys s₀ s2 σ H2 hn w0 ⟨acc, cc, r, I2⟩ st2 fun b hb => (f2 b hb).1
end
end L2
namespace K5
open PySem PySem.Spec PyProof.Rows L2
/-! ### the text -/
def topS (i : Nat) : Stmt := PySem.Challenge.pw_stepletters_k04_whole_words_listed_and_c.main.body.getD i (.Pass ⟨0, 0, 0, 0⟩)
abbrev sIsWhole : Stmt := topS 1
abbrev sIsInt : Stmt := topS 10
abbrev sBetween : Stmt := topS 11
abbrev sChkB : Stmt := topS 12
abbrev sIsLetters : Stmt := topS 18
abbrev sWordsOf : Stmt := topS 19
abbrev sWordCount : Stmt := topS 20
abbrev sEvenL : Stmt := topS 21
abbrev sOddL : Stmt := topS 22
abbrev sTopW : Stmt := topS 23
abbrev sEach : Stmt := topS 24
abbrev sChkL : Stmt := topS 25
abbrev sOdds : Stmt := topS 26
abbrev sCount : Stmt := topS 27
abbrev sListed : Stmt := topS 28
abbrev sSuffix : Stmt := topS 29
abbrev sFirst : Stmt := topS 30
abbrev sNext : Stmt := topS 31
abbrev sCntW : Stmt := topS 32
abbrev sLeast : Stmt := topS 33
abbrev sRise : Stmt := topS 34
abbrev sDice : Stmt := topS 36
abbrev sRoll : Stmt := topS 37
abbrev sPick : Stmt := topS 38
abbrev sReached : Stmt := topS 39
abbrev sLWords : Stmt := topS 40
abbrev sLLet : Stmt := topS 41
abbrev sSeries : Stmt := topS 42
abbrev sLists : Stmt := topS 43
abbrev sCounts : Stmt := topS 44
abbrev sLaw : Stmt := topS 45
/-- what the top has written -/
structure Txt (K : PySem.W.Frag) (mg : Str → Option Value) : Prop where
  int : mg "int" = none
  bool : mg "bool" = none
  tuple : mg "tuple" = none
  list : mg "list" = none
  isi : mg "isinstance" = none
  len : mg "len" = none
  abs : mg "abs" = none
  max : mg "max" = none
  min : mg "min" = none
  range : mg "range" = none
  sum : mg "sum" = none
  all : mg "all" = none
  enumerate : mg "enumerate" = none
  reversed : mg "reversed" = none
  cLIMIT : ∃ t, mg "_LIMIT" = some (.int (10 ^ 60) t)
  cMAXLETTERS : ∃ t, mg "MAX_LETTERS" = some (.int (24) t)
  cMAXLETTER : ∃ t, mg "MAX_LETTER" = some (.int (40) t)
  cMAXDEGREE : ∃ t, mg "MAX_DEGREE" = some (.int (80) t)
  cMAXWORDS : ∃ t, mg "MAX_WORDS" = some (.int (400) t)
/-! ### the dice -/
/-- a list of three ints, the first one at least 0 -/
def DiceL (L : List V) : Prop := ∃ a b c : Int, L = [.int a, .int b, .int c] ∧ 0 ≤ a
def spRoll : Sp := fun vs H Q _ => ∃ (d : Addr) (n : Int) (L : List V), vs = [.ref d, .int n] ∧ 0 < n ∧ n.natAbs < 2 ^ 500 ∧ H d = some (.lst L) ∧ DiceL L ∧
  ∀ (i : Int) (L' : List V), 0 ≤ i → i < n → DiceL L' → Q (.int i) (upd H d (.lst L'))
theorem scRoll : FnScope ["dice", "total", "found", "one", "two"] ["dice", "total"] (defScope sRoll) := ⟨rfl, rfl, rfl, by decide +kernel, rfl, by decide +kernel, by decide +kernel⟩
theorem bootInt : bootBuiltins "int" = some (.type "int") := by decide +kernel
section
variable {P : Program} {w : World} {K : PySem.W.Frag} {mg : Str → Option Value} {base : Heap}
theorem ok_roll {f : Addr} {fd : FuncData} (F : Fun K "_law_roll" "_law_roll" sRoll f fd) (T : Txt K mg) : FnOk P w K mg base CX0 1 f fd ["dice", "total"] spRoll := by
  refine F.ok scRoll (fun vs H Q E h => ?_) (fun cdv A outer s H vs Q E hr h => ?_)
  · obtain ⟨d, n, L, rfl, _⟩ := h; rfl
  obtain ⟨d, n, L, rfl, hn, hb, hd, ⟨a, b, c, rfl, ha⟩, k⟩ := h
  refine ⟨_, pss_cons (ps_if (pt_cmpR op_gt (pe_ix ix_list (pv 0) pe_int (fun _ _ => rfl)) pe_int (nomark _))
      (pss_cons (ps_set (i := 2) scRoll.nd rfl (.inl rfl) (pe_op op_mod (pe_callTy call_int1 (by rfl) T.int bootInt (pa_cons (pe_ix ix_list (pv 0) pe_int (fun _ _ => rfl)) pa_nil)) (pv 1)))
      (pss_cons (ps_asg (pe_op op_fdivW (pe_ix ix_list (pv 0) pe_int (fun _ _ => rfl)) (pv 1)) (pg_sub (pv 0) pe_int set_list))
      (pss_one (ps_ret (pv 2))))) pss_nil)
    (pss_cons (ps_asg (pe_op op_add (pe_ix ix_list (pv 0) pe_int (fun _ _ => rfl)) pe_int) (pg_sub (pv 0) pe_int set_list))
    (pss_cons (ps_set (i := 3) scRoll.nd rfl (.inl rfl) (pe_op op_mod (pe_callTy call_int1 (by rfl) T.int bootInt (pa_cons (pe_op op_add (pe_ix ix_list (pv 0) pe_int (fun _ _ => rfl)) (pe_op op_mul pe_int (pe_ix ix_list (pv 0) pe_int (fun _ _ => rfl)))) pa_nil)) pe_int))
    (pss_cons (ps_set (i := 4) scRoll.nd rfl (.inl rfl) (pe_op op_add (pe_op op_mul (pe_op op_mod (pe_callTy call_int1 (by rfl) T.int bootInt (pa_cons (pe_op op_add (pe_op op_mul (pv 3) (pv 3)) (pe_op op_mul pe_int (pe_ix ix_list (pv 0) pe_int (fun _ _ => rfl)))) pa_nil)) pe_int) pe_int) (pv 3)))
    (pss_one (ps_ret (pe_op op_mod (pe_callTy call_int1 (by rfl) T.int bootInt (pa_cons (pe_op op_fdiv (pv 4) pe_int) pa_nil)) (pv 1))))))), ?_⟩
  have S := SqL.of (K := K) hd
  refine ⟨_, rfl, d, _, _, _, rfl, rfl, S, rfl, _, _, rfl, rfl, _, rfl, ?_⟩
  refine ite2 (fun c0 => ?_) (fun c0 => ?_)
  · refine ⟨_, rfl, d, _, _, _, rfl, rfl, S, rfl, .inl ⟨_, rfl, _, rfl, _, _, rfl, rfl, hn, ?_⟩⟩
    refine ⟨_, rfl, d, _, _, _, rfl, rfl, S, rfl, _, rfl, _, _, rfl, rfl, wide_div hn hb (by decide) (by decide), _, rfl, d, _, _, 0, rfl, rfl, hd, rfl, _, rfl, ?_⟩
    refine k _ _ (Int.emod_nonneg _ (by omega)) (Int.emod_lt_of_pos _ hn) ⟨_, _, _, rfl, ?_⟩
    exact Int.ediv_nonneg ha (by omega)
  · refine ⟨_, rfl, d, _, _, _, rfl, rfl, S, rfl, _, _, rfl, rfl, _, rfl, d, _, _, 2, rfl, rfl, hd, rfl, ?_⟩
    have S2 := SqL.of (K := K) (upd_same (H := H) (a := d) (o := .lst [.int a, .int b, .int (c + 1)]))
    refine ⟨_, rfl, d, _, _, _, rfl, rfl, S2, rfl, _, rfl, d, _, _, _, rfl, rfl, S2, rfl, _, _, rfl, rfl, .inl ⟨by decide, by decide⟩, _, _, rfl, rfl, .inl ⟨_, rfl, _, _, rfl, rfl, (by show (0 : Int) < 2305843009213693723; decide), ?_⟩⟩
    have m1 := Int.emod_lt_of_pos (b + 67867979 * (c + 1)) (show (0 : Int) < 2305843009213693723 by decide)
    have m0 := Int.emod_nonneg (b + 67867979 * (c + 1)) (show (2305843009213693723 : Int) ≠ 0 by decide)
    generalize ez : (b + 67867979 * (c + 1)) % 2305843009213693723 = z at *
    refine ⟨_, rfl, _, rfl, _, _, rfl, rfl, .inl ⟨by omega, by omega⟩, _, rfl, d, _, _, _, rfl, rfl, S2, rfl, _, _, rfl, rfl, .inl ⟨by decide, by decide⟩, _, _, rfl, rfl, .inl ⟨_, rfl, _, _, rfl, rfl, (by show (0 : Int) < 2305843009213693549; decide), ?_⟩⟩
    have y1 := Int.emod_lt_of_pos (z * z + 103 * (c + 1)) (show (0 : Int) < 2305843009213693549 by decide)
    have y0 := Int.emod_nonneg (z * z + 103 * (c + 1)) (show (2305843009213693549 : Int) ≠ 0 by decide)
    generalize ey : (z * z + 103 * (c + 1)) % 2305843009213693549 = y at *
    refine ⟨_, _, rfl, rfl, .inl ⟨by omega, by omega⟩, _, rfl, _, _, rfl, rfl, ?_⟩
    refine ⟨_, rfl, _, _, rfl, rfl, ⟨by decide, by decide⟩, .inl ⟨_, rfl, _, rfl, _, _, rfl, rfl, hn, ?_⟩⟩
    exact k _ _ (Int.emod_nonneg _ (by omega)) (Int.emod_lt_of_pos _ hn) ⟨_, _, _, rfl, ha⟩
end

theorem bootMax : bootBuiltins "max" = some (.builtin "max") := by decide +kernel
theorem bootAbs : bootBuiltins "abs" = some (.builtin "abs") := by decide +kernel
theorem bootStr : bootBuiltins "str" = some (.type "str") := by decide +kernel
/-! ### making, picking, near -/
def spDice (K : PySem.W.Frag) : Sp := fun vs H Q _ => ∃ (a : Addr) (i : Int) (ns : List Int), vs = [.ref a, .int i] ∧ SqL K H a (ns.map V.int) ∧ 0 ≤ i ∧
  ∀ (L : List V) (p : Addr), DiceL L → H p = none → Q (.ref p) (upd H p (.lst L))
def spPick : Sp := fun vs H Q _ => ∃ (d l : Addr) (xs L : List V), vs = [.ref d, .ref l] ∧ H d = some (.lst L) ∧ DiceL L ∧ H l = some (.lst xs) ∧ l ≠ d ∧ xs ≠ [] ∧ xs.length < 1000 ∧
  ∀ (x : V) (L' : List V), x ∈ xs → DiceL L' → Q x (upd H d (.lst L'))
theorem scDice : FnScope ["script", "spot", "cell", "left"] ["script", "spot"] (defScope sDice) := ⟨rfl, rfl, rfl, by decide +kernel, rfl, by decide +kernel, by decide +kernel⟩
theorem scPick : FnScope ["dice", "items"] ["dice", "items"] (defScope sPick) := ⟨rfl, rfl, rfl, by decide +kernel, rfl, by decide +kernel, by decide +kernel⟩
section
variable {P : Program} {w : World} {K : PySem.W.Frag} {mg : Str → Option Value} {base : Heap}
theorem ok_dice {f : Addr} {fd : FuncData} (F : Fun K "_law_dice" "_law_dice" sDice f fd) (T : Txt K mg) : FnOk P w K mg base CX0 1 f fd ["script", "spot"] (spDice K) := by
  refine F.ok scDice (fun vs H Q E h => ?_) (fun cdv A outer s H vs Q E hr h => ?_)
  · obtain ⟨d, n, L, rfl, _⟩ := h; rfl
  obtain ⟨a, i, ns, rfl, hS, hi, k⟩ := h
  refine ⟨_, pss_cons (ps_set (i := 2) scDice.nd rfl (.inl rfl) (pe_ifExp (pt_cmpR op_lt (pv 1) (pe_callB call_len_seq (by rfl) T.len PySem.boot_len (pa_cons (pv 0) pa_nil)) (nomark _))
      (pe_callTy call_int1 (by rfl) T.int bootInt (pa_cons (pe_ix ix_list (pv 0) (pv 1) (fun _ _ => rfl)) pa_nil)) (pe_op op_add (pe_op op_mul pe_int (pv 1)) pe_int)))
    (pss_cons (ps_set (i := 3) scDice.nd rfl (.inl rfl) (pe_op op_mod (pe_callB (call_max2 rfl) (by rfl) T.max bootMax (pa_cons pe_int (pa_cons (pe_op op_sub (pe_callB call_abs (by rfl) T.abs bootAbs (pa_cons (pv 2) pa_nil)) (pe_op op_pow pe_int pe_int)) pa_nil)))
        (pe_op op_mulW (pe_op op_pow pe_int pe_int) (pe_op op_pow pe_int pe_int))))
    (pss_one (ps_ret (pe_lst (pa_cons (pv 3) (pa_cons (pe_op op_add (pe_op op_add (pe_op op_add (pe_op op_mul (pe_op op_mod (pe_callB call_abs (by rfl) T.abs bootAbs (pa_cons (pv 2) pa_nil)) pe_int) pe_int) (pe_op op_mul pe_int (pv 1)))
        (pe_op op_mul pe_int (pe_callTy call_int1 (by rfl) T.int bootInt (pa_cons (pe_cmpR op_lt (pv 2) pe_int (nomark _)) pa_nil)))) pe_int) (pa_cons pe_int pa_nil))))))), ?_⟩
  have rest : ∀ (c : Int), tSeq (tAsg (tOp (rI (fun _ j => 0 < j) fun i j => .int (i % j)) (tCB (fun xs H Q => ∃ i j, xs = [.int i, .int j] ∧ Q (.int (if j > i then j else i)) H) (tCons (tC (.int 0)) (tCons (tOp (rI0 fun i j => .int (i - j)) (tCB (fun xs H Q => ∃ i, xs = [.int i] ∧ Q (.int (if i < 0 then -i else i)) H) (tCons (tVar 2) tNil)) (tOp (rI CPow fun i j => .int (i ^ j.toNat)) (tC (.int 10)) (tC (.int 17)))) tNil)))
        (tOp (rI CMulW fun i j => .int (i * j)) (tOp (rI CPow fun i j => .int (i ^ j.toNat)) (tC (.int 10)) (tC (.int 58))) (tOp (rI CPow fun i j => .int (i ^ j.toNat)) (tC (.int 10)) (tC (.int 60))))) (gName 3))
      (tRet (tLst (tCons (tVar 3) (tCons (tOp (rI0 fun i j => .int (i + j)) (tOp (rI0 fun i j => .int (i + j)) (tOp (rI0 fun i j => .int (i + j)) (tOp (rI CMul fun i j => .int (i * j)) (tOp (rI (fun _ j => 0 < j) fun i j => .int (i % j)) (tCB (fun xs H Q => ∃ i, xs = [.int i] ∧ Q (.int (if i < 0 then -i else i)) H) (tCons (tVar 2) tNil)) (tC (.int 1152921504606846883))) (tC (.int 67))) (tOp (rI CMul fun i j => .int (i * j)) (tC (.int 937)) (tVar 1)))
        (tOp (rI CMul fun i j => .int (i * j)) (tC (.int 37)) (tCB (fun xs H Q => (∃ i, xs = [.int i] ∧ Q (.int i) H) ∨ ∃ k, xs = [.bl k] ∧ Q (.int (if k then 1 else 0)) H) (tCons (tOp (rI0 fun i j => .bl (decide (i < j))) (tVar 2) (tC (.int 0))) tNil)))) (tC (.int 29))) (tCons (tC (.int 0)) tNil)))))
      { nx := fun _ H' => Q .non H', rt := Q } [some (.ref a), some (.int i), some (.int c), none] H := fun c => by
    have pw : ∀ k : Int, 0 ≤ k → k ≤ 1000000 → CPow 10 k := fun k h1 h2 => ⟨h1, h2, by decide⟩
    refine ⟨_, rfl, _, rfl, _, _, rfl, rfl, pw _ (by decide) (by decide), _, _, rfl, rfl, _, _, rfl, _, _, rfl, rfl, pw _ (by decide) (by decide), _, _, rfl, rfl, pw _ (by decide) (by decide), _, _, rfl, rfl,
      wide_mul (i := 10 ^ (58 : Int).toNat) (j := 10 ^ (60 : Int).toNat) (a := 300) (b := 300) (by decide +kernel) (by decide +kernel) (by decide) (by decide) (by decide), _, _, rfl, rfl, (by show (0 : Int) < 10 ^ (58 : Int).toNat * 10 ^ (60 : Int).toNat; decide +kernel), ?_⟩
    have nn := Int.emod_nonneg (if (if c < 0 then -c else c) - 10 ^ (17 : Int).toNat > 0 then (if c < 0 then -c else c) - 10 ^ (17 : Int).toNat else 0) (show (10 : Int) ^ (58 : Int).toNat * 10 ^ (60 : Int).toNat ≠ 0 by decide +kernel)
    have m1 := Int.emod_lt_of_pos (if c < 0 then -c else c) (show (0 : Int) < 1152921504606846883 by decide)
    have m0 := Int.emod_nonneg (if c < 0 then -c else c) (show (1152921504606846883 : Int) ≠ 0 by decide)
    refine ⟨_, rfl, _, rfl, _, rfl, _, _, rfl, rfl, (by show (0 : Int) < 1152921504606846883; decide), _, _, rfl, rfl, .inr ⟨by decide, by decide⟩, _, rfl, _, _, rfl, rfl, .inl ⟨by decide, by decide⟩, _, _, rfl, rfl, _, rfl, _, _, rfl, rfl, .inr ⟨_, rfl, _, _, rfl, rfl, .inl ⟨by decide, by decide⟩, _, _, rfl, rfl, _, _, rfl, rfl, ?_⟩⟩
    exact ⟨by show 3 ≤ sizeLine; decide, fun p hp => k _ p ⟨_, _, _, rfl, nn⟩ hp⟩
  refine ⟨_, rfl, _, rfl, a, _, rfl, .inl hS, _, _, rfl, rfl, _, rfl, ?_⟩
  refine ite2 (fun c0 => ?_) (fun c0 => ?_)
  · have c1 : i < ((ns.map V.int).length : Int) := of_decide_eq_true c0
    rw [List.length_map] at c1
    have c2 : i.toNat < ns.length := by omega
    have e : (ns.map V.int)[i.toNat]? = some (.int ns[i.toNat]) := by rw [List.getElem?_map, List.getElem?_eq_getElem c2]; rfl
    exact ⟨_, rfl, _, rfl, a, _, _, _, rfl, rfl, hS, at_of (by omega) e, .inl ⟨_, rfl, rest _⟩⟩
  · exact ⟨_, rfl, _, _, rfl, rfl, .inl ⟨by decide, by decide⟩, _, _, rfl, rfl, rest _⟩
theorem ok_pick {f fR : Addr} {fd fdR : FuncData} (F : Fun K "_law_pick" "_law_pick" sPick f fd) (T : Txt K mg) (gR : mg "_law_roll" = some (.ref fR)) (kR : PySem.W.keepIn K (.ref fR) = true) (bR : Binds K fdR ["dice", "total"] [])
    (R : FnOk P w K mg base CX0 1 fR fdR ["dice", "total"] spRoll) : FnOk P w K mg base CX0 2 f fd ["dice", "items"] spPick := by
  refine F.ok scPick (fun vs H Q E h => ?_) (fun cdv A outer s H vs Q E hr h => ?_)
  · obtain ⟨d, n, L, M, rfl, _⟩ := h; rfl
  obtain ⟨d, l, xs, L, rfl, hd, hL, hl, ne, h0, hz, k⟩ := h
  refine ⟨_, pss_one (ps_ret (pe_ix ix_list (pv 1) (pe_call R hr (by rfl) gR kR bR .nil pass0 (pa_cons (pv 0) (pa_cons (pe_callB call_len_seq (by rfl) T.len PySem.boot_len (pa_cons (pv 1) pa_nil)) pa_nil))) (fun _ _ => rfl))), ?_⟩
  have hp : 0 < xs.length := List.length_pos_iff.mpr h0
  refine ⟨_, rfl, _, rfl, _, rfl, l, _, rfl, .inl (SqL.of hl), d, (xs.length : Int), L, rfl, by omega, Nat.lt_trans (by omega : (xs.length : Int).natAbs < 1000) (by decide), hd, hL, fun i L' i0 i1 hL' => ?_⟩
  have hx : xs[i.toNat]? = some xs[i.toNat] := List.getElem?_eq_getElem (by omega)
  exact ⟨l, _, _, _, rfl, rfl, SqL.of (by rw [upd_ne ne]; exact hl), at_of (by omega) hx, k _ L' (List.getElem_mem _) hL'⟩

end
end K5
namespace K5
open PySem PySem.Spec PyProof.Rows L2
/-! ### values of any kind -/
inductive Vk (K : PySem.W.Frag) (H : Hp) : V → Prop
  | non : Vk K H .non
  | bl (b : Bool) : Vk K H (.bl b)
  | int (i : Int) : Vk K H (.int i)
  | str (z : Str) : Vk K H (.str z)
  | tup {a : Addr} {xs : List V} (h : SqT K H a xs) : Vk K H (.ref a)
  | lst {a : Addr} {xs : List V} (h : H a = some (.lst xs)) : Vk K H (.ref a)
  | dic {a : Addr} {kvs : List (Key × V)} (h : H a = some (.dK kvs)) : Vk K H (.ref a)
def isI : V → Bool
  | .int _ => true
  | _ => false
theorem tyT {K : PySem.W.Frag} {H : Hp} {a : Addr} {xs : List V} (h : SqT K H a xs) : TyX K H (.ref a) (.type "tuple") := by
  rcases h with (h | ⟨o, h⟩) | ⟨o, its, n, h1, h2, _⟩
  · exact .base (.tup h)
  · exact .fTuple h
  · exact .kTuple h1 h2
/-- the name of the type, and what isinstance says of int, bool and tuple -/
def isT : V → Bool
  | .ref _ => true
  | _ => false
theorem vk_ty {K : PySem.W.Frag} {H : Hp} {x : V} (h : Vk K H x) : ∃ T : String, TyX K H x (.type T) ∧ ∃ bi bb : Bool, kitB T "int" = some bi ∧ kitB T "bool" = some bb ∧ (bi && !bb) = isI x := by
  cases h with
  | non => exact ⟨"NoneType", .base .non, false, false, by decide +kernel, by decide +kernel, rfl⟩
  | bl b => exact ⟨"bool", .base (.bl _), true, true, by decide +kernel, by decide +kernel, rfl⟩
  | int i => exact ⟨"int", .base (.int _), true, false, by decide +kernel, by decide +kernel, rfl⟩
  | str z => exact ⟨"str", .base (.str _), false, false, by decide +kernel, by decide +kernel, rfl⟩
  | tup h => exact ⟨"tuple", tyT h, false, false, by decide +kernel, by decide +kernel, rfl⟩
  | lst h => exact ⟨"list", .base (.lst h), false, false, by decide +kernel, by decide +kernel, rfl⟩
  | dic h => exact ⟨"dict", .base (.dK h), false, false, by decide +kernel, by decide +kernel, rfl⟩
/-- integers of at most sixty digits -/
def i60 : V → Bool
  | .int i => decide (-(10 ^ 60) < i) && decide (i < 10 ^ 60)
  | _ => false
def spIsWhole (K : PySem.W.Frag) : Sp := fun vs H Q _ => ∃ x : V, vs = [x] ∧ Vk K H x ∧ Q (.bl (isI x)) H
def spIsInt (K : PySem.W.Frag) : Sp := fun vs H Q _ => ∃ x : V, vs = [x] ∧ Vk K H x ∧ Q (.bl (i60 x)) H
theorem scIsWhole : FnScope ["value"] ["value"] (defScope sIsWhole) := ⟨rfl, rfl, rfl, by decide +kernel, rfl, by decide +kernel, by decide +kernel⟩
theorem scIsInt : FnScope ["value"] ["value"] (defScope sIsInt) := ⟨rfl, rfl, rfl, by decide +kernel, rfl, by decide +kernel, by decide +kernel⟩
theorem bootIsi : bootBuiltins "isinstance" = some (.builtin "isinstance") := by decide +kernel
theorem bootBool : bootBuiltins "bool" = some (.type "bool") := by decide +kernel
theorem bootTuple : bootBuiltins "tuple" = some (.type "tuple") := by decide +kernel
def betw (x : V) (a b : Int) : Bool := match x with
  | .int i => i60 (.int i) && (decide (a ≤ i) && decide (i ≤ b))
  | _ => false
def spBetw (K : PySem.W.Frag) : Sp := fun vs H Q _ => ∃ (x : V) (a b : Int), vs = [x, .int a, .int b] ∧ Vk K H x ∧ Q (.bl (betw x a b)) H
theorem scBetw : FnScope ["value", "least", "most"] ["value", "least", "most"] (defScope sBetween) := ⟨rfl, rfl, rfl, by decide +kernel, rfl, by decide +kernel, by decide +kernel⟩
section
variable {P : Program} {w : World} {K : PySem.W.Frag} {mg : Str → Option Value} {base : Heap}
theorem ok_iswhole {f : Addr} {fd : FuncData} (F : Fun K "is_whole" "is_whole" sIsWhole f fd) (T : Txt K mg) : FnOk P w K mg base CX0 1 f fd ["value"] (spIsWhole K) := by
  refine F.ok scIsWhole (fun vs H Q E h => ?_) (fun cdv A outer s H vs Q E hr h => ?_)
  · obtain ⟨a, rfl, _⟩ := h; rfl
  obtain ⟨x, rfl, hx, k⟩ := h
  refine ⟨_, pss_one (ps_ret (pe_and (pe_callB call_isi (by rfl) T.isi bootIsi (pa_cons (pv 0) (pa_cons (pe_bltn (v := .ty "int") (by rfl) T.int bootInt rfl) pa_nil)))
    (pe_one (pe_not (pe_callB call_isi (by rfl) T.isi bootIsi (pa_cons (pv 0) (pa_cons (pe_bltn (v := .ty "bool") (by rfl) T.bool bootBool rfl) pa_nil))))))), ?_⟩
  obtain ⟨Ty, ty, bi, bb, e1, e2, e3⟩ := vk_ty hx
  refine ⟨_, rfl, x, _, _, _, bi, rfl, .ty "int", ty, kit_ty e1, _, rfl, ?_⟩
  cases bi with
  | false =>
    refine iteF ?_
    have e4 : isI x = false := by rw [← e3]; rfl
    rw [← e4]
    exact k
  | true =>
    refine iteT ⟨_, rfl, x, _, _, _, bb, rfl, .ty "bool", ty, kit_ty e2, _, rfl, ?_⟩
    have e4 : isI x = !bb := by rw [← e3]; rfl
    rw [← e4]
    exact k
theorem ok_isint {f fW : Addr} {fd fdW : FuncData} (F : Fun K "is_integer" "is_integer" sIsInt f fd) (T : Txt K mg) (gW : mg "is_whole" = some (.ref fW)) (kW : PySem.W.keepIn K (.ref fW) = true) (bW : Binds K fdW ["value"] [])
    (W : FnOk P w K mg base CX0 1 fW fdW ["value"] (spIsWhole K)) : FnOk P w K mg base CX0 2 f fd ["value"] (spIsInt K) := by
  refine F.ok scIsInt (fun vs H Q E h => ?_) (fun cdv A outer s H vs Q E hr h => ?_)
  · obtain ⟨a, rfl, _⟩ := h; rfl
  obtain ⟨x, rfl, hx, k⟩ := h
  obtain ⟨t, hB⟩ := T.cLIMIT
  refine ⟨_, pss_one (ps_ret (pe_and (pe_call W hr (by rfl) gW kW bW .nil pass0 (pa_cons (pv 0) pa_nil))
    (pe_one (pe_chain op_lt op_lt (pe_un un_neg (pe_glob (v := .int (10 ^ 60)) (by rfl) hB ⟨_, rfl⟩)) (pv 0) (pe_glob (v := .int (10 ^ 60)) (by rfl) hB ⟨_, rfl⟩))))), ?_⟩
  refine ⟨_, rfl, x, rfl, hx, _, rfl, ?_⟩
  cases x with
  | int i =>
    refine iteT ⟨_, rfl, _, rfl, _, _, rfl, rfl, _, rfl, ?_⟩
    have q : Q (.bl (decide (-(10 ^ 60) < i) && decide (i < 10 ^ 60))) H := k
    by_cases c : -(10 ^ 60 : Int) < i
    · rw [decide_eq_true c] at q ⊢
      exact iteT ⟨_, _, rfl, rfl, q⟩
    · rw [decide_eq_false c] at q ⊢
      exact iteF q
  | non => exact iteF k
  | bl b => exact iteF k
  | str z => exact iteF k
  | byt z => exact iteF k
  | flt z => exact iteF k
  | ref a => exact iteF k
  | ty n => exact iteF k
theorem ok_betw {f fW : Addr} {fd fdW : FuncData} (F : Fun K "is_between" "is_between" sBetween f fd) (gW : mg "is_integer" = some (.ref fW)) (kW : PySem.W.keepIn K (.ref fW) = true) (bW : Binds K fdW ["value"] [])
    (W : FnOk P w K mg base CX0 2 fW fdW ["value"] (spIsInt K)) : FnOk P w K mg base CX0 3 f fd ["value", "least", "most"] (spBetw K) := by
  refine F.ok scBetw (fun vs H Q E h => ?_) (fun cdv A outer s H vs Q E hr h => ?_)
  · obtain ⟨a, b, c, rfl, _⟩ := h; rfl
  obtain ⟨x, a, b, rfl, hx, k⟩ := h
  refine ⟨_, pss_one (ps_ret (pe_and (pe_call W hr (by rfl) gW kW bW .nil pass0 (pa_cons (pv 0) pa_nil)) (pe_one (pe_chain op_le op_le (pv 1) (pv 0) (pv 2))))), ?_⟩
  refine ⟨_, rfl, x, rfl, hx, _, rfl, ?_⟩
  cases x with
  | int i =>
    have q : Q (.bl (i60 (.int i) && (decide (a ≤ i) && decide (i ≤ b)))) H := k
    cases c0 : i60 (.int i) with
    | false =>
      rw [c0] at q
      exact iteF q
    | true =>
      rw [c0] at q
      refine iteT ⟨_, rfl, _, rfl, _, _, rfl, rfl, _, rfl, ?_⟩
      by_cases c : a ≤ i
      · rw [decide_eq_true c] at q ⊢
        exact iteT ⟨_, rfl, _, _, rfl, rfl, q⟩
      · rw [decide_eq_false c] at q ⊢
        exact iteF q
  | non => exact iteF k
  | bl b => exact iteF k
  | str z => exact iteF k
  | byt z => exact iteF k
  | flt z => exact iteF k
  | ref a => exact iteF k
  | ty n => exact iteF k
end
end K5
namespace K5
open PySem PySem.Spec PyProof.Rows L2
theorem _root_.L2.Same.new {H : Hp} {p : Addr} {o : HO} (h : H p = none) : Same H (upd H p o) := fun b u e => by
  rw [upd_ne (ne_of_none e h)]
  exact e
theorem Vk.mono {K : PySem.W.Frag} {H H' : Hp} {x : V} (h : Vk K H x) (s : Same H H') : Vk K H' x := by
  cases h with
  | non => exact .non
  | bl b => exact .bl b
  | int i => exact .int i
  | str z => exact .str z
  | tup h =>
    rcases h with (h | ⟨o, h⟩) | h
    · exact .tup (.inl (.inl (s _ _ h)))
    · exact .tup (.inl (.inr ⟨o, s _ _ h⟩))
    · exact .tup (.inr h)
  | lst h => exact .lst (s _ _ h)
  | dic h => exact .dic (s _ _ h)
theorem tupSame {K : PySem.W.Frag} {H H' : Hp} {a : Addr} {xs : List V} (s : Same H H') (h : SqT K H a xs) : SqT K H' a xs := by
  rcases h with (h | ⟨o, h⟩) | h
  · exact .inl (.inl (s _ _ h))
  · exact .inl (.inr ⟨o, s _ _ h⟩)
  · exact .inr h
theorem bootAll : bootBuiltins "all" = some (.builtin "all") := by decide +kernel
theorem bootSum : bootBuiltins "sum" = some (.builtin "sum") := by decide +kernel
theorem bootList : bootBuiltins "list" = some (.type "list") := by decide +kernel
theorem bootMin : bootBuiltins "min" = some (.builtin "min") := by decide +kernel
/-- what is_letters says -/
inductive LetIs (K : PySem.W.Frag) (H : Hp) : V → Bool → Prop
  | non : LetIs K H .non false
  | bl (b : Bool) : LetIs K H (.bl b) false
  | int (i : Int) : LetIs K H (.int i) false
  | str (z : Str) : LetIs K H (.str z) false
  | lst {a : Addr} {xs : List V} (h : H a = some (.lst xs)) : LetIs K H (.ref a) false
  | dic {a : Addr} {kvs : List (Key × V)} (h : H a = some (.dK kvs)) : LetIs K H (.ref a) false
  | long {a : Addr} {xs : List V} (h : SqT K H a xs) (n : 24 < xs.length) : LetIs K H (.ref a) false
  | tup {a : Addr} {xs : List V} (h : SqT K H a xs) (n : xs.length ≤ 24) (v : ∀ x ∈ xs, Vk K H x) : LetIs K H (.ref a) (xs.all fun x => betw x 1 40)
def spIsLet (K : PySem.W.Frag) : Sp := fun vs H Q _ => ∃ (x : V) (b : Bool), vs = [x] ∧ LetIs K H x b ∧ ∀ H', Same H H' → Q (.bl b) H'
theorem scIsLet : FnScope ["value", "degree"] ["value"] (defScope sIsLetters) := ⟨rfl, rfl, rfl, by decide +kernel, rfl, by decide +kernel, by decide +kernel⟩
/-- the list that a comprehension of booleans makes, behind i turns -/
def blT (f : V → Bool) (xs : List V) : HO := .lst (xs.map fun x => V.bl (f x))
theorem take_snoc {α : Type} {xs : List α} {i : Nat} {x : α} (h : xs[i]? = some x) : xs.take (i + 1) = xs.take i ++ [x] := by
  rw [List.take_add_one, h]
  rfl
section
variable {P : Program} {w : World} {K : PySem.W.Frag} {mg : Str → Option Value} {base : Heap}
theorem ok_isletters {f fB : Addr} {fd fdB : FuncData} (F : Fun K "is_letters" "is_letters" sIsLetters f fd) (T : Txt K mg) (gB : mg "is_between" = some (.ref fB)) (kB : PySem.W.keepIn K (.ref fB) = true) (bB : Binds K fdB ["value", "least", "most"] [])
    (B : FnOk P w K mg base CX0 3 fB fdB ["value", "least", "most"] (spBetw K)) : FnOk P w K mg base CX0 4 f fd ["value"] (spIsLet K) := by
  refine F.ok scIsLet (fun vs H Q E h => ?_) (fun cdv A outer s H vs Q E hr h => ?_)
  · obtain ⟨a, b, rfl, _⟩ := h; rfl
  obtain ⟨x, b, rfl, hx, k⟩ := h
  obtain ⟨t1, m1⟩ := T.cMAXLETTERS
  obtain ⟨t2, m2⟩ := T.cMAXLETTER
  refine ⟨_, pss_cons (ps_if (PW.pt (pw_or (pt_not (pt_val (pe_callB call_isi (by rfl) T.isi bootIsi (pa_cons (pv 0) (pa_cons (pe_bltn (v := .ty "tuple") (by rfl) T.tuple bootTuple rfl) pa_nil)))))
        (pw_or1 (pt_cmpR op_gt (pe_callB call_len_seq (by rfl) T.len PySem.boot_len (pa_cons (pv 0) pa_nil)) (pe_glob (v := .int 24) (by rfl) m1 ⟨_, rfl⟩) (nomark _))))) (pss_one (ps_ret pe_bl)) pss_nil)
    (pss_one (ps_ret (pe_callB (cr_all rfl) (by rfl) T.all bootAll (pa_cons (pe_lc (own := [("degree", 1)]) (g := gName 1) rfl scIsLet.nd (pi_tup (pv 0)) (blkOk_by (N := ["value", "degree"]) (sc := defScope sIsLetters) (by decide +kernel)) (fun _ _ _ _ _ => pg_name (i := 1) scIsLet.nd rfl (Or.inl rfl)) (fun _ _ _ _ _ => pts_nil)
      (fun _ _ _ _ _ => pe_call B hr (by rfl) gB kB bB .nil pass0 (by exact (pa_cons (pv 1) (pa_cons pe_int (pa_cons (pe_glob (v := .int 40) (by rfl) m2 ⟨_, rfl⟩) pa_nil)))))) pa_nil)))), ?_⟩
  have no := k H (Same.refl H)
  cases hx with
  | non => exact ⟨_, rfl, _, _, _, _, false, rfl, .ty "tuple", .base .non, kit_ty (by decide +kernel), _, rfl, iteT (iteT no)⟩
  | bl b => exact ⟨_, rfl, _, _, _, _, false, rfl, .ty "tuple", .base (.bl _), kit_ty (by decide +kernel), _, rfl, iteT (iteT no)⟩
  | int i => exact ⟨_, rfl, _, _, _, _, false, rfl, .ty "tuple", .base (.int _), kit_ty (by decide +kernel), _, rfl, iteT (iteT no)⟩
  | str z => exact ⟨_, rfl, _, _, _, _, false, rfl, .ty "tuple", .base (.str _), kit_ty (by decide +kernel), _, rfl, iteT (iteT no)⟩
  | lst h => exact ⟨_, rfl, _, _, _, _, false, rfl, .ty "tuple", .base (.lst h), kit_ty (by decide +kernel), _, rfl, iteT (iteT no)⟩
  | dic h => exact ⟨_, rfl, _, _, _, _, false, rfl, .ty "tuple", .base (.dK h), kit_ty (by decide +kernel), _, rfl, iteT (iteT no)⟩
  | long h n =>
    refine ⟨_, rfl, _, _, _, _, true, rfl, .ty "tuple", tyT h, kit_ty (by decide +kernel), _, rfl, iteF ⟨_, rfl, _, _, rfl, .inr h, _, _, rfl, rfl, _, rfl, ?_⟩⟩
    rw [decide_eq_true (by omega)]
    exact iteT no
  | @tup a xs h n v =>
    refine ⟨_, rfl, _, _, _, _, true, rfl, .ty "tuple", tyT h, kit_ty (by decide +kernel), _, rfl, iteF ⟨_, rfl, _, _, rfl, .inr h, _, _, rfl, rfl, _, rfl, ?_⟩⟩
    rw [decide_eq_false (by omega)]
    refine iteF ⟨_, rfl, a, rfl, ⟨_, h⟩, fun D hD => lc_tup (K := K) (a := a) (xs := xs) (fun i H' => H' = upd H D (blT (fun x => betw x 1 40) (xs.take i))) rfl ?_ ?_ ?_⟩
    · rintro i H' _ rfl
      exact tupSame (Same.new hD) h
    · rintro i x H' hx rfl
      have vx := (v x (List.mem_of_getElem? hx)).mono (Same.new (o := blT (fun x => betw x 1 40) (xs.take i)) hD)
      have il := (List.getElem?_eq_some_iff.mp hx).1
      refine ⟨rfl, iteT (B := True) ⟨_, rfl, x, 1, 40, rfl, vx, xs.take i |>.map fun x => V.bl (betw x 1 40), upd_same, small1000 (by rw [List.length_map, List.length_take]; omega), ?_⟩⟩
      show upd _ D (.lst ((xs.take i |>.map fun x => V.bl (betw x 1 40)) ++ [.bl (betw x 1 40)])) = _
      rw [upd_upd, take_snoc hx]
      unfold blT
      rw [List.map_append]
      rfl
    rintro H' rfl
    refine ⟨D, xs.map fun x => betw x 1 40, rfl, SqL.of ?_, ?_⟩
    · rw [upd_same, List.take_length]
      unfold blT
      rw [List.map_map]
      rfl
    · have q := k _ (Same.new (o := blT (fun x => betw x 1 40) (xs.take xs.length)) hD)
      rw [List.all_map]
      exact q
end
end K5
namespace K5
open PySem PySem.Spec PyProof.Rows L2 RZ
/-! ### enumerate(tuple) -/
set_option maxHeartbeats 4000000 in
theorem meets_enumT (l : Addr) (items : Array Value) :
    Meets (Builtin.«enumerate.__new__» ⟨[.type "enumerate", .ref l], []⟩) (fun _ R s => s.heap.IsTuple l items ∧
      R (.ok (.ret (.ref (s.heap.push { cls := .type "tuple_iterator", data := .fields #[.ref l, .int 0 0] }).objs.size)))
        { s with heap := (s.heap.push { cls := .type "tuple_iterator", data := .fields #[.ref l, .int 0 0] }).push { cls := .type "enumerate", data := .fields #[.none, .bool false, .ref s.heap.objs.size, rawInt 0, .none, .none] } }) :=
  .of_wp fun prog w A R s h => by
    obtain ⟨hp, g, d, tk, os⟩ := s
    obtain ⟨hl, h⟩ := h
    have sub := sub_enumerate
    have it : ∀ {A' : Around} {E : Value → Shared → Prop} {Q : Value → Shared → Prop}, Q (.ref hp.objs.size) ⟨hp.push { cls := .type "tuple_iterator", data := .fields #[.ref l, .int 0 0] }, g, d, tk, os⟩ → wpAny (model prog w) A' (pyIter (.ref l)) Q E ⟨hp, g, d, tk, os⟩ :=
      fun q => wpAny_pyIter_tuple (s := ⟨hp, g, d, tk, os⟩) hl q
    wp_walk using it
    refine wpAny_stack_any fun _ => wpAny_pure ?_
    split
    · rename_i c _ _ _ _ _
      cases (c == Value.type "enumerate") <;> (wp_walk using it; exact ⟨_, rfl, h⟩)
    · wp_walk using it
      exact ⟨_, rfl, h⟩
section
variable {prog : Program} {w : World} {A : Around} {E : Value → Shared → Prop} {s : Shared}
theorem call_enumT {l : Addr} {items : Array Value} {Q : Value → Shared → Prop} (hL : s.heap.IsTuple l items)
    (h : ∀ h', IsEnum h' (s.heap.objs.size + 1) s.heap.objs.size 0 .none → h'.IsTupleIter s.heap.objs.size l 0 → h'.objs.size = s.heap.objs.size + 2 → (∀ b o, s.heap.get? b = some o → h'.get? b = some o) → Q (.ref (s.heap.objs.size + 1)) { s with heap := h' }) :
    wpAny (model prog w) A (call (.type "enumerate") [.ref l]) Q E s := by
  refine callType_new F.called_enumerate (by decide) (F.typeCall_enumerate_1 _) (F.newCall_enumerate_1 _) (fun obj => F.args_object_init_2 obj _) F.entry_enumerate_new (meets_enumT l items) ⟨hL, ?_⟩
  show _ ∧ _
  have z1 : (s.heap.push { cls := .type "tuple_iterator", data := .fields #[.ref l, .int 0 0] }).objs.size = s.heap.objs.size + 1 := Heap.size_push ..
  have he := Heap.get?_push_size (s.heap.push { cls := .type "tuple_iterator", data := .fields #[.ref l, .int 0 0] }) (o := { cls := .type "enumerate", data := .fields #[.none, .bool false, .ref s.heap.objs.size, rawInt 0, .none, .none] }) rfl
  rw [z1] at he ⊢
  refine ⟨⟨_, he, rfl⟩, h _ he ⟨_, Heap.get?_push_of_some _ (Heap.get?_push_size _ rfl), rfl, rfl⟩ ?_ fun b o x => Heap.get?_push_of_some _ (Heap.get?_push_of_some _ x)⟩
  rw [Heap.size_push, z1]
end
section
variable {prog : Program} {w : World} {A : Around} {E : Value → Shared → Prop} {s : Shared}
theorem enum_endT {e it l : Addr} {i : Nat} {k : Int} {items : Array Value} {old : Value} {Q : Option Value → Shared → Prop} (hh : A.handled = none) (he : IsEnum s.heap e it k old) (hit : s.heap.IsTupleIter it l i) (hl : s.heap.IsTuple l items) (hx : items[i]? = none)
    (q : ∀ h', Heap.ExtBut it s.heap h' → Q none { s with heap := h' }) : wpAny (model prog w) A (pyNext (.ref e)) Q E s := by
  have ty : s.TypeIs (.ref e) "enumerate" := ⟨_, he, rfl⟩
  unfold pyNext
  refine wpAny_bind (wpAny_attempt (wpAny_callSpecial?_slot (name := Str.ofString "__next__") ty F.slot_enumerate_next (wpAny_call_entry F.slot_enumerate_next ty F.entry_enumerate_next ?_ (F.args_enumerate_next_1 _))))
  show wpAny _ _ (field (.ref e) 2 >>= _) _ _ s
  refine wpAny_bind (wpAny_field he rfl (x := .ref it) rfl (wpAny_bind (nextOf_tuple_end hh hit hl hx fun h' x eb sx => ?_)))
  obtain ⟨o, go, co⟩ := sx
  exact wpAny_bind (wpAny_isInstance (T := "StopIteration") (b := true) ⟨o, go, co⟩ isSubtype_stop (wpAny_pure (q _ eb)))
end
/-- the tuple at a, each item in a new pair behind its index -/
def IteT (K : PySem.W.Frag) (a : Addr) : It :=
  ⟨fun i H => ∃ (xs : List V) (x : V), SqT K H a xs ∧ xs[i]? = some x, fun i H v H' => ∃ T x, v = .ref T ∧ H T = none ∧ H' = upd H T (.tup [.int (i : Nat), x]) ∧ ∀ xs, SqT K H a xs → xs[i]? = some x, fun i H => ∃ xs : List V, SqT K H a xs ∧ xs.length ≤ i⟩
theorem turn_enumT {P : Program} {w : World} {K : PySem.W.Frag} {elts : List Expr} {kk : Nat} {tpos : Pos} (a e it : Addr) :
    Turn P w K (.Tuple elts kk tpos) (IteT K a) [e, it] e (fun i h => (∃ old, IsEnum h e it ((i : Nat) : Int) old) ∧ h.IsTupleIter it a i ∧ e ≠ it ∧ a ≠ it ∧ a ≠ e) where
  mem := by simp
  obj := fun i h st b hb => by
    obtain ⟨⟨old, he⟩, ⟨o, ho, hc, hd⟩, _⟩ := st
    rcases List.mem_cons.mp hb with z | z
    · rw [z]
      exact ⟨_, he, fun v q => nomatch q⟩
    · rw [List.mem_singleton.mp z]
      exact ⟨o, ho, fun v q => by rw [hd] at q; cases q⟩
  keep := fun i h h' st k => by
    obtain ⟨⟨old, he⟩, hi, r⟩ := st
    exact ⟨⟨old, k e (by simp) _ he⟩, hi.at fun o q => k it (by simp) o q, r⟩
  item := by
    intro X hP hw hK hc i pins s σ H E I hf st hg
    subst hP hw hK
    obtain ⟨⟨old, he⟩, hit, hne, nai, nae⟩ := st
    obtain ⟨xs, x, hq, hx⟩ := hg
    obtain ⟨its, rv, p, hz⟩ := I.tuple hq
    have ht : s.heap.IsTuple a its.toArray := p
    obtain ⟨u, hu, ru⟩ := rv.get hx
    have hel : e < s.heap.objs.size := Heap.lt_size he
    have hil : it < s.heap.objs.size := by
      obtain ⟨_, q, _⟩ := hit
      exact Heap.lt_size q
    have hu2 : its.toArray[i]? = some u := by simpa using hu
    have hlt : i < its.toArray.size := (Array.getElem?_eq_some_iff.mp hu2).1
    refine wpAny_pyNext_enum_itemD (Draws.tuple (A := X.A.in1) (I.ok.hd hc) it a nai its.toArray) he ⟨hit, ht⟩ hlt hne (by simp only [List.mem_cons, List.not_mem_nil, or_false, not_or]; exact ⟨hne, fun z => nae z.symm⟩) fun y h' tk hP ho st' hT hsz hk => ?_
    have ey : y = u := by
      have hP' : its.toArray[i]? = some y := hP
      rw [hu2] at hP'
      exact (Option.some.inj hP').symm
    subst ey
    refine ⟨_, rfl, wpAny_letOwnedTupleGo_enum (s := { s with heap := h', toks := tk + 1 }) ho fun h'' he' sb => ?_⟩
    have hT2 : h''.get? s.heap.objs.size = some { cls := .type "tuple", data := .seq #[.int i tk, y] } := (sb.2 _ (Nat.ne_of_gt hel)).trans hT
    have new : ObjOk X.prog X.w (upd H s.heap.objs.size (.tup [.int (i : Nat), x])) h'' s.heap.objs.size (.tup [.int (i : Nat), x]) := ⟨by show 2 ≤ sizeLine; decide, [.int i tk, y], .cons ⟨_, rfl⟩ (.cons ru .nil), ⟨_, hT2, rfl, _, rfl⟩⟩
    have I1 : Inv X pins σ (upd H s.heap.objs.size (.tup [.int (i : Nat), x])) { s with heap := h'', toks := tk + 1 } :=
      I.turnedNew (t' := tk + 1) (ch := [e, it]) (fun b ob hb q => (sb.2 b (fun z => hb (by simp [z]))).trans (hk b ob (fun z => hb (by simp [z])) (fun z => hb (by simp [z])) q)) hf (Nat.le_refl _) new
    refine ⟨.ref s.heap.objs.size, _, I1, rfl, ⟨_, x, rfl, I.hok.fresh (Nat.le_refl _), rfl, fun ys hy => by rw [I.tuple_inj hy hq]; exact hx⟩, ⟨⟨y, ?_⟩, st'.1.at fun o q => (sb.2 it (Ne.symm hne)).trans q, hne, nai, nae⟩, fun b hb => ?_⟩
    · have e1 : ((i + 1 : Nat) : Int) = (i : Int) + 1 := by omega
      rw [e1]
      exact he'
    · have hb' : b < s.heap.objs.size := by
        rcases List.mem_cons.mp hb with z | z
        · rw [z]
          exact hel
        · rw [List.mem_singleton.mp z]
          exact hil
      rw [upd_ne (Nat.ne_of_lt hb')]
      exact (hf b hb).1
  done := by
    intro X hP hw hK hc i pins s σ H E I hf st hg
    subst hP hw hK
    obtain ⟨⟨old, he⟩, hit, hne, nai, nae⟩ := st
    obtain ⟨xs, hq, hx⟩ := hg
    obtain ⟨its, rv, p, hz⟩ := I.tuple hq
    have ht : s.heap.IsTuple a its.toArray := p
    have hl := rv.length
    have none' : its.toArray[i]? = none := by
      rw [Array.getElem?_eq_none_iff, List.size_toArray]
      omega
    refine enum_endT (I.ok.hd hc) he hit ht none' fun h' eb => ⟨rfl, I.turnedL (t' := s.toks) (ch := [e, it]) (fun b o hb q => eb b o (fun z => hb (by simp [z])) q) hf⟩
  self := fun A i s Q E st h => by
    obtain ⟨⟨_, he⟩, _⟩ := st
    exact wpAny_pyIter_enum he h
def iEnumT (K : PySem.W.Frag) (ta : TA) : TI := fun σ H R => ta σ H fun vs H1 => ∃ a xs, vs = [.ref a] ∧ SqT K H1 a xs ∧ R (IteT K a) H1
theorem pi_enumT {X : Cx} {e : Expr} {ta : TA} {p pos tpos : Pos} {elts : List Expr} {kk : Nat} (hg : Gl X "enumerate") (hm : X.mg "enumerate" = none) (ha : PA X [e] ta) (hs : starEach [e] X.env = [(false, eval e X.env)] := by rfl) :
    PI X (.Tuple elts kk tpos) (.Call (.Name "enumerate" p) [e] [] pos) (iEnumT X.K ta) := by
  refine ⟨fun pins s σ H R I h => Call_ (ld_blt I hg hm boot_enumerate (PyProof.Rows.callWith_type1 (thn (ha.run pos pins s σ H _ I h) fun us s1 ⟨vs, H1, I1, r1, q1⟩ => ?_) hs rfl))⟩
  obtain ⟨a, xs, rfl, hq, q⟩ := q1
  rw [Vals.ref1 r1]
  obtain ⟨its, rv, p', hz⟩ := I1.tuple hq
  have ht : s1.heap.IsTuple a its.toArray := p'
  have al : a < s1.heap.objs.size := by
    obtain ⟨o, ho, _⟩ := ht
    exact Heap.lt_size ho
  refine call_enumT ht fun h' he hit hsz hk => wpAny_pyIter_enum he ?_
  refine ⟨s1.heap.objs.size + 1, [s1.heap.objs.size + 1, s1.heap.objs.size], _, _, H1, rfl, I1.kept (t' := s1.toks) hk, turn_enumT a (s1.heap.objs.size + 1) s1.heap.objs.size, ⟨⟨.none, he⟩, hit, Nat.succ_ne_self _, Nat.ne_of_lt al, Nat.ne_of_lt (Nat.lt_succ_of_lt al)⟩, fun b hb => ?_, q⟩
  have hle : s1.heap.objs.size ≤ b := by
    rcases List.mem_cons.mp hb with z | z
    · rw [z]
      exact Nat.le_add_right _ _
    · rw [List.mem_singleton.mp z]
      exact Nat.le_refl _
  exact I1.fpOk hle (I1.hok.fresh hle)
theorem walk_enumT {K : PySem.W.Frag} {a : Addr} {xs : List V} : Walk (IteT K a) xs.length (fun H => SqT K H a xs) (YPair (fun i => some (.int (i : Nat))) (fun i => xs[i]?)) := by
  refine ⟨fun i _ hi q => ⟨xs, xs[i], q, by simp [hi]⟩, fun _ q => ⟨xs, q, Nat.le_refl _⟩, fun i H v H' _ q y => ?_⟩
  obtain ⟨T, x, h1, h2, h3, h4⟩ := y
  exact ⟨T, _, x, h1, h2, h3, rfl, h4 xs q⟩
theorem walk_zipT {K : PySem.W.Frag} {a b : Addr} {xs ys : List V} {n : Nat} (hn : n = min xs.length ys.length) : Walk (ItzT K a b) n (fun H => SqT K H a xs ∧ SqT K H b ys) (YPair (fun i => xs[i]?) (fun i => ys[i]?)) := by
  subst hn
  refine ⟨fun i _ hi q => ?_, fun _ q => ⟨xs, ys, q.1, q.2, by omega⟩, fun i H v H' _ q y => ?_⟩
  · have h1 : i < xs.length := by omega
    have h2 : i < ys.length := by omega
    exact ⟨xs, ys, xs[i], ys[i], q.1, q.2, by simp [h1], by simp [h2]⟩
  · obtain ⟨T, x, z, h1, h2, h3, h4, h5⟩ := y
    exact ⟨T, x, z, h1, h2, h3, h4 xs q.1, h5 ys q.2⟩
/-! ### sum(tuple) -/
def rSumT (K : PySem.W.Frag) : List V → Hp → VK → Prop := fun vs H Q => ∃ (a : Addr) (ns : List Int), vs = [V.ref a] ∧ SqT K H a (ns.map V.int) ∧ Q (.int ns.sum) H
theorem cr_sumT {X : Cx} (hc : X.calm = true) : CallR X (.builtin "sum") (rSumT X.K) := by
  intro pins s σ H vs us Q I r h
  obtain ⟨a, ns, rfl, hs, q⟩ := h
  obtain ⟨its, rv, p, _⟩ := I.tuple hs
  rw [Vals.ref1 r]
  have hl : s.heap.IsTuple a its.toArray := p
  obtain ⟨xs, hx⟩ := rv.ints.allInts.items
  have hn : numsOf its.toArray.toList = ns := by rw [show its.toArray.toList = its from rfl, rv.ints.numsOf]
  rw [hx] at hl hn
  rw [nums_intItems] at hn
  refine PySem.W.ktm_sumG (I.ok.hd hc) hl fun h' tk t' hk => ?_
  rw [preSum_eq, List.take_of_length_le (by simp), hn]
  exact ⟨.int _, H, I.kept hk, ⟨_, rfl⟩, q⟩
end K5
namespace K5
open PySem PySem.Spec PyProof.Rows L2
/-! ### tuple * int, also 0 and 1 times -/
theorem tup_times1 (l : Addr) (items : Array Value) (n : Nat) (dd : Option Addr) (sl : Array (Option Value)) (u : Tok) :
    Meets (Builtin.«tuple.__mul__» ⟨[.ref l, .int 1 u], []⟩) (fun _ R s => s.heap.get? l = some { cls := .type "tuple", dict := dd, data := .seq items n, slots := sl } ∧ R (.ok (.ret (Value.ref l))) s) :=
  .of_wp fun prog w A R s h => by
    obtain ⟨hp, g, d, tk, os⟩ := s
    obtain ⟨hl, h⟩ := h
    have f1 := AutoSeq1.idx_int
    have c1 : (items.isEmpty || (1 : Int) == 1) = true := by simp
    wp_walk using wpAny_loadPart' hl
    repeat (first
      | (refine wpAny_ite_true (decide_eq_true (by rw [c1])) ?_; wp_walk using wpAny_loadPart' hl)
      | (refine wpAny_ite_false (decide_eq_false (by decide)) ?_; wp_walk using wpAny_loadPart' hl))
    all_goals exact ⟨_, rfl, h⟩
theorem tup_times0 (l : Addr) (items : Array Value) (n : Nat) (dd : Option Addr) (sl : Array (Option Value)) (u : Tok) (c1 : (items.isEmpty || (0 : Int) == 1) = false) :
    Meets (Builtin.«tuple.__mul__» ⟨[.ref l, .int 0 u], []⟩) (fun _ R s => s.heap.get? l = some { cls := .type "tuple", dict := dd, data := .seq items n, slots := sl } ∧
      R (.ok (.ret (Value.ref s.heap.objs.size))) { s with heap := s.heap.push { cls := Value.type "tuple", data := Data.seq #[] }, toks := s.toks }) :=
  .of_wp fun prog w A R s h => by
    obtain ⟨hp, g, d, tk, os⟩ := s
    obtain ⟨hl, h⟩ := h
    have f1 := AutoSeq1.idx_int
    wp_walk using wpAny_loadPart' hl
    repeat (first
      | (refine wpAny_ite_false (decide_eq_false (by rw [c1]; exact Bool.false_ne_true)) ?_; wp_walk using wpAny_loadPart' hl)
      | (refine wpAny_ite_true (decide_eq_true (by rfl)) ?_; wp_walk using wpAny_loadPart' hl)
      | (refine wpAny_ite_false (decide_eq_false (by decide)) ?_; wp_walk using wpAny_loadPart' hl))
    all_goals exact ⟨_, rfl, h⟩
def rMulT (K : PySem.W.Frag) : R2 := fun x y H Q => ∃ l k xs, x = .ref l ∧ y = .int k ∧ SqT K H l xs ∧ xs ≠ [] ∧ 0 ≤ k ∧ k ≤ 1000 ∧ xs.length ≤ 1000 ∧ (k = 1 → Q (.ref l) H) ∧ (k ≠ 1 → ∀ p, H p = none → Q (.ref p) (upd H p (.tup (List.replicate k.toNat xs).flatten)))
theorem op_mulT {X : Cx} : OpR X (binaryOp .Mult) (rMulT X.K) := by
  intro pins s σ H x y v u Q I rx ry h
  obtain ⟨l, k, xs, rfl, rfl, hT, hne, h0, h2, hz, q1, q2⟩ := h
  by_cases k2 : 2 ≤ k
  · exact op_repT pins s σ H _ _ v u Q I rx ry ⟨l, k, xs, rfl, rfl, hT, hne, k2, h2, hz, q2 (by omega)⟩
  cases rx
  obtain ⟨t, rfl⟩ := ry
  obtain ⟨its, r, ⟨⟨cls, dd, data, sl⟩, ho, hc, n, hd⟩, hs⟩ := I.tuple hT
  simp only at hc hd
  subst hc hd
  by_cases k1 : k = 1
  · subst k1
    exact wpAny_binaryOp_repeat_ref (T := "tuple") (U := "int") (by decide) ⟨_, ho, rfl⟩ (fun s' => typeIs_int s' 1 t) noFill_tuple_mul F.fills_int_mul F.slot_int_rmul repeat_tuple F.slot_int_index.lookup
      (call_meets F.slot_int_rmul (typeIs_int s 1 t) F.entry_int_rmul (F.args_int_rmul_2 _ _) (int_rmul_tuple 1 t l its.toArray n dd sl)
        ⟨ho, rfl, ⟨_, ho, rfl⟩, call_meets F.slot_tuple_mul ⟨_, ho, rfl⟩ F.entry_tuple_mul (F.args_tuple_mul_2 _ _) (tup_times1 l its.toArray n dd sl t) ⟨ho, ⟨.ref l, H, I, rfl, q1 rfl⟩⟩⟩)
  · have k0 : k = 0 := by omega
    subst k0
    have hle : its.length = xs.length := r.length.symm
    have hi : (its.toArray.isEmpty || (0 : Int) == 1) = false := by
      cases its with
      | nil =>
        rw [List.length_nil] at hle
        exact absurd (List.eq_nil_of_length_eq_zero hle.symm) hne
      | cons a b => rfl
    exact wpAny_binaryOp_repeat_ref (T := "tuple") (U := "int") (by decide) ⟨_, ho, rfl⟩ (fun s' => typeIs_int s' 0 t) noFill_tuple_mul F.fills_int_mul F.slot_int_rmul repeat_tuple F.slot_int_index.lookup
      (call_meets F.slot_int_rmul (typeIs_int s 0 t) F.entry_int_rmul (F.args_int_rmul_2 _ _) (int_rmul_tuple 0 t l its.toArray n dd sl)
        ⟨ho, rfl, ⟨_, ho, rfl⟩, call_meets F.slot_tuple_mul ⟨_, ho, rfl⟩ F.entry_tuple_mul (F.args_tuple_mul_2 _ _) (tup_times0 l its.toArray n dd sl t hi)
          ⟨ho, ⟨.ref s.heap.objs.size, _, I.laid (t' := s.toks) (o := .tup []) (fun b ob q => Heap.get?_push_of_some _ q) (Nat.le_refl _) ⟨by show 0 ≤ sizeLine; decide, [], .nil, IsTup.new _ _⟩, rfl, q2 (by decide) _ (I.hok.fresh (Nat.le_refl _))⟩⟩⟩)
end K5
namespace K5
open PySem PySem.Spec PyProof.Rows L2 RZ
abbrev iV (L : List Int) : List V := L.map V.int
/-- what a comprehension's walk asks -/
abbrev LcW (J : It) (g : TG) (tt : TT) (te : TE) (vs : List Nat) (σ : L2.St) (H : Hp) (D : Addr) (Qd : Hp → Prop) : Prop :=
  ∃ W : Nat → Nat → Hp → Prop, (∃ m, W 0 m (upd H D (.lst []))) ∧ ∀ i m H1, W i m H1 → (J.stop i H1 ∧ Qd H1) ∨ (J.go i H1 ∧ ∃ Nx : Hp → Prop, (∀ H', Nx H' → ∃ m', m' < m ∧ W (i + 1) m' H') ∧
    ∀ x H', J.yld i H1 x H' → g x (wipe σ vs) H' fun σ2 H2 => wipe σ2 vs = wipe σ vs ∧ tt σ2 H2 fun b H3 => if b = true then te σ2 H3 fun y H4 => ∃ acc, H4 D = some (.lst acc) ∧ acc.length < sizeLine ∧ Nx (upd H4 D (.lst (acc ++ [y]))) else Nx H3)
theorem take_more {α : Type} {xs : List α} {i : Nat} {x : α} (h : xs[i]? = some x) : xs.take (i + 1) = xs.take i ++ [x] := by
  rw [List.take_add_one, h]
  rfl
theorem Same.back {H H1 : Hp} {D : Addr} {o : HO} (s : Same H H1) (hD : H D = none) : Same H (upd H1 D o) := fun b u e => by
  rw [upd_ne (ne_of_none e hD)]
  exact s b u e
/-- over zip of two tuples of ints -/
theorem lc_zip2 {K : PySem.W.Frag} {a b : Addr} {L W : List Int} {i j : Nat} {te : TE} {vs : List Nat} {σ : L2.St} {H : Hp} {D : Addr} {Qd : Hp → Prop} (f : Int → Int → V) (hD : H D = none) (ha : SqT K H a (iV L)) (hb : SqT K H b (iV W)) (ln : L.length ≤ 1000)
    (hw : ∀ x y : V, wipe (((wipe σ vs).set i (some x)).set j (some y)) vs = wipe σ vs)
    (he : ∀ (n : Nat) (d e : Int) (H1 : Hp) (Q : VK), L[n]? = some d → W[n]? = some e → Same H H1 → (∀ H2, Same H1 H2 → Q (f d e) H2) → te (((wipe σ vs).set i (some (.int d))).set j (some (.int e))) H1 Q)
    (hd : ∀ H', Same H H' → H' D = some (.lst (List.zipWith f L W)) → Qd H') : LcW (ItzT K a b) (gTup K 2 (gCons (gName i) (gCons (gName j) gNil))) tYes te vs σ H D Qd := by
  have zl : (List.zipWith f L W).length = min L.length W.length := List.length_zipWith
  refine lc_it (walk_zipT (xs := iV L) (ys := iV W) rfl) (fun n H' => Same H H' ∧ H' D = some (.lst ((List.zipWith f L W).take n))) ⟨Same.new hD, upd_same⟩ (fun _ H' _ p => ⟨tupSame p.1 ha, tupSame p.1 hb⟩) (fun n x H1 H2 hn p y => ?_) fun H' p => ?_
  · obtain ⟨T, u, v, rfl, hT, rfl, hu, hv⟩ := y
    have hu : (iV L)[n]? = some u := hu
    have hv : (iV W)[n]? = some v := hv
    rw [List.getElem?_map] at hu hv
    obtain ⟨d, hd1, rfl⟩ := Option.map_eq_some_iff.mp hu
    obtain ⟨e, he1, rfl⟩ := Option.map_eq_some_iff.mp hv
    have s1 : Same H1 (upd H1 T (.tup [.int d, .int e])) := Same.new hT
    refine ⟨T, [.int d, .int e], rfl, SqT.of upd_same, rfl, .int d, [.int e], rfl, .int e, [], rfl, rfl, hw _ _, iteT (B := True) (he n d e _ _ hd1 he1 (p.1.trans s1) fun H2 s2 => ?_)⟩
    have zg : (List.zipWith f L W)[n]? = some (f d e) := by
      rw [List.getElem?_zipWith, hd1, he1]
    refine ⟨(List.zipWith f L W).take n, (s1.trans s2) _ _ p.2, small1000 (by rw [List.length_take]; omega), Same.back (p.1.trans (s1.trans s2)) hD, ?_⟩
    rw [upd_same, take_more zg]
  · refine hd H' p.1 ?_
    rw [p.2, List.take_of_length_le (by rw [zl, List.length_map, List.length_map]; omega)]
/-- over a tuple -/
theorem lc_tup1 {K : PySem.W.Frag} {a : Addr} {xs : List V} {i : Nat} {te : TE} {vs : List Nat} {σ : L2.St} {H : Hp} {D : Addr} {Qd : Hp → Prop} (f : V → V) (hD : H D = none) (ha : SqT K H a xs) (ln : xs.length ≤ 1000)
    (hw : ∀ x : V, wipe ((wipe σ vs).set i (some x)) vs = wipe σ vs)
    (he : ∀ (n : Nat) (x : V) (H1 : Hp) (Q : VK), xs[n]? = some x → Same H H1 → (∀ H2, Same H1 H2 → Q (f x) H2) → te ((wipe σ vs).set i (some x)) H1 Q)
    (hd : ∀ H', Same H H' → H' D = some (.lst (xs.map f)) → Qd H') : LcW (Itt K a) (gName i) tYes te vs σ H D Qd := by
  refine lc_it (walk_tup (xs := xs)) (fun n H' => Same H H' ∧ H' D = some (.lst ((xs.take n).map f))) ⟨Same.new hD, upd_same⟩ (fun _ H' _ p => tupSame p.1 ha) (fun n x H1 H2 hn p y => ?_) fun H' p => ?_
  · obtain ⟨rfl, hx⟩ := y
    refine ⟨hw _, iteT (B := True) (he n x _ _ hx p.1 fun H2 s2 => ?_)⟩
    refine ⟨(xs.take n).map f, s2 _ _ p.2, small1000 (by rw [List.length_map, List.length_take]; omega), Same.back (p.1.trans s2) hD, ?_⟩
    rw [upd_same, take_more hx, List.map_append]
    rfl
  · refine hd H' p.1 ?_
    rw [p.2, List.take_length]
/-- over range(n) -/
theorem lc_range1 {lo : Int} {N i : Nat} {te : TE} {vs : List Nat} {σ : L2.St} {H : Hp} {D : Addr} {Qd : Hp → Prop} (f : Int → V) (hD : H D = none) (ln : N ≤ 1000)
    (hw : ∀ x : V, wipe ((wipe σ vs).set i (some x)) vs = wipe σ vs)
    (he : ∀ (n : Nat) (H1 : Hp) (Q : VK), n < N → Same H H1 → (∀ H2, Same H1 H2 → Q (f (lo + n)) H2) → te ((wipe σ vs).set i (some (.int (lo + n)))) H1 Q)
    (hd : ∀ H', Same H H' → H' D = some (.lst ((List.range N).map fun n : Nat => f (lo + n))) → Qd H') : LcW (Itr lo N) (gName i) tYes te vs σ H D Qd := by
  refine lc_it (walk_range (lo := lo) (n := N)) (fun n H' => Same H H' ∧ H' D = some (.lst ((List.range n).map fun n : Nat => f (lo + n)))) ⟨Same.new hD, upd_same⟩ (fun _ H' _ p => trivial) (fun n x H1 H2 hn p y => ?_) fun H' p => ?_
  · obtain ⟨rfl, rfl⟩ := y
    refine ⟨hw _, iteT (B := True) (he n _ _ hn p.1 fun H2 s2 => ?_)⟩
    refine ⟨(List.range n).map fun n : Nat => f (lo + n), s2 _ _ p.2, small1000 (by rw [List.length_map, List.length_range]; omega), Same.back (p.1.trans s2) hD, ?_⟩
    rw [upd_same, List.range_succ, List.map_append]
    rfl
  · exact hd H' p.1 p.2
/-- the indices of the odd ones, from k on -/
def od (k : Int) : List Int → List Int
  | [] => []
  | d :: L => if d % 2 = 1 then k :: od (k + 1) L else od (k + 1) L
theorem od_append : ∀ (L M : List Int) (k : Int), od k (L ++ M) = od k L ++ od (k + L.length) M
  | [], M, k => by
    show od k M = [] ++ od (k + 0) M
    rw [Int.add_zero, List.nil_append]
  | d :: L, M, k => by
    have ih := od_append L M (k + 1)
    have e : k + 1 + (L.length : Int) = k + ((d :: L).length : Int) := by
      rw [List.length_cons]
      omega
    rw [e] at ih
    show (if d % 2 = 1 then k :: od (k + 1) (L ++ M) else od (k + 1) (L ++ M)) = (if d % 2 = 1 then k :: od (k + 1) L else od (k + 1) L) ++ _
    split
    · rw [ih]
      rfl
    · rw [ih]
theorem od_len : ∀ (L : List Int) (k : Int), (od k L).length ≤ L.length
  | [], _ => Nat.le_refl _
  | d :: L, k => by
    have := od_len L (k + 1)
    show (if d % 2 = 1 then k :: od (k + 1) L else od (k + 1) L).length ≤ _
    split
    · rw [List.length_cons, List.length_cons]
      omega
    · rw [List.length_cons]
      omega
/-- the indices of odd letters, over enumerate -/
theorem lc_odds {K : PySem.W.Frag} {a : Addr} {L : List Int} {i j : Nat} {tt : TT} {te : TE} {vs : List Nat} {σ : L2.St} {H : Hp} {D : Addr} {Qd : Hp → Prop} (hD : H D = none) (ha : SqT K H a (iV L)) (ln : L.length ≤ 1000)
    (hw : ∀ x y : V, wipe (((wipe σ vs).set i (some x)).set j (some y)) vs = wipe σ vs)
    (ht : ∀ (n : Nat) (d : Int) (H1 : Hp) (Q : Bool → Hp → Prop), Q (decide (d % 2 = 1)) H1 → tt (((wipe σ vs).set i (some (.int n))).set j (some (.int d))) H1 Q)
    (he : ∀ (n : Nat) (d : Int) (H1 : Hp) (Q : VK), Q (.int n) H1 → te (((wipe σ vs).set i (some (.int n))).set j (some (.int d))) H1 Q)
    (hd : ∀ H', Same H H' → H' D = some (.lst (iV (od 0 L))) → Qd H') : LcW (IteT K a) (gTup K 2 (gCons (gName i) (gCons (gName j) gNil))) tt te vs σ H D Qd := by
  refine lc_it (walk_enumT (xs := iV L)) (fun n H' => Same H H' ∧ H' D = some (.lst (iV (od 0 (L.take n))))) ⟨Same.new hD, upd_same⟩ (fun _ H' _ p => tupSame p.1 ha) (fun n x H1 H2 hn p y => ?_) fun H' p => ?_
  · obtain ⟨T, u, v, rfl, hT, rfl, hu, hv⟩ := y
    have hu : some (V.int (n : Nat)) = some u := hu
    have hv : (iV L)[n]? = some v := hv
    cases hu
    rw [List.getElem?_map] at hv
    obtain ⟨d, hd1, rfl⟩ := Option.map_eq_some_iff.mp hv
    have s1 : Same H1 (upd H1 T (.tup [.int (n : Nat), .int d])) := Same.new hT
    have nl := (List.getElem?_eq_some_iff.mp hd1).1
    have e1 : od 0 (L.take (n + 1)) = od 0 (L.take n) ++ (if d % 2 = 1 then [(n : Int)] else []) := by
      rw [take_more hd1, od_append, List.length_take, Nat.min_eq_left (Nat.le_of_lt nl), Int.zero_add]
      rfl
    refine ⟨T, [.int (n : Nat), .int d], rfl, SqT.of upd_same, rfl, .int (n : Nat), [.int d], rfl, .int d, [], rfl, rfl, hw _ _, ht n d _ _ ?_⟩
    by_cases c : d % 2 = 1
    · rw [decide_eq_true c]
      refine iteT (he n d _ _ ?_)
      have ol := od_len (L.take n) 0
      rw [List.length_take] at ol
      refine ⟨iV (od 0 (L.take n)), s1 _ _ p.2, small1000 (by rw [List.length_map]; omega), Same.back (p.1.trans s1) hD, ?_⟩
      rw [upd_same, e1, if_pos c]
      show _ = some (HO.lst (List.map V.int _))
      rw [List.map_append]
      rfl
    · rw [decide_eq_false c]
      refine iteF ⟨p.1.trans s1, ?_⟩
      rw [e1, if_neg c, List.append_nil]
      exact s1 _ _ p.2
  · refine hd H' p.1 ?_
    rw [p.2, List.length_map, List.take_length]
end K5
namespace L2
open PySem PySem.Spec PyProof.Rows
/-- the items are tuples of these ints -/
abbrev TupsV (K : PySem.W.Frag) (H : Hp) (xs : List V) (ls : List (List Int)) : Prop := Paired (fun x l => ∃ t, x = V.ref t ∧ SqT K H t (l.map V.int)) xs ls
end L2
namespace K5
open PySem PySem.Spec PyProof.Rows L2 RZ
def But (d : Addr) (H H' : Hp) : Prop := ∀ b o, b ≠ d → H b = some o → H' b = some o
theorem But.refl (d : Addr) (H : Hp) : But d H H := fun _ _ _ h => h
theorem But.trans {d : Addr} {H H1 H2 : Hp} (a : But d H H1) (b : But d H1 H2) : But d H H2 := fun c o n h => b c o n (a c o n h)
theorem But.dice {d : Addr} {H : Hp} {o : HO} : But d H (upd H d o) := fun c u n h => by rw [upd_ne n]; exact h
theorem But.of {d : Addr} {H H' : Hp} (s : Same H H') : But d H H' := fun b o _ h => s b o h
theorem But.tup {K : PySem.W.Frag} {d a : Addr} {H H' : Hp} {L xs : List V} (k : But d H H') (hd : H d = some (.lst L)) (h : SqT K H a xs) : SqT K H' a xs := by
  rcases h with (h | ⟨o, h⟩) | h
  · refine .inl (.inl (k _ _ (fun z => ?_) h))
    rw [z, hd] at h
    cases h
  · refine .inl (.inr ⟨o, k _ _ (fun z => ?_) h⟩)
    rw [z, hd] at h
    cases h
  · exact .inr h
theorem But.back {d D : Addr} {H H1 : Hp} {o : HO} (k : But d H H1) (hD : H D = none) : But d H (upd H1 D o) := fun b u n e => by
  rw [upd_ne (ne_of_none e hD)]
  exact k b u n e
theorem take_filter {α : Type} {xs : List α} {i : Nat} {x : α} {p : α → Bool} (h : xs[i]? = some x) : (xs.take (i + 1)).filter p = (xs.take i).filter p ++ (if p x = true then [x] else []) := by
  rw [take_more h, List.filter_append, List.filter_cons, List.filter_nil]
/-- over a tuple of ints -/
theorem lc_ints {K : PySem.W.Frag} {a : Addr} {L : List Int} {i : Nat} {tt : TT} {te : TE} {vs : List Nat} {σ : L2.St} {H : Hp} {D : Addr} {Qd : Hp → Prop} (f : Int → V) (p : Int → Bool) (hD : H D = none) (ha : SqT K H a (iV L)) (ln : L.length ≤ 1000)
    (hw : ∀ x : V, wipe ((wipe σ vs).set i (some x)) vs = wipe σ vs)
    (ht : ∀ (d : Int) (H1 : Hp) (Q : Bool → Hp → Prop), d ∈ L → Same H H1 → (∀ H2, Same H1 H2 → Q (p d) H2) → tt ((wipe σ vs).set i (some (.int d))) H1 Q)
    (he : ∀ (d : Int) (H1 : Hp) (Q : VK), d ∈ L → p d = true → Same H H1 → (∀ H2, Same H1 H2 → Q (f d) H2) → te ((wipe σ vs).set i (some (.int d))) H1 Q)
    (hd : ∀ H', Same H H' → H' D = some (.lst ((L.filter p).map f)) → Qd H') : LcW (Itt K a) (gName i) tt te vs σ H D Qd := by
  refine lc_it (walk_tup (xs := iV L)) (fun n H' => Same H H' ∧ H' D = some (.lst (((L.take n).filter p).map f))) ⟨Same.new hD, upd_same⟩ (fun _ H' _ p => tupSame p.1 ha) (fun n x H1 H2 hn q y => ?_) fun H' q => ?_
  · obtain ⟨rfl, hx⟩ := y
    rw [List.getElem?_map] at hx
    obtain ⟨d, hd1, rfl⟩ := Option.map_eq_some_iff.mp hx
    have hm := List.mem_of_getElem? hd1
    refine ⟨hw _, ht d _ _ hm q.1 fun H2 s2 => ?_⟩
    cases c : p d with
    | true =>
      refine iteT (he d _ _ hm c (q.1.trans s2) fun H3 s3 => ?_)
      have le := List.length_filter_le p (L.take n)
      rw [List.length_take] at le
      refine ⟨((L.take n).filter p).map f, (s2.trans s3) _ _ q.2, small1000 (by rw [List.length_map]; omega), Same.back (q.1.trans (s2.trans s3)) hD, ?_⟩
      rw [upd_same, take_filter hd1, c, if_pos rfl, List.map_append]
      rfl
    | false =>
      refine iteF ⟨q.1.trans s2, ?_⟩
      rw [take_filter hd1, c, if_neg Bool.false_ne_true, List.append_nil]
      exact s2 _ _ q.2
  · refine hd H' q.1 ?_
    rw [q.2, List.length_map, List.take_length]
/-- over a list of ints -/
theorem lc_intsL {K : PySem.W.Frag} {a : Addr} {L : List Int} {i : Nat} {tt : TT} {te : TE} {vs : List Nat} {σ : L2.St} {H : Hp} {D : Addr} {Qd : Hp → Prop} (f : Int → V) (p : Int → Bool) (hD : H D = none) (ha : SqL K H a (iV L)) (ln : L.length ≤ 1000)
    (hw : ∀ x : V, wipe ((wipe σ vs).set i (some x)) vs = wipe σ vs)
    (ht : ∀ (d : Int) (H1 : Hp) (Q : Bool → Hp → Prop), d ∈ L → Same H H1 → (∀ H2, Same H1 H2 → Q (p d) H2) → tt ((wipe σ vs).set i (some (.int d))) H1 Q)
    (he : ∀ (d : Int) (H1 : Hp) (Q : VK), d ∈ L → p d = true → Same H H1 → (∀ H2, Same H1 H2 → Q (f d) H2) → te ((wipe σ vs).set i (some (.int d))) H1 Q)
    (hd : ∀ H', Same H H' → H' D = some (.lst ((L.filter p).map f)) → Qd H') : LcW (Itl K a) (gName i) tt te vs σ H D Qd := by
  refine lc_it (walk_list (xs := iV L)) (fun n H' => Same H H' ∧ H' D = some (.lst (((L.take n).filter p).map f))) ⟨Same.new hD, upd_same⟩ (fun _ H' _ p => p.1.seq ha) (fun n x H1 H2 hn q y => ?_) fun H' q => ?_
  · obtain ⟨rfl, hx⟩ := y
    rw [List.getElem?_map] at hx
    obtain ⟨d, hd1, rfl⟩ := Option.map_eq_some_iff.mp hx
    have hm := List.mem_of_getElem? hd1
    refine ⟨hw _, ht d _ _ hm q.1 fun H2 s2 => ?_⟩
    cases c : p d with
    | true =>
      refine iteT (he d _ _ hm c (q.1.trans s2) fun H3 s3 => ?_)
      have le := List.length_filter_le p (L.take n)
      rw [List.length_take] at le
      refine ⟨((L.take n).filter p).map f, (s2.trans s3) _ _ q.2, small1000 (by rw [List.length_map]; omega), Same.back (q.1.trans (s2.trans s3)) hD, ?_⟩
      rw [upd_same, take_filter hd1, c, if_pos rfl, List.map_append]
      rfl
    | false =>
      refine iteF ⟨q.1.trans s2, ?_⟩
      rw [take_filter hd1, c, if_neg Bool.false_ne_true, List.append_nil]
      exact s2 _ _ q.2
  · refine hd H' q.1 ?_
    rw [q.2, List.length_map, List.take_length]
theorem tv_mono {K : PySem.W.Frag} {H H' : Hp} {xs : List V} {ls : List (List Int)} (h : TupsV K H xs ls) (s : Same H H') : TupsV K H' xs ls := Paired.mapP h fun _ _ ⟨t, e, q⟩ => ⟨t, e, tupSame s q⟩
theorem tv_get {K : PySem.W.Frag} {H : Hp} {x : V} : ∀ {n : Nat} {xs : List V} {ls : List (List Int)}, TupsV K H xs ls → xs[n]? = some x → ∃ t l, x = .ref t ∧ ls[n]? = some l ∧ SqT K H t (iV l)
  | 0, _, _, .cons ⟨t, e, q⟩ _, h => by
    cases h
    exact ⟨t, _, e, rfl, q⟩
  | n + 1, _ :: xs, _, .cons _ r, h => tv_get (n := n) r h
theorem tv_len {K : PySem.W.Frag} {H : Hp} {xs : List V} {ls : List (List Int)} (h : TupsV K H xs ls) : xs.length = ls.length := Paired.length h
/-- over a list of tuples of ints: the ones that pass, as they are led -/
theorem lc_tupsL {K : PySem.W.Frag} {a : Addr} {xs : List V} {ls : List (List Int)} {i : Nat} {tt : TT} {te : TE} {vs : List Nat} {σ : L2.St} {H : Hp} {D : Addr} {Qd : Hp → Prop} (g : List Int → List Int) (p : List Int → Bool) (hD : H D = none) (ha : H a = some (.lst xs)) (hx : TupsV K H xs ls) (ln : ls.length ≤ 1000)
    (hw : ∀ x : V, wipe ((wipe σ vs).set i (some x)) vs = wipe σ vs)
    (ht : ∀ (t : Addr) (l : List Int) (H1 : Hp) (Q : Bool → Hp → Prop), l ∈ ls → SqT K H1 t (iV l) → Same H H1 → (∀ H2, Same H1 H2 → Q (p l) H2) → tt ((wipe σ vs).set i (some (.ref t))) H1 Q)
    (he : ∀ (t : Addr) (l : List Int) (H1 : Hp) (Q : VK), l ∈ ls → SqT K H1 t (iV l) → p l = true → Same H H1 → (∀ H2 t2, Same H1 H2 → SqT K H2 t2 (iV (g l)) → Q (.ref t2) H2) → te ((wipe σ vs).set i (some (.ref t))) H1 Q)
    (hd : ∀ H' ys, Same H H' → H' D = some (.lst ys) → TupsV K H' ys ((ls.filter p).map g) → Qd H') : LcW (Itl K a) (gName i) tt te vs σ H D Qd := by
  have lx := tv_len hx
  refine lc_it (walk_list (xs := xs)) (fun n H' => Same H H' ∧ ∃ ys, H' D = some (.lst ys) ∧ TupsV K H' ys (((ls.take n).filter p).map g)) ⟨Same.new hD, [], upd_same, .nil⟩ (fun _ H' _ p => SqL.of (p.1 _ _ ha)) (fun n x H1 H2 hn q y => ?_) fun H' q => ?_
  · obtain ⟨rfl, hy⟩ := y
    obtain ⟨q1, ys, q2, q3⟩ := q
    obtain ⟨t, l, rfl, hl, hT⟩ := tv_get (tv_mono hx q1) hy
    have hm := List.mem_of_getElem? hl
    refine ⟨hw _, ht t l _ _ hm hT q1 fun H2 s2 => ?_⟩
    cases c : p l with
    | true =>
      refine iteT (he t l _ _ hm (tupSame s2 hT) c (q1.trans s2) fun H3 t2 s3 h3 => ?_)
      have le := List.length_filter_le p (ls.take n)
      rw [List.length_take] at le
      have ly := tv_len q3
      rw [List.length_map] at ly
      have hD3 := (s2.trans s3) _ _ q2
      have st : ∀ b u, b ≠ D → H3 b = some u → upd H3 D (.lst (ys ++ [.ref t2])) b = some u := fun b u nb e => by rw [upd_ne nb]; exact e
      have tk : ∀ {b : Addr} {l : List Int}, SqT K H3 b (iV l) → SqT K (upd H3 D (.lst (ys ++ [.ref t2]))) b (iV l) := fun {b l} h => by
        rcases h with (h | ⟨o, h⟩) | h
        · exact .inl (.inl (st _ _ (ne_of h hD3 (by intro z; cases z)) h))
        · exact .inl (.inr ⟨o, st _ _ (ne_of h hD3 (by intro z; cases z)) h⟩)
        · exact .inr h
      refine ⟨ys, hD3, small1000 (by omega), Same.back (q1.trans (s2.trans s3)) hD, ys ++ [.ref t2], upd_same, ?_⟩
      rw [take_filter hl, c, if_pos rfl, List.map_append]
      exact Paired.snoc (Paired.mapP (tv_mono q3 (s2.trans s3)) fun _ _ ⟨t', e, z⟩ => ⟨t', e, tk z⟩) ⟨t2, rfl, tk h3⟩
    | false =>
      refine iteF ⟨q1.trans s2, ys, s2 _ _ q2, ?_⟩
      rw [take_filter hl, c, if_neg Bool.false_ne_true, List.append_nil]
      exact tv_mono q3 s2
  · obtain ⟨q1, ys, q2, q3⟩ := q
    refine hd H' ys q1 q2 ?_
    rw [lx, List.take_length] at q3
    exact q3
/-- over a tuple of tuples of ints -/
theorem lc_tupsT {K : PySem.W.Frag} {a : Addr} {xs : List V} {ls : List (List Int)} {i : Nat} {tt : TT} {te : TE} {vs : List Nat} {σ : L2.St} {H : Hp} {D : Addr} {Qd : Hp → Prop} (g : List Int → List Int) (p : List Int → Bool) (hD : H D = none) (ha : SqT K H a xs) (hx : TupsV K H xs ls) (ln : ls.length ≤ 1000)
    (hw : ∀ x : V, wipe ((wipe σ vs).set i (some x)) vs = wipe σ vs)
    (ht : ∀ (t : Addr) (l : List Int) (H1 : Hp) (Q : Bool → Hp → Prop), l ∈ ls → SqT K H1 t (iV l) → Same H H1 → (∀ H2, Same H1 H2 → Q (p l) H2) → tt ((wipe σ vs).set i (some (.ref t))) H1 Q)
    (he : ∀ (t : Addr) (l : List Int) (H1 : Hp) (Q : VK), l ∈ ls → SqT K H1 t (iV l) → p l = true → Same H H1 → (∀ H2 t2, Same H1 H2 → SqT K H2 t2 (iV (g l)) → Q (.ref t2) H2) → te ((wipe σ vs).set i (some (.ref t))) H1 Q)
    (hd : ∀ H' ys, Same H H' → H' D = some (.lst ys) → TupsV K H' ys ((ls.filter p).map g) → Qd H') : LcW (Itt K a) (gName i) tt te vs σ H D Qd := by
  have lx := tv_len hx
  refine lc_it (walk_tup (xs := xs)) (fun n H' => Same H H' ∧ ∃ ys, H' D = some (.lst ys) ∧ TupsV K H' ys (((ls.take n).filter p).map g)) ⟨Same.new hD, [], upd_same, .nil⟩ (fun _ H' _ p => tupSame p.1 ha) (fun n x H1 H2 hn q y => ?_) fun H' q => ?_
  · obtain ⟨rfl, hy⟩ := y
    obtain ⟨q1, ys, q2, q3⟩ := q
    obtain ⟨t, l, rfl, hl, hT⟩ := tv_get (tv_mono hx q1) hy
    have hm := List.mem_of_getElem? hl
    refine ⟨hw _, ht t l _ _ hm hT q1 fun H2 s2 => ?_⟩
    cases c : p l with
    | true =>
      refine iteT (he t l _ _ hm (tupSame s2 hT) c (q1.trans s2) fun H3 t2 s3 h3 => ?_)
      have le := List.length_filter_le p (ls.take n)
      rw [List.length_take] at le
      have ly := tv_len q3
      rw [List.length_map] at ly
      have hD3 := (s2.trans s3) _ _ q2
      have st : ∀ b u, b ≠ D → H3 b = some u → upd H3 D (.lst (ys ++ [.ref t2])) b = some u := fun b u nb e => by rw [upd_ne nb]; exact e
      have tk : ∀ {b : Addr} {l : List Int}, SqT K H3 b (iV l) → SqT K (upd H3 D (.lst (ys ++ [.ref t2]))) b (iV l) := fun {b l} h => by
        rcases h with (h | ⟨o, h⟩) | h
        · exact .inl (.inl (st _ _ (ne_of h hD3 (by intro z; cases z)) h))
        · exact .inl (.inr ⟨o, st _ _ (ne_of h hD3 (by intro z; cases z)) h⟩)
        · exact .inr h
      refine ⟨ys, hD3, small1000 (by omega), Same.back (q1.trans (s2.trans s3)) hD, ys ++ [.ref t2], upd_same, ?_⟩
      rw [take_filter hl, c, if_pos rfl, List.map_append]
      exact Paired.snoc (Paired.mapP (tv_mono q3 (s2.trans s3)) fun _ _ ⟨t', e, z⟩ => ⟨t', e, tk z⟩) ⟨t2, rfl, tk h3⟩
    | false =>
      refine iteF ⟨q1.trans s2, ys, s2 _ _ q2, ?_⟩
      rw [take_filter hl, c, if_neg Bool.false_ne_true, List.append_nil]
      exact tv_mono q3 s2
  · obtain ⟨q1, ys, q2, q3⟩ := q
    refine hd H' ys q1 q2 ?_
    rw [lx, List.take_length] at q3
    exact q3
theorem inV_ints {k : Int} : ∀ {L : List Int}, inV (.int k) (iV L) = L.contains k
  | [] => rfl
  | d :: L => by
    have ih := inV_ints (k := k) (L := L)
    show (eqV (.int d) (.int k) || inV (.int k) (iV L)) = _
    rw [ih, List.contains_cons]
    congr 1
    show (d == k) = (k == d)
    exact BEq.comm
theorem flat_ints : ∀ {L : List Int}, (iV L).all flatV = true
  | [] => rfl
  | d :: L => by
    show (flatV (.int d) && (iV L).all flatV) = true
    rw [flat_ints]
    rfl
theorem dInt (a b : Int) : decide (V.int a = V.int b) = decide (a = b) := decide_eq_decide.mpr ⟨fun y => V.int.inj y, fun y => by rw [y]⟩
theorem lstSame {K : PySem.W.Frag} {H H' : Hp} {a : Addr} {xs : List V} (s : Same H H') (h : SqL K H a xs) : SqL K H' a xs := s.seq h
abbrev dI (l : List Int) : PyData := .tuple (l.map PyData.int)
structure Shp (n : Nat) (d : PyData) : Prop where
  can : d.canLay0 = true
  dep : d.depth ≤ n
theorem Shp.shaped {n : Nat} {d : PyData} (h : Shp n d) (hn : n ≤ 64) : SeqAt.shaped d = true := by
  rw [SeqAt.shaped, Bool.and_eq_true]
  exact ⟨h.can, decide_eq_true (Nat.le_trans h.dep hn)⟩
theorem Shp.int (i : Int) : Shp 0 (.int i) := ⟨by rw [PyData.canLay0], by rw [PyData.depth]; exact Nat.le_refl _⟩
theorem Shp.bool (b : Bool) : Shp 0 (.bool b) := ⟨by rw [PyData.canLay0], by rw [PyData.depth]; exact Nat.le_refl _⟩
theorem shp_all {α : Type} {f : α → PyData} {n : Nat} (h : ∀ x, Shp n (f x)) : ∀ l : List α, PyData.canLayAll0 (l.map f) = true ∧ PyData.depthAll (l.map f) ≤ n
  | [] => ⟨rfl, by rw [List.map_nil, PyData.depthAll]; exact Nat.zero_le _⟩
  | a :: l => by
    obtain ⟨h1, h2⟩ := shp_all h l
    refine ⟨?_, ?_⟩
    · rw [List.map_cons, PyData.canLayAll0, (h a).can, h1]
      rfl
    · rw [List.map_cons, PyData.depthAll]
      have := (h a).dep
      omega
theorem Shp.lst {α : Type} {f : α → PyData} {n : Nat} (h : ∀ x, Shp n (f x)) (l : List α) : Shp (n + 1) (.list (l.map f)) := by
  obtain ⟨h1, h2⟩ := shp_all h l
  exact ⟨by rw [PyData.canLay0]; exact h1, by rw [PyData.depth]; omega⟩
theorem Shp.tup {α : Type} {f : α → PyData} {n : Nat} (h : ∀ x, Shp n (f x)) (l : List α) : Shp (n + 1) (.tuple (l.map f)) := by
  obtain ⟨h1, h2⟩ := shp_all h l
  exact ⟨by rw [PyData.canLay0]; exact h1, by rw [PyData.depth]; omega⟩
theorem shp_dI (l : List Int) : Shp 1 (dI l) := .tup .int l
theorem eqv_self {n : Nat} {d : PyData} (h : Shp n d) (hn : n ≤ 64) : PyData.eqv d d = true := SeqAt.eqv_refl d h.can
theorem eqv_empty {ds : List PyData} {n : Nat} (h : Shp n (.list ds)) (hn : n ≤ 64) : PyData.eqv (.list ds) (.list []) = decide (ds = []) := by
  cases ds with
  | nil =>
    rw [eqv_self h hn]
    rfl
  | cons d ds =>
    rw [PyData.eqv, decide_eq_false (fun z => nomatch z)]
    exact SeqAt.eqvAll_other_length (by simp)
section
variable {K : PySem.W.Frag} {H : Hp}
theorem dp_ints : ∀ l : List Int, DpAll K H (iV l) (l.map PyData.int)
  | [] => .nil
  | a :: l => .cons (.int a) (dp_ints l)
theorem dp_bools : ∀ l : List Bool, DpAll K H (l.map V.bl) (l.map PyData.bool)
  | [] => .nil
  | a :: l => .cons (.bl a) (dp_bools l)
theorem dp_tups : ∀ {xs : List V} {ls : List (List Int)}, TupsV K H xs ls → DpAll K H xs (ls.map dI)
  | _, _, .nil => .nil
  | _, _, .cons ⟨t, e, h⟩ r => by
    subst e
    exact .cons (.tup h (dp_ints _)) (dp_tups r)
end
def rowOf (N : Nat) (g : Nat → Int) : List Int := (List.range (N + 1)).map g
theorem rowOf_len {N : Nat} {g : Nat → Int} : (rowOf N g).length = N + 1 := by
  unfold rowOf
  rw [List.length_map, List.length_range]
theorem rowOf_get {N j : Nat} {g : Nat → Int} (h : j ≤ N) : (iV (rowOf N g))[j]? = some (.int (g j)) := by
  unfold rowOf
  rw [List.getElem?_map, List.getElem?_map, List.getElem?_range (by omega)]
  rfl
theorem rowOf_congr {N : Nat} {g h : Nat → Int} (e : ∀ k, k ≤ N → g k = h k) : rowOf N g = rowOf N h := by
  unfold rowOf
  refine List.map_congr_left fun k hk => e k ?_
  have := List.mem_range.mp hk
  omega
theorem rowOf_set {N j : Nat} {g : Nat → Int} {v : Int} : (iV (rowOf N g)).set j (.int v) = iV (rowOf N fun k => if k = j then v else g k) := by
  unfold rowOf
  refine List.ext_getElem? fun k => ?_
  rw [List.getElem?_set, List.getElem?_map, List.getElem?_map, List.getElem?_map, List.getElem?_map]
  by_cases c : j = k
  · subst c
    rw [if_pos rfl]
    by_cases d : j < N + 1
    · rw [List.getElem?_range d, if_pos (by rw [List.length_map, List.length_map, List.length_range]; exact d)]
      show _ = some (V.int (if j = j then v else g j))
      rw [if_pos rfl]
    · rw [if_neg (by rw [List.length_map, List.length_map, List.length_range]; exact d), List.getElem?_eq_none (by rw [List.length_range]; omega)]
      rfl
  · rw [if_neg c]
    by_cases d : k < N + 1
    · rw [List.getElem?_range d]
      show some (V.int (g k)) = some (V.int (if k = j then v else g k))
      rw [if_neg fun z => c z.symm]
    · rw [List.getElem?_eq_none (by rw [List.length_range]; omega)]
      rfl
/-- over range(n), each turn with the dice -/
theorem lc_dice {lo : Int} {N i : Nat} {te : TE} {vs : List Nat} {σ : L2.St} {H : Hp} {d D : Addr} {L : List V} {Qd : Hp → Prop} (Pj : Int → Prop) (hD : H D = none) (hd1 : H d = some (.lst L)) (hL : DiceL L) (ln : N ≤ 900)
    (hw : ∀ x : V, wipe ((wipe σ vs).set i (some x)) vs = wipe σ vs)
    (he : ∀ (n : Nat) (H2 : Hp) (L2 : List V) (Q : VK), n < N → But d H H2 → H2 d = some (.lst L2) → DiceL L2 → (∀ (H3 : Hp) (L3 : List V) (j : Int), But d H2 H3 → H3 d = some (.lst L3) → DiceL L3 → Pj j → Q (.int j) H3) → te ((wipe σ vs).set i (some (.int (lo + n)))) H2 Q)
    (hd : ∀ (H' : Hp) (L' : List V) (M : List Int), But d H H' → H' d = some (.lst L') → DiceL L' → H' D = some (.lst (iV M)) → M.length = N → (∀ j ∈ M, Pj j) → Qd H') : LcW (Itr lo N) (gName i) tYes te vs σ H D Qd := by
  have nD : D ≠ d := fun z => by rw [z, hd1] at hD; cases hD
  refine lc_it (walk_range (lo := lo) (n := N)) (fun n H' => ∃ (M : List Int) (L' : List V), M.length = n ∧ (∀ j ∈ M, Pj j) ∧ DiceL L' ∧ H' d = some (.lst L') ∧ H' D = some (.lst (iV M)) ∧ But d H H') ⟨[], L, rfl, (fun _ h => absurd h List.not_mem_nil), hL, ?_, upd_same, (But.refl d H).back hD⟩ (fun _ _ _ _ => trivial) (fun n x H2 H3 hn p y => ?_) fun H' p => ?_
  · rw [upd_ne nD.symm]
    exact hd1
  · obtain ⟨M, L', lM, tM, hL', hd2, hD2, B2⟩ := p
    obtain ⟨rfl, rfl⟩ := y
    refine ⟨hw _, iteT (B := True) (he n _ L' _ hn B2 hd2 hL' fun H3 L3 j B3 hd3 hL3 pj => ?_)⟩
    have hD3 := B3 _ _ nD hD2
    refine ⟨iV M, hD3, small1000 (by rw [List.length_map]; omega), M ++ [j], L3, by rw [List.length_append, lM]; rfl, ?_, hL3, ?_, ?_, (B2.trans B3).back hD⟩
    · intro e he
      rcases List.mem_append.mp he with z | z
      · exact tM e z
      · rw [List.mem_singleton.mp z]
        exact pj
    · rw [upd_ne nD.symm]
      exact hd3
    · rw [upd_same]
      show _ = some (HO.lst (List.map V.int (M ++ [j])))
      rw [List.map_append]
      rfl
  · obtain ⟨M, L', lM, tM, hL', hd2, hD2, B2⟩ := p
    exact hd H' L' M B2 hd2 hL' hD2 lM tM
theorem bits500 {g : Int} (a : 0 ≤ g) (b : g ≤ 1000) : g.natAbs < 2 ^ 500 := Nat.lt_of_le_of_lt (by omega : g.natAbs ≤ 1000) (by decide)
theorem cat_tup {K : PySem.W.Frag} {H : Hp} {a b : Addr} {xs ys : List V} {Q : VK} (ha : SqT K H a xs) (hb : SqT K H b ys) (n : xs.length + ys.length ≤ 1000) (k : ∀ (H' : Hp) (p : Addr), Same H H' → SqT K H' p (xs ++ ys) → Q (.ref p) H') : rCatA K (.ref a) (.ref b) H Q := by
  refine ⟨a, b, xs, ys, rfl, rfl, ha, hb, Nat.le_of_lt (small1000 n), fun e => ?_, fun _ e => ?_, fun _ _ p hp => k _ p (Same.new hp) (SqT.of upd_same)⟩
  · subst e
    exact k H b (Same.refl _) hb
  · subst e
    refine k H a (Same.refl _) ?_
    rw [List.append_nil]
    exact ha
theorem tv_append {K : PySem.W.Frag} {H : Hp} : ∀ {xs ys : List V} {ls ms : List (List Int)}, TupsV K H xs ls → TupsV K H ys ms → TupsV K H (xs ++ ys) (ls ++ ms)
  | _, _, _, _, .nil, h => h
  | _, _, _, _, .cons a r, h => .cons a (tv_append r h)
theorem tv_tail {K : PySem.W.Frag} {H : Hp} {xs : List V} {ls : List (List Int)} (h : TupsV K H xs ls) : TupsV K H xs.tail ls.tail := by
  cases h with
  | nil => exact .nil
  | cons _ r => exact r
theorem none_of {H H1 : Hp} {p : Addr} (s : Same H H1) (h : H1 p = none) : H p = none := by
  cases z : H p with
  | none => rfl
  | some o =>
    rw [s _ _ z] at h
    cases h
theorem i60_small {i : Int} (h0 : 0 ≤ i) (h1 : i ≤ 1000) : i60 (.int i) = true := by
  show (decide (-(10 ^ 60) < i) && decide (i < 10 ^ 60)) = true
  rw [decide_eq_true (by omega), decide_eq_true (by omega)]
  rfl
theorem betw_small {i a b : Int} (h0 : 0 ≤ i) (h1 : i ≤ 1000) (ha : a ≤ i) (hb : i ≤ b) : betw (.int i) a b = true := by
  show (i60 (.int i) && (decide (a ≤ i) && decide (i ≤ b))) = true
  rw [i60_small h0 h1, decide_eq_true ha, decide_eq_true hb]
  rfl
theorem all_true {α : Type} {L : List α} : ((L.map fun _ => true).all id) = true := by
  rw [List.all_map, List.all_eq_true]
  intro _ _
  rfl
theorem any_false {α : Type} {L : List α} : ((L.map fun _ => false).any id) = false := by
  rw [List.any_map, List.any_eq_false]
  intro _ _
  exact Bool.false_ne_true
theorem filter_yes {L : List Int} : L.filter (fun _ => true) = L := List.filter_eq_self.mpr fun _ _ => rfl
theorem tv_but {K : PySem.W.Frag} {d : Addr} {H H' : Hp} {L : List V} {xs : List V} {ls : List (List Int)} (h : TupsV K H xs ls) (B : But d H H') (hd : H d = some (.lst L)) : TupsV K H' xs ls := Paired.mapP h fun _ _ ⟨t, e, q⟩ => ⟨t, e, B.tup hd q⟩
theorem seqBut {K : PySem.W.Frag} {H H' : Hp} {a d : Addr} {xs : List V} {o : HO} (h : SqL K H a xs) (hd : H d = none) (B : But d (upd H d o) H') : SqL K H' a xs := by
  rcases h with (h | ⟨ob, h⟩) | h
  · have ne := ne_of_none h hd
    exact .inl (.inl (B _ _ ne (by rw [upd_ne ne]; exact h)))
  · have ne := ne_of_none h hd
    exact .inl (.inr ⟨ob, B _ _ ne (by rw [upd_ne ne]; exact h)⟩)
  · exact .inr h
/-- right letters -/
structure Lt (L : List Int) : Prop where
  len : L.length ≤ 24
  lo : ∀ d ∈ L, 1 ≤ d
  hi : ∀ d ∈ L, d ≤ 40
theorem Lt.all {L : List Int} (h : Lt L) : (iV L).all (fun x => betw x 1 40) = true := by
  rw [List.all_eq_true]
  intro x hx
  obtain ⟨d, hd, rfl⟩ := List.mem_map.mp hx
  have a := h.lo d hd
  have b := h.hi d hd
  show (i60 (.int d) && (decide (1 ≤ d) && decide (d ≤ 40))) = true
  rw [decide_eq_true a, decide_eq_true b]
  show ((decide (-(10 ^ 60) < d) && decide (d < 10 ^ 60)) && true) = true
  rw [decide_eq_true (by omega), decide_eq_true (by omega)]
  rfl
theorem iV_vk {K : PySem.W.Frag} {H : Hp} {L : List Int} : ∀ x ∈ iV L, Vk K H x := fun x hx => by
  obtain ⟨d, _, rfl⟩ := List.mem_map.mp hx
  exact .int d
theorem Lt.is {K : PySem.W.Frag} {H : Hp} {a : Addr} {L : List Int} (h : Lt L) (s : SqT K H a (iV L)) : LetIs K H (.ref a) true := by
  have q := LetIs.tup s (by rw [List.length_map]; exact h.len) iV_vk
  rw [h.all] at q
  exact q
end K5
namespace K5
open PySem PySem.Spec PyProof.Rows L2 RZ
def RowAt (H : Hp) (x : V) (N : Nat) (M : List Int) : Prop := ∃ r, x = .ref r ∧ H r = some (.lst (iV (rowOf N fun k => (cnt M k : Int))))
theorem RowAt.mono {H H' : Hp} {x : V} {N : Nat} {M : List Int} (h : RowAt H x N M) (s : Same H H') : RowAt H' x N M := by
  obtain ⟨r, e, q⟩ := h
  exact ⟨r, e, s _ _ q⟩
theorem cnt_step {a : Nat} (ha : 1 ≤ a) (M : List Int) (k : Nat) : cnt ((a : Int) :: M) k = cnt M k + (if a ≤ k then (if a % 2 = 1 then cnt M (k - a) else cnt ((a : Int) :: M) (k - a)) else 0) := by
  rw [cnt_cons, Int.toNat_natCast]
  unfold op
  by_cases o : a % 2 = 1
  · rw [if_pos o, if_pos o]
    rfl
  · rw [if_neg o, if_neg o]
    exact opE_eq ha _ _
theorem atI_nat {α : Type} {xs : List α} {j : Nat} {x : α} (h : xs[j]? = some x) : atI xs ((j : Nat) : Int) = some x := by
  have hl := (List.getElem?_eq_some_iff.mp h).1
  unfold atI ixN
  rw [if_pos (by omega), if_pos (by omega), Int.toNat_natCast]
  exact h
theorem atI_last {α : Type} {xs : List α} {x : α} {n : Nat} (hn : xs.length = n + 1) (h : xs[n]? = some x) : atI xs (-1) = some x := by
  unfold atI ixN
  rw [if_neg (by omega), if_pos (by omega), hn, show (-1 + ((n + 1 : Nat) : Int)).toNat = n by omega]
  exact h
theorem ixN_nat {n j : Nat} (h : j < n) : ixN n ((j : Nat) : Int) = some j := by
  unfold ixN
  rw [if_pos (by omega), if_pos (by omega), Int.toNat_natCast]
def spCntW : Sp := fun vs H Q _ => ∃ (r : Addr) (N a : Nat) (M : List Int), vs = [.ref r, .int (a : Int)] ∧ 1 ≤ a ∧ a ≤ 40 ∧ N ≤ 900 ∧ H r = some (.lst (iV (rowOf N fun k => (cnt M k : Int)))) ∧ ∀ H' p, Same H H' → H p = none → H' p = some (.lst (iV (rowOf N fun k => (cnt ((a : Int) :: M) k : Int)))) → Q (.ref p) H'
theorem scCntW : FnScope ["row", "letter", "found", "degree", "former"] ["row", "letter"] (defScope sCntW) := ⟨rfl, rfl, rfl, by decide +kernel, rfl, by decide +kernel, by decide +kernel⟩
def half (a : Nat) (M : List Int) (i : Nat) : Nat → Int := fun k => if k < a + i then (cnt ((a : Int) :: M) k : Int) else (cnt M k : Int)
/-- the rows of counts, from each index on -/
def Cnts (H : Hp) (c : Addr) (L : List Int) (N : Nat) : Prop := ∃ xs : List V, H c = some (.lst xs) ∧ xs.length = L.length + 1 ∧ ∀ i, i ≤ L.length → ∃ x, xs[i]? = some x ∧ RowAt H x N (L.drop i)
theorem Cnts.mono {H H' : Hp} {c : Addr} {L : List Int} {N : Nat} (h : Cnts H c L N) (s : Same H H') : Cnts H' c L N := by
  obtain ⟨xs, h1, h2, h3⟩ := h
  refine ⟨xs, s _ _ h1, h2, fun i hi => ?_⟩
  obtain ⟨x, e, r⟩ := h3 i hi
  exact ⟨x, e, r.mono s⟩
def spSuf (K : PySem.W.Frag) : Sp := fun vs H Q _ => ∃ (a : Addr) (L : List Int) (N : Nat), vs = [.ref a, .int (N : Int)] ∧ SqT K H a (iV L) ∧ L.length ≤ 24 ∧ (∀ d ∈ L, 1 ≤ d ∧ d ≤ 40) ∧ N ≤ 900 ∧ ∀ H' p, Same H H' → H p = none → Cnts H' p L N → Q (.ref p) H'
theorem scSuf : FnScope ["letters", "most", "rows", "letter"] ["letters", "most"] (defScope sSuffix) := ⟨rfl, rfl, rfl, by decide +kernel, rfl, by decide +kernel, by decide +kernel⟩
section
variable {P : Program} {w : World} {K : PySem.W.Frag} {mg : Str → Option Value} {base : Heap}
theorem ok_cntw {f : Addr} {fd : FuncData} (F : Fun K "_counts_with" "_counts_with" sCntW f fd) (T : Txt K mg) : FnOk P w K mg base CX0 1 f fd ["row", "letter"] spCntW := by
  refine F.ok scCntW (fun vs H Q E h => ?_) (fun cdv A outer s H vs Q E hr h => ?_)
  · obtain ⟨r, N, a, M, rfl, _⟩ := h; rfl
  obtain ⟨r, N, a, M, rfl, h1, h40, hN, hr0, k⟩ := h
  refine ⟨_, pss_cons (ps_set (i := 2) scCntW.nd rfl (.inl rfl) (pe_callTy call_list_of (by rfl) T.list bootList (pa_cons (pv 0) pa_nil)))
    (pss_cons (ps_for PassesOwn.never rfl (pi_range2 rfl T.range (pa_cons (pv 1) (pa_cons (pe_callB call_len_seq (by rfl) T.len PySem.boot_len (pa_cons (pv 0) pa_nil)) pa_nil))) (pg_name (i := 3) scCntW.nd rfl (.inl rfl))
      (pss_cons (ps_set (i := 4) scCntW.nd rfl (.inl rfl) (pe_ifExp (pt_cmpR op_eq (pe_op op_mod (pv 1) pe_int) pe_int (nomark _)) (pv 0) (pv 2)))
      (pss_one (ps_asg (pe_op op_add (pe_ix ix_list (pv 2) (pv 3) (fun _ _ => rfl)) (pe_ix ix_list (pv 4) (pe_op op_sub (pv 3) (pv 1)) (fun _ _ => rfl))) (pg_sub (pv 2) (pv 3) set_list)))))
    (pss_one (ps_ret (pv 2)))), ?_⟩
  refine ⟨_, rfl, r, _, rfl, .inl (SqL.of hr0), fun p hp => ?_⟩
  have s0 := Same.new (o := .lst (iV (rowOf N fun k => (cnt M k : Int)))) hp
  have ne : r ≠ p := fun z => by rw [z, hp] at hr0; cases hr0
  have ll : (iV (rowOf N fun k => (cnt M k : Int))).length = N + 1 := by rw [List.length_map, rowOf_len]
  refine ⟨_, rfl, _, rfl, r, _, rfl, .inl (SqL.of (s0 _ _ hr0)), _, _, rfl, ⟨by omega, by omega, by omega, by rw [ll]; omega⟩, for_it (walk_range (lo := (a : Int)) (n := (((iV (rowOf N fun k => (cnt M k : Int))).length : Int) - (a : Int)).toNat))
    (fun i σ H' => (∃ o3 o4, σ = [some (.ref r), some (.int (a : Int)), some (.ref p), o3, o4]) ∧ H' p = some (.lst (iV (rowOf N (half a M i)))) ∧ Same H H') ⟨⟨_, _, rfl⟩, ?_, s0⟩ (fun _ _ _ _ _ => trivial) (fun i x σ H0 H1 hi q y => ?_) fun σ H1 q => ?_⟩
  · rw [upd_same]
    congr 3
    refine rowOf_congr fun k hk => ?_
    unfold half
    by_cases c : k < a + 0
    · rw [if_pos c, cnt_step h1, if_neg (by omega)]
      rfl
    · rw [if_neg c]
  · obtain ⟨⟨o3, o4, rfl⟩, hp1, s1⟩ := q
    obtain ⟨rfl, rfl⟩ := y
    rw [ll] at hi
    have hd : a + i ≤ N := by omega
    have hr1 := s1 _ _ hr0
    have fin : ∀ v : Int, v = (cnt ((a : Int) :: M) (a + i) : Int) → (iV (rowOf N (half a M i))).set (a + i) (.int v) = iV (rowOf N (half a M (i + 1))) := fun v hv => by
      rw [rowOf_set]
      congr 1
      refine rowOf_congr fun k hk => ?_
      unfold half
      by_cases c : k = a + i
      · rw [if_pos c, if_pos (by omega), c, hv]
      · rw [if_neg c]
        by_cases d : k < a + i
        · rw [if_pos d, if_pos (by omega)]
        · rw [if_neg d, if_neg (by omega)]
    have l1 : (iV (rowOf N (half a M i))).length = N + 1 := by rw [List.length_map, rowOf_len]
    have e1 : (a : Int) + (i : Int) = ((a + i : Nat) : Int) := by omega
    have e2 : (a : Int) + (i : Int) - (a : Int) = ((i : Nat) : Int) := by omega
    have g1 : (iV (rowOf N (half a M i)))[a + i]? = some (.int (cnt M (a + i) : Int)) := by
      rw [rowOf_get hd]
      unfold half
      rw [if_neg (by omega)]
    refine ⟨_, rfl, _, _, rfl, rfl, (by show (0 : Int) < 2; decide), rfl, ?_⟩
    have at1 : atI (iV (rowOf N (half a M i))) ((a : Int) + (i : Int)) = some (.int (cnt M (a + i) : Int)) := by
      rw [e1]
      exact atI_nat g1
    have ix1 : ixN (iV (rowOf N (half a M i))).length ((a : Int) + (i : Int)) = some (a + i) := by
      rw [e1, l1]
      exact ixN_nat (by omega)
    refine ⟨_, rfl, ite2 (fun c => ?_) (fun c => ?_)⟩
    · have c := V.int.inj (of_decide_eq_true c)
      have at2 : atI (iV (rowOf N fun k => (cnt M k : Int))) ((a : Int) + (i : Int) - (a : Int)) = some (.int (cnt M i : Int)) := by
        rw [e2]
        exact atI_nat (rowOf_get (by omega))
      refine ⟨_, rfl, _, rfl, _, rfl, p, _, _, _, rfl, rfl, SqL.of hp1, at1, _, rfl, _, rfl, _, rfl, _, _, rfl, rfl, r, _, _, _, rfl, rfl, SqL.of hr1, at2, _, _, rfl, rfl, _, rfl, _, rfl, p, _, _, a + i, rfl, rfl, hp1, ix1, ⟨_, _, rfl⟩, ?_, Same.back s1 hp⟩
      rw [upd_same, fin]
      rw [cnt_step h1, if_pos (by omega), if_pos (by omega), show a + i - a = i by omega]
      omega
    · have c : ¬ ((a : Int) % 2 = 1) := fun z => c (decide_eq_true (congrArg V.int z))
      have at2 : atI (iV (rowOf N (half a M i))) ((a : Int) + (i : Int) - (a : Int)) = some (.int (cnt ((a : Int) :: M) i : Int)) := by
        rw [e2]
        refine atI_nat ?_
        rw [rowOf_get (by omega)]
        unfold half
        rw [if_pos (by omega)]
      refine ⟨_, rfl, _, rfl, _, rfl, p, _, _, _, rfl, rfl, SqL.of hp1, at1, _, rfl, _, rfl, _, rfl, _, _, rfl, rfl, p, _, _, _, rfl, rfl, SqL.of hp1, at2, _, _, rfl, rfl, _, rfl, _, rfl, p, _, _, a + i, rfl, rfl, hp1, ix1, ⟨_, _, rfl⟩, ?_, Same.back s1 hp⟩
      rw [upd_same, fin]
      rw [cnt_step h1 M (a + i), if_pos (by omega), if_neg (by omega), show a + i - a = i by omega]
      omega
  · obtain ⟨⟨o3, o4, rfl⟩, hp1, s1⟩ := q
    refine ⟨_, rfl, k H1 p s1 hp ?_⟩
    rw [hp1]
    congr 3
    refine rowOf_congr fun k hk => ?_
    unfold half
    rw [ll]
    rw [if_pos (by omega)]
theorem ok_suf {fC : Addr} {dC : FuncData} {f : Addr} {fd : FuncData} (F : Fun K "suffix_counts" "suffix_counts" sSuffix f fd) (T : Txt K mg) (gC : mg "_counts_with" = some (.ref fC)) (kC : PySem.W.keepIn K (.ref fC) = true) (bC : Binds K dC ["row", "letter"] [])
    (FC : FnOk P w K mg base CX0 1 fC dC ["row", "letter"] spCntW) : FnOk P w K mg base CX0 2 f fd ["letters", "most"] (spSuf K) := by
  refine F.ok scSuf (fun vs H Q E h => ?_) (fun cdv A outer s H vs Q E hr h => ?_)
  · obtain ⟨a, L, N, rfl, _⟩ := h; rfl
  obtain ⟨a, L, N, rfl, ha, ln, hL, hN, k⟩ := h
  refine ⟨_, pss_cons (ps_set (i := 2) scSuf.nd rfl (.inl rfl) (pe_lst (pa_cons (pe_op op_cat (pe_lst (pa_cons pe_int pa_nil)) (pe_op op_rep (pe_lst (pa_cons pe_int pa_nil)) (pv 1))) pa_nil)))
    (pss_cons (ps_for PassesOwn.never rfl (RT.pi_revA (by rfl) T.reversed (pv 0)) (pg_name (i := 3) scSuf.nd rfl (.inl rfl))
      (pss_one (ps_expr (pe_bm PySem.F.plainAttrs_list PySem.F.slot_list_append PySem.F.type_list_append mt_append (pv 2) (pa_cons (pe_call FC hr (by rfl) gC kC bC .nil pass0 (pa_cons (pe_ix ix_list (pv 2) (pe_un un_neg pe_int) (fun _ _ => rfl)) (pa_cons (pv 3) pa_nil))) pa_nil)))))
    (pss_one (ps_ret (pe_revL (pv 2))))), ?_⟩
  have big : N + 1 ≤ sizeLine := Nat.le_of_lt (small1000 (by omega))
  refine ⟨(by show 1 ≤ sizeLine; decide), fun p1 hp1 => ⟨(by show 1 ≤ sizeLine; decide), fun p2 hp2 => ⟨_, rfl, p2, N, [.int 0], rfl, rfl, upd_same, by omega, by omega, by show 1 * ((N : Nat) : Int).toNat ≤ sizeLine; omega, fun p3 hp3 => ?_⟩⟩⟩
  have s1 := Same.new (o := .lst [.int 1]) hp1
  have s2 := Same.new (o := .lst [.int 0]) hp2
  have s3 := Same.new (o := .lst (List.replicate ((N : Nat) : Int).toNat [V.int 0]).flatten) hp3
  have e0 : [V.int 1] ++ (List.replicate ((N : Nat) : Int).toNat [V.int 0]).flatten = iV (rowOf N fun k => (cnt [] k : Int)) := by
    rw [Int.toNat_natCast, List.flatten_replicate_singleton]
    unfold rowOf
    rw [List.range_succ_eq_map, List.map_cons, iV, List.map_cons, List.map_map, List.map_map]
    show V.int 1 :: _ = V.int 1 :: _
    congr 1
    rw [show ((V.int ∘ fun k => (cnt [] k : Int)) ∘ Nat.succ) = fun _ => V.int 0 from rfl, List.map_const', List.length_range]
    rfl
  refine ⟨p1, p3, _, _, rfl, rfl, (s2.trans s3) _ _ upd_same, upd_same, ?_, fun p4 hp4 => ?_⟩
  · rw [Int.toNat_natCast, List.flatten_replicate_singleton, List.length_replicate]
    show 1 + N ≤ sizeLine
    omega
  rw [e0]
  have s4 := Same.new (o := .lst (iV (rowOf N fun k => (cnt [] k : Int)))) hp4
  refine ⟨(by show 1 ≤ sizeLine; decide), fun p5 hp5 => ?_⟩
  have s5 := Same.new (o := .lst [.ref p4]) hp5
  have s15 := s1.trans (s2.trans (s3.trans (s4.trans s5)))
  have hq5 : H p5 = none := none_of (s1.trans (s2.trans (s3.trans s4))) hp5
  refine ⟨_, rfl, a, iV L, rfl, .inr ⟨tupSame s15 ha, ?_⟩⟩
  have lL : (iV L).length = L.length := List.length_map _
  refine RT.for_ItvT (fun i σ H' => ∃ (o3 : Option V) (xs : List V), σ = [some (.ref a), some (.int (N : Int)), some (.ref p5), o3] ∧ Same H H' ∧ H' p5 = some (.lst xs) ∧ xs.length = i + 1 ∧ ∀ j, j ≤ i → ∃ x, xs[j]? = some x ∧ RowAt H' x N (L.drop (L.length - j)))
    ⟨none, [.ref p4], rfl, s15, upd_same, rfl, fun j hj => ?_⟩ (fun i σ H' q => ?_) (fun i x σ H' hi hx q => ?_) fun σ H' q => ?_
  · obtain rfl : j = 0 := by omega
    exact ⟨_, rfl, p4, rfl, by rw [Nat.sub_zero, List.drop_length]; exact s5 _ _ upd_same⟩
  · obtain ⟨o3, xs, rfl, s6, _⟩ := q
    exact tupSame s6 ha
  · obtain ⟨o3, xs, rfl, s6, hx5, lx, hr6⟩ := q
    rw [lL] at hi hx
    rw [List.getElem?_map] at hx
    obtain ⟨d, hd, rfl⟩ := Option.map_eq_some_iff.mp hx
    have dr := hL d (List.mem_of_getElem? hd)
    obtain ⟨c, rfl⟩ : ∃ c : Nat, d = (c : Int) := ⟨d.toNat, by omega⟩
    obtain ⟨y, hy, r, rfl, hrow⟩ := hr6 i (Nat.le_refl _)
    have ed : L.drop (L.length - (i + 1)) = (c : Int) :: L.drop (L.length - i) := by
      have z : L.length - (i + 1) = L.length - 1 - i := by omega
      have z2 : L.length - i = L.length - 1 - i + 1 := by omega
      rw [z, z2]
      exact List.drop_eq_getElem?_toList_append.trans (by rw [hd]; rfl)
    refine ⟨_, rfl, .inl ⟨rfl, _, SqL.of hx5⟩, _, rfl, _, rfl, p5, xs, _, _, rfl, rfl, SqL.of hx5, atI_last lx hy, _, rfl, r, N, c, _, rfl, by omega, by omega, hN, hrow, fun H7 q s7 hq h7 => ?_⟩
    refine ⟨p5, xs, .ref q, rfl, rfl, s7 _ _ hx5, Nat.lt_of_le_of_lt (by omega : xs.length ≤ 25) (small1000 (by omega)), _, xs ++ [.ref q], rfl, Same.back (s6.trans s7) hq5, upd_same, by rw [List.length_append, lx]; rfl, fun j hj => ?_⟩
    have keep : ∀ {b : Addr} {M : List Int}, H7 b = some (.lst (iV (rowOf N fun k => (cnt M k : Int)))) → upd H7 p5 (.lst (xs ++ [.ref q])) b = some (.lst (iV (rowOf N fun k => (cnt M k : Int)))) := fun {b M} hb => by
      rw [upd_ne (fun z => ?_)]
      · exact hb
      · rw [z, s7 _ _ hx5] at hb
        have := HO.lst.inj (Option.some.inj hb)
        obtain ⟨y0, hy0, r0, rfl, _⟩ := hr6 0 (Nat.zero_le _)
        rw [this, rowOf_get (Nat.zero_le _)] at hy0
        cases hy0
    by_cases cj : j ≤ i
    · obtain ⟨x, hx, r', rfl, hr'⟩ := hr6 j cj
      exact ⟨_, by rw [List.getElem?_append_left (by omega)]; exact hx, r', rfl, keep (s7 _ _ hr')⟩
    · obtain rfl : j = i + 1 := by omega
      refine ⟨.ref q, by rw [List.getElem?_append_right (by omega), lx, Nat.sub_self]; rfl, q, rfl, ?_⟩
      rw [ed]
      exact keep h7
  · obtain ⟨o3, xs, rfl, s6, hx5, lx, hr6⟩ := q
    rw [lL] at lx hr6
    refine ⟨_, rfl, p5, xs, rfl, SqL.of hx5, fun p6 hp6 => ?_⟩
    have s7 := Same.new (o := .lst xs.reverse) hp6
    refine k _ p6 (s6.trans s7) (none_of s6 hp6) ⟨xs.reverse, upd_same, by rw [List.length_reverse, lx], fun i hi => ?_⟩
    obtain ⟨x, hx, rr⟩ := hr6 (L.length - i) (by omega)
    refine ⟨x, ?_, ?_⟩
    · rw [List.getElem?_reverse (by omega), lx, ← hx]
      congr 1
    · rw [show L.length - (L.length - i) = i by omega] at rr
      exact rr.mono s7
end
end K5
namespace K5
open PySem PySem.Spec PyProof.Rows L2 RZ
theorem Lt.pos {L : List Int} (h : Lt L) : Pos1 L := h.lo
theorem Lt.drop {L : List Int} (h : Lt L) (i : Nat) : Pos1 (L.drop i) := fun y hy => h.lo y (List.mem_of_mem_drop hy)
theorem least_len : ∀ (L : List Int) (d : Nat), (least L d).length = L.length
  | [], _ => rfl
  | h :: L, d => by
    show (least L _).length + 1 = L.length + 1
    rw [least_len L]
theorem fst_spec {h : Int} {M : List Int} {r : Nat} (hp : Pos1 (h :: M)) (c : 0 < cnt (h :: M) r) : fstE h M r * h.toNat ≤ r ∧ 0 < cnt M (r - fstE h M r * h.toNat) ∧ ∀ e, e < fstE h M r → cnt M (r - e * h.toNat) = 0 := by
  have hp' : Pos1 M := fun y hy => hp y (List.mem_cons_of_mem _ hy)
  have h1 := hp h List.mem_cons_self
  cases z : (List.range (mx h r + 1)).find? fun e => decide (0 < cnt M (r - e * h.toNat)) with
  | none =>
    have q := List.find?_eq_none.mp z
    have e : wds (h :: M) r = [] := by
      rw [wds_cons, List.flatMap_eq_nil_iff]
      intro x hx
      have := q x hx
      rw [decide_eq_true_eq] at this
      rw [List.map_eq_nil_iff]
      refine List.eq_nil_of_length_eq_zero ?_
      rw [wds_len M _ hp']
      omega
    rw [← wds_len _ _ hp, e] at c
    cases c
  | some e =>
    have f : fstE h M r = e := by
      unfold fstE
      rw [z]
      rfl
    obtain ⟨q1, q2, q3⟩ := List.find?_range_eq_some.mp z
    have em := List.mem_range.mp q2
    rw [f]
    refine ⟨?_, of_decide_eq_true q1, fun k hk => ?_⟩
    · have : e ≤ r / h.toNat := by
        unfold mx at em
        split at em <;> omega
      exact (Nat.le_div_iff_mul_le (by omega)).mp this
    · have := q3 k hk
      rw [Bool.not_eq_true', decide_eq_false_iff_not] at this
      omega
def spLeast (K : PySem.W.Frag) : Sp := fun vs H Q _ => ∃ (a c : Addr) (L : List Int) (N st r : Nat), vs = [.ref a, .ref c, .int (st : Int), .int (r : Int)] ∧ SqT K H a (iV L) ∧ Cnts H c L N ∧ Lt L ∧ N ≤ 900 ∧ st ≤ L.length ∧ r ≤ N ∧ 0 < cnt (L.drop st) r ∧ ∀ H' p, Same H H' → H p = none → H' p = some (.lst (iV (least (L.drop st) r))) → Q (.ref p) H'
theorem scLeast : FnScope ["letters", "counts", "start", "rest", "found", "index", "exponent"] ["letters", "counts", "start", "rest"] (defScope sLeast) := ⟨rfl, rfl, rfl, by decide +kernel, rfl, by decide +kernel, by decide +kernel⟩
/-- a word, or None -/
def WordIs (K : PySem.W.Frag) (H : Hp) (v : V) : Option (List Int) → Prop
  | none => v = .non
  | some w => ∃ t, v = .ref t ∧ SqT K H t (iV w)
theorem WordIs.mono {K : PySem.W.Frag} {H H' : Hp} {v : V} : ∀ {o : Option (List Int)}, WordIs K H v o → Same H H' → WordIs K H' v o
  | none, h, _ => h
  | some w, ⟨t, e, q⟩, s => ⟨t, e, tupSame s q⟩
def spFirst (K : PySem.W.Frag) : Sp := fun vs H Q _ => ∃ (a c : Addr) (L : List Int) (N d : Nat), vs = [.ref a, .ref c, .int (d : Int)] ∧ SqT K H a (iV L) ∧ Cnts H c L N ∧ Lt L ∧ N ≤ 900 ∧ d ≤ N ∧ ∀ H' v, Same H H' → WordIs K H' v (wds L d).head? → Q v H'
theorem scFirst : FnScope ["letters", "counts", "degree"] ["letters", "counts", "degree"] (defScope sFirst) := ⟨rfl, rfl, rfl, by decide +kernel, rfl, by decide +kernel, by decide +kernel⟩
def riseV (o : Option Nat) : Int := match o with
  | some k => ((k + 1 : Nat) : Int)
  | none => 0
def spRise : Sp := fun vs H Q _ => ∃ (r : Addr) (M : List Int) (N g e d : Nat), vs = [.int (g : Int), .ref r, .int (e : Int), .int (d : Int)] ∧ H r = some (.lst (iV (rowOf N fun k => (cnt M k : Int)))) ∧ N ≤ 900 ∧ d ≤ N ∧ 1 ≤ g ∧ g ≤ 40 ∧ e ≤ 1000 ∧ Q (.int (riseV (rise (g : Int) M (e : Int) d))) H
theorem scRise : FnScope ["letter", "counts", "exponent", "rest", "most", "rise"] ["letter", "counts", "exponent", "rest"] (defScope sRise) := ⟨rfl, rfl, rfl, by decide +kernel, rfl, by decide +kernel, by decide +kernel⟩
section
variable {P : Program} {w : World} {K : PySem.W.Frag} {mg : Str → Option Value} {base : Heap}
theorem ok_least {f : Addr} {fd : FuncData} (F : Fun K "_least_exponents" "_least_exponents" sLeast f fd) (T : Txt K mg) : FnOk P w K mg base CX0 1 f fd ["letters", "counts", "start", "rest"] (spLeast K) := by
  refine F.ok scLeast (fun vs H Q E h => ?_) (fun cdv A outer s H vs Q E hr h => ?_)
  · obtain ⟨a, c, L, N, st, r, rfl, _⟩ := h; rfl
  obtain ⟨a, c, L, N, st, r, rfl, ha, hc, hL, hN, hst, hrN, hpos, k⟩ := h
  refine ⟨_, pss_cons (ps_set (i := 4) scLeast.nd rfl (.inl rfl) (pe_lst pa_nil))
    (pss_cons (ps_for PassesOwn.never rfl (pi_range2 rfl T.range (pa_cons (pv 2) (pa_cons (pe_callB call_len_seq (by rfl) T.len PySem.boot_len (pa_cons (pv 0) pa_nil)) pa_nil))) (pg_name (i := 5) scLeast.nd rfl (.inl rfl))
      (pss_cons (ps_set (i := 6) scLeast.nd rfl (.inl rfl) pe_int)
      (pss_cons (ps_while PassesOwn.never (pt_cmpR op_eq (pe_ix ix_list (pe_ix ix_list (pv 1) (pe_op op_add (pv 5) pe_int) (fun _ _ => rfl)) (pv 3) (fun _ _ => rfl)) pe_int (nomark _))
        (pss_cons (ps_aug (i := 6) scLeast.nd rfl (.inl rfl) pe_int ip_add)
        (pss_one (ps_set (i := 3) scLeast.nd rfl (.inl rfl) (pe_op op_sub (pv 3) (pe_ix ix_tup (pv 0) (pv 5) (fun _ _ => rfl)))))))
      (pss_one (ps_expr (pe_bm PySem.F.plainAttrs_list PySem.F.slot_list_append PySem.F.type_list_append mt_append (pv 4) (pa_cons (pv 6) pa_nil)))))))
    (pss_one (ps_ret (pv 4)))), ?_⟩
  have lL : (iV L).length = L.length := List.length_map _
  have h24 := hL.len
  refine ⟨(by show 0 ≤ sizeLine; decide), fun q hq => ?_⟩
  have s0 := Same.new (o := .lst []) hq
  refine ⟨_, rfl, _, rfl, a, _, rfl, .inr (tupSame s0 ha), _, _, rfl, ⟨by omega, by omega, by omega, by rw [lL]; omega⟩, for_it (walk_range (lo := (st : Int)) (n := (((iV L).length : Int) - (st : Int)).toNat))
    (fun i σ H' => ∃ (o5 o6 : Option V) (r' : Nat) (u : List Int), σ = [some (.ref a), some (.ref c), some (.int (st : Int)), some (.int (r' : Int)), some (.ref q), o5, o6] ∧ Same H H' ∧ H' q = some (.lst (iV u)) ∧ u.length = i ∧ u ++ least (L.drop (st + i)) r' = least (L.drop st) r ∧ r' ≤ N ∧ 0 < cnt (L.drop (st + i)) r')
    ⟨_, _, r, [], rfl, s0, upd_same, rfl, rfl, hrN, hpos⟩ (fun _ _ _ _ _ => trivial) (fun i x σ H0 H1 hi q y => ?_) fun σ H1 q => ?_⟩
  · obtain ⟨o5, o6, r', u, rfl, s1, hu, lu, hl, hr', hc'⟩ := q
    obtain ⟨rfl, rfl⟩ := y
    rw [lL] at hi
    have hj : st + i < L.length := by omega
    have ed : L.drop (st + i) = L[st + i] :: L.drop (st + i + 1) := List.drop_eq_getElem_cons hj
    have hm : L[st + i] ∈ L := List.getElem_mem hj
    have b1 := hL.lo _ hm
    have b2 := hL.hi _ hm
    have gL : (iV L)[st + i]? = some (.int L[st + i]) := by
      rw [List.getElem?_map, List.getElem?_eq_getElem hj]
      rfl
    generalize L[st + i] = hh at *
    obtain ⟨g, rfl⟩ : ∃ g : Nat, hh = (g : Int) := ⟨hh.toNat, by omega⟩
    have hp : Pos1 ((g : Int) :: L.drop (st + i + 1)) := by rw [← ed]; exact hL.drop _
    rw [ed] at hc' hl
    obtain ⟨f1, f2, f3⟩ := fst_spec hp hc'
    have el : least ((g : Int) :: L.drop (st + i + 1)) r' = (fstE (g : Int) (L.drop (st + i + 1)) r' : Int) :: least (L.drop (st + i + 1)) (r' - fstE (g : Int) (L.drop (st + i + 1)) r' * (g : Int).toNat) := rfl
    rw [el] at hl
    rw [Int.toNat_natCast] at f1 f2 f3 hl
    generalize fstE (g : Int) (L.drop (st + i + 1)) r' = E0 at *
    have e1 : (st : Int) + (i : Int) = ((st + i : Nat) : Int) := by omega
    refine ⟨fun m σ H' => H' = H1 ∧ ∃ e : Nat, m + e = E0 ∧ σ = [some (.ref a), some (.ref c), some (.int (st : Int)), some (.int ((r' - e * g : Nat) : Int)), some (.ref q), some (.int ((st : Int) + (i : Int))), some (.int (e : Int))], ⟨E0, rfl, 0, rfl, by rw [Nat.zero_mul]; rfl⟩, fun m σ H' hw => ?_⟩
    obtain ⟨rfl, e, he, rfl⟩ := hw
    obtain ⟨xs, hx, lx, hrow⟩ := hc.mono s1
    obtain ⟨x, gx, rr, rfl, hrr⟩ := hrow (st + i + 1) (by omega)
    have eg : e * g ≤ E0 * g := Nat.mul_le_mul_right g (by omega)
    refine ⟨_, rfl, _, rfl, _, _, rfl, rfl, c, xs, _, _, rfl, rfl, SqL.of hx, ?_, _, rfl, rr, _, _, _, rfl, rfl, SqL.of hrr, atI_nat (rowOf_get (by omega)), rfl, _, rfl, ?_⟩
    · show atI xs ((st : Int) + (i : Int) + 1) = _
      rw [show (st : Int) + (i : Int) + 1 = ((st + i + 1 : Nat) : Int) by omega]
      exact atI_nat gx
    refine ite2 (fun ct => ?_) (fun ct => ?_)
    · have ct := V.int.inj (of_decide_eq_true ct)
      have ne : e < E0 := by
        rcases Nat.lt_or_ge e E0 with z | z
        · exact z
        · obtain rfl : e = E0 := by omega
          omega
      have eg2 : (e + 1) * g ≤ E0 * g := Nat.mul_le_mul_right g (by omega)
      have E1 : ((r' - e * g : Nat) : Int) - (g : Int) = ((r' - (e + 1) * g : Nat) : Int) := by
        rw [Nat.add_mul, Nat.one_mul] at eg2 ⊢
        omega
      refine ⟨fun σ' H'' => H'' = H' ∧ σ' = [some (.ref a), some (.ref c), some (.int (st : Int)), some (.int ((r' - (e + 1) * g : Nat) : Int)), some (.ref q), some (.int ((st : Int) + (i : Int))), some (.int ((e + 1 : Nat) : Int))], fun σ' H'' hh => ⟨m - 1, by omega, hh.1, e + 1, by omega, hh.2⟩, ?_⟩
      refine ⟨_, rfl, _, _, rfl, rfl, _, rfl, _, rfl, _, rfl, a, iV L, _, _, rfl, rfl, tupSame s1 ha, by rw [e1]; exact atI_nat gL, _, _, rfl, rfl, rfl, ?_⟩
      rw [← E1]
      rfl
    · have ct : ¬ ((cnt (L.drop (st + i + 1)) (r' - e * g) : Int) = 0) := fun z => ct (decide_eq_true (congrArg V.int z))
      obtain rfl : e = E0 := by
        rcases Nat.lt_or_ge e E0 with z | z
        · have := f3 e z
          omega
        · omega
      refine ⟨_, rfl, .inl ⟨rfl, _, SqL.of hu⟩, _, rfl, q, _, _, rfl, rfl, hu, ?_, _, _, r' - e * g, u ++ [(e : Int)], rfl, Same.back s1 hq, ?_, ?_, ?_, by omega, f2⟩
      · exact Nat.lt_of_le_of_lt (by rw [List.length_map]; omega : (iV u).length ≤ 24) (small1000 (by omega))
      · rw [upd_same]
        show _ = some (HO.lst (List.map V.int (u ++ [(e : Int)])))
        rw [List.map_append]
        rfl
      · rw [List.length_append, lu]
        rfl
      · rw [← hl, List.append_assoc]
        rfl
  · obtain ⟨o5, o6, r', u, rfl, s1, hu, lu, hl, hr', hc'⟩ := q
    rw [lL] at lu hl
    have z : L.drop (st + ((L.length : Int) - (st : Int)).toNat) = [] := List.drop_eq_nil_of_le (by omega)
    rw [z] at hl
    have hl : u ++ [] = _ := hl
    rw [List.append_nil] at hl
    subst hl
    exact ⟨_, rfl, k H1 q s1 hq hu⟩
theorem ok_first {fE : Addr} {dE : FuncData} {f : Addr} {fd : FuncData} (F : Fun K "first_word" "first_word" sFirst f fd) (T : Txt K mg) (gE : mg "_least_exponents" = some (.ref fE)) (kE : PySem.W.keepIn K (.ref fE) = true) (bE : Binds K dE ["letters", "counts", "start", "rest"] [])
    (FE : FnOk P w K mg base CX0 1 fE dE ["letters", "counts", "start", "rest"] (spLeast K)) : FnOk P w K mg base CX0 2 f fd ["letters", "counts", "degree"] (spFirst K) := by
  refine F.ok scFirst (fun vs H Q E h => ?_) (fun cdv A outer s H vs Q E hr h => ?_)
  · obtain ⟨a, c, L, N, d, rfl, _⟩ := h; rfl
  obtain ⟨a, c, L, N, d, rfl, ha, hc, hL, hN, hd, k⟩ := h
  refine ⟨_, pss_cons (ps_if (pt_cmpR op_eq (pe_ix ix_list (pe_ix ix_list (pv 1) pe_int (fun _ _ => rfl)) (pv 2) (fun _ _ => rfl)) pe_int (nomark _)) (pss_one (ps_ret pe_non)) pss_nil)
    (pss_one (ps_ret (pe_callTy call_tuple_of (by rfl) T.tuple bootTuple (pa_cons (pe_call FE hr (by rfl) gE kE bE .nil pass0 (pa_cons (pv 0) (pa_cons (pv 1) (pa_cons pe_int (pa_cons (pv 2) pa_nil))))) pa_nil)))), ?_⟩
  obtain ⟨xs, hx, lx, hrow⟩ := id hc
  obtain ⟨x, gx, rr, rfl, hrr⟩ := hrow 0 (Nat.zero_le _)
  rw [List.drop_zero] at hrr
  have hh := wds_head (d := d) hL.pos
  refine ⟨_, rfl, c, xs, _, _, rfl, rfl, SqL.of hx, atI_nat gx, _, rfl, rr, _, _, _, rfl, rfl, SqL.of hrr, atI_nat (rowOf_get hd), rfl, _, rfl, ite2 (fun ct => ?_) (fun ct => ?_)⟩
  · have ct := V.int.inj (of_decide_eq_true ct)
    rw [if_neg (by omega)] at hh
    refine k H _ (Same.refl _) ?_
    rw [hh]
    rfl
  · have ct : ¬ ((cnt L d : Int) = 0) := fun z => ct (decide_eq_true (congrArg V.int z))
    rw [if_pos (by omega)] at hh
    refine ⟨_, rfl, _, rfl, _, rfl, a, c, L, N, 0, d, rfl, ha, hc, hL, hN, Nat.zero_le _, hd, by rw [List.drop_zero]; omega, fun H1 p s1 hp h1 => ?_⟩
    rw [List.drop_zero] at h1
    refine ⟨p, _, rfl, .inl ⟨SqL.of h1, fun t ht => ?_⟩⟩
    refine k _ _ (s1.trans (Same.new ht)) ?_
    rw [hh]
    exact ⟨t, rfl, SqT.of upd_same⟩
theorem ok_rise {f : Addr} {fd : FuncData} (F : Fun K "_least_rise" "_least_rise" sRise f fd) (T : Txt K mg) : FnOk P w K mg base CX0 1 f fd ["letter", "counts", "exponent", "rest"] spRise := by
  refine F.ok scRise (fun vs H Q E h => ?_) (fun cdv A outer s H vs Q E hr h => ?_)
  · obtain ⟨r, M, N, g, e, d, rfl, _⟩ := h; rfl
  obtain ⟨r, M, N, g, e, d, rfl, hr0, hN, hd, hg, hg4, he, k⟩ := h
  refine ⟨_, pss_cons (ps_set (i := 4) scRise.nd rfl (.inl rfl) (pe_op op_fdiv (pv 3) (pv 0)))
    (C8.pss_cut (ps_if (pt_cmpR op_eq (pe_op op_mod (pv 0) pe_int) pe_int (nomark _)) (pss_one (ps_set (i := 4) scRise.nd rfl (.inl rfl) (pe_callB (call_min2 rfl) (by rfl) T.min bootMin (pa_cons (pv 4) (pa_cons (pe_op op_sub pe_int (pv 2)) pa_nil))))) pss_nil)
    (pss_cons (ps_for PassesOwn.never rfl (pi_range2 rfl T.range (pa_cons pe_int (pa_cons (pe_op op_add (pv 4) pe_int) pa_nil))) (pg_name (i := 5) scRise.nd rfl (.inl rfl))
      (pss_one (ps_if (pt_cmpR op_gt (pe_ix ix_list (pv 1) (pe_op op_sub (pv 3) (pe_op op_mul (pv 5) (pv 0))) (fun _ _ => rfl)) pe_int (nomark _)) (pss_one (ps_ret (pv 5))) pss_nil)))
    (pss_one (ps_ret pe_int)))), ?_⟩
  have dv : (d : Int) / (g : Int) = ((d / g : Nat) : Int) := rfl
  have dl : d / g ≤ d := Nat.div_le_self _ _
  refine ⟨_, rfl, _, rfl, _, _, rfl, rfl, ⟨by omega, by omega⟩, fun σ' H' => H' = H ∧ ∃ mo : Int, σ' = [some (.int (g : Int)), some (.ref r), some (.int (e : Int)), some (.int (d : Int)), some (.int mo), none] ∧ mo.toNat = mr (g : Int) (e : Int) d ∧ -1000 ≤ mo ∧ mo ≤ 1000, ?_, ?_⟩
  · refine ⟨_, rfl, _, _, rfl, rfl, (by show (0 : Int) < 2; decide), rfl, _, rfl, ite2 (fun ct => ?_) (fun ct => ?_)⟩
    · have ct := V.int.inj (of_decide_eq_true ct)
      refine ⟨_, rfl, _, rfl, _, _, rfl, rfl, _, _, rfl, rfl, _, rfl, ?_⟩
      rw [dv]
      unfold mr
      rw [Int.toNat_natCast, if_pos (show g % 2 = 1 by omega)]
      generalize d / g = z at *
      refine ⟨?_, ?_, ?_⟩
      · split <;> omega
      · split <;> omega
      · split <;> omega
    · have ct : ¬ ((g : Int) % 2 = 1) := fun z => ct (decide_eq_true (congrArg V.int z))
      refine ⟨rfl, _, rfl, ?_⟩
      rw [dv]
      unfold mr
      rw [show ((g : Nat) : Int).toNat = g from rfl, show (((d / g : Nat)) : Int).toNat = d / g from rfl, if_neg (show ¬ g % 2 = 1 by omega)]
      generalize d / g = z at *
      omega
  · rintro σ' H' ⟨rfl, mo, rfl, hm, m1, m2⟩
    have ml : mr (g : Int) (e : Int) d * g ≤ d := by
      have : mr (g : Int) (e : Int) d ≤ d / g := by
        unfold mr
        rw [Int.toNat_natCast]
        split <;> omega
      exact (Nat.le_div_iff_mul_le (by omega)).mp this
    refine ⟨_, rfl, _, _, rfl, rfl, _, _, rfl, ⟨by decide, by decide, by omega, by omega⟩, for_it (walk_range (lo := 1) (n := (mo + 1 - 1).toNat)) (fun i σ H1 => H1 = H' ∧ (∃ o5, σ = [some (.int (g : Int)), some (.ref r), some (.int (e : Int)), some (.int (d : Int)), some (.int mo), o5]) ∧ ∀ k, k < i → cnt M (d - (k + 1) * g) = 0)
      ⟨rfl, ⟨_, rfl⟩, fun k hk => absurd hk (Nat.not_lt_zero _)⟩ (fun _ _ _ _ _ => trivial) (fun i x σ H0 H1 hi q y => ?_) fun σ H1 q => ?_⟩
    · obtain ⟨rfl, ⟨o5, rfl⟩, hz⟩ := q
      obtain ⟨rfl, rfl⟩ := y
      have hi : i < mr (g : Int) (e : Int) d := by
        rw [← hm]
        omega
      have il : (i + 1) * g ≤ d := Nat.le_trans (Nat.mul_le_mul_right g (by omega)) ml
      have ex : (d : Int) - (1 + (i : Int)) * (g : Int) = ((d - (i + 1) * g : Nat) : Int) := by
        have : (1 + (i : Int)) * (g : Int) = (((i + 1) * g : Nat) : Int) := by
          rw [Int.natCast_mul, Int.natCast_add, Int.add_comm]
          rfl
        rw [this]
        omega
      refine ⟨_, rfl, _, rfl, _, rfl, _, rfl, _, _, rfl, rfl, .inr ⟨by omega, by omega⟩, _, _, rfl, rfl, r, _, _, _, rfl, rfl, SqL.of hr0, by rw [ex]; exact atI_nat (rowOf_get (by omega)), _, _, rfl, rfl, _, rfl, ite2 (fun ct => ?_) (fun ct => ?_)⟩
      · have ct := of_decide_eq_true ct
        refine ⟨_, rfl, ?_⟩
        have e1 : rise (g : Int) M (e : Int) d = some i := by
          unfold rise
          rw [List.find?_range_eq_some]
          refine ⟨decide_eq_true ?_, List.mem_range.mpr hi, fun k hk => ?_⟩
          · rw [Int.toNat_natCast]
            omega
          · rw [Int.toNat_natCast, hz k hk]
            rfl
        rw [e1] at k
        have e2 : riseV (some i) = 1 + (i : Int) := by
          show (((i + 1 : Nat)) : Int) = _
          omega
        rw [e2] at k
        exact k
      · have ct : ¬ _ := fun z => ct (decide_eq_true z)
        refine ⟨rfl, ⟨_, rfl⟩, fun k hk => ?_⟩
        rcases Nat.lt_or_ge k i with z | z
        · exact hz k z
        · obtain rfl : k = i := by omega
          omega
    · obtain ⟨rfl, ⟨o5, rfl⟩, hz⟩ := q
      have e1 : rise (g : Int) M (e : Int) d = none := by
        unfold rise
        rw [List.find?_eq_none]
        intro x hx
        have := List.mem_range.mp hx
        rw [Int.toNat_natCast, hz x (by omega)]
        exact Bool.false_ne_true
      rw [e1] at k
      exact k
end
end K5
namespace K5
open PySem PySem.Spec PyProof.Rows L2 RZ
theorem nxt_pre : ∀ (j : Nat) (L w : List Int) {v : List Int}, w.length = L.length → j ≤ L.length → nxt (L.drop j) (w.drop j) = some v → nxt L w = some (w.take j ++ v)
  | 0, L, w, v, _, _, h => h
  | j + 1, h :: L, e :: w, v, hl, hj, q => by
    have ih := nxt_pre j L w (Nat.succ.inj hl) (Nat.le_of_succ_le_succ hj) q
    show (match nxt L w with
      | some v => some (e :: v)
      | none => _) = some (e :: (w.take j ++ v))
    rw [ih]
theorem dg_drop : ∀ (j : Nat) (L w : List Int), Pos1 L → (∀ e ∈ w, 0 ≤ e) → 0 ≤ dg (L.drop j) (w.drop j) ∧ dg (L.drop j) (w.drop j) ≤ dg L w
  | j, [], w, _, _ => by
    rw [List.drop_nil]
    exact ⟨Int.le_refl _, Int.le_refl _⟩
  | 0, h :: L, [], _, _ => ⟨Int.le_refl _, Int.le_refl _⟩
  | j + 1, h :: L, [], _, _ => by
    rw [List.drop_nil]
    show 0 ≤ dg (L.drop j) [] ∧ dg (L.drop j) [] ≤ 0
    cases L.drop j <;> exact ⟨Int.le_refl _, Int.le_refl _⟩
  | 0, h :: L, e :: w, hp, he => by
    have ih := dg_drop 0 L w (fun y hy => hp y (List.mem_cons_of_mem _ hy)) fun y hy => he y (List.mem_cons_of_mem _ hy)
    have h1 := hp h List.mem_cons_self
    have h2 := he e List.mem_cons_self
    refine ⟨?_, Int.le_refl _⟩
    show 0 ≤ h * e + dg L w
    have := Int.mul_nonneg (show 0 ≤ h by omega) h2
    have q : 0 ≤ dg L w := ih.1
    omega
  | j + 1, h :: L, e :: w, hp, he => by
    have ih := dg_drop j L w (fun y hy => hp y (List.mem_cons_of_mem _ hy)) fun y hy => he y (List.mem_cons_of_mem _ hy)
    have h1 := hp h List.mem_cons_self
    have h2 := he e List.mem_cons_self
    have := Int.mul_nonneg (show 0 ≤ h by omega) h2
    refine ⟨ih.1, ?_⟩
    show dg (L.drop j) (w.drop j) ≤ h * e + dg L w
    have := ih.2
    omega
def spNext (K : PySem.W.Frag) : Sp := fun vs H Q _ => ∃ (a c b : Addr) (L w : List Int) (N d : Nat), vs = [.ref a, .ref c, .ref b] ∧ SqT K H a (iV L) ∧ Cnts H c L N ∧ Lt L ∧ N ≤ 900 ∧ SqT K H b (iV w) ∧ Wo L w d ∧ (∀ e ∈ w, 0 ≤ e ∧ e ≤ d) ∧ d ≤ N ∧ ∀ H' v, Same H H' → WordIs K H' v (nxt L w) → Q v H'
theorem scNext : FnScope ["letters", "counts", "word", "rest", "index", "rise", "tail"] ["letters", "counts", "word"] (defScope sNext) := ⟨rfl, rfl, rfl, by decide +kernel, rfl, by decide +kernel, by decide +kernel⟩
section
variable {P : Program} {w : World} {K : PySem.W.Frag} {mg : Str → Option Value} {base : Heap}
theorem ok_next {fE fR : Addr} {dE dR : FuncData} {f : Addr} {fd : FuncData} (F : Fun K "next_word" "next_word" sNext f fd) (T : Txt K mg) (gR : mg "_least_rise" = some (.ref fR)) (kR : PySem.W.keepIn K (.ref fR) = true) (bR : Binds K dR ["letter", "counts", "exponent", "rest"] [])
    (FR : FnOk P w K mg base CX0 1 fR dR ["letter", "counts", "exponent", "rest"] spRise) (gE : mg "_least_exponents" = some (.ref fE)) (kE : PySem.W.keepIn K (.ref fE) = true) (bE : Binds K dE ["letters", "counts", "start", "rest"] [])
    (FE : FnOk P w K mg base CX0 1 fE dE ["letters", "counts", "start", "rest"] (spLeast K)) : FnOk P w K mg base CX0 2 f fd ["letters", "counts", "word"] (spNext K) := by
  refine F.ok scNext (fun vs H Q E h => ?_) (fun cdv A outer s H vs Q E hr h => ?_)
  · obtain ⟨a, c, b, L, w, N, d, rfl, _⟩ := h; rfl
  obtain ⟨a, c, b, L, u, N, d, rfl, ha, hc, hL, hN, hb, hw, hu, hd, k⟩ := h
  refine ⟨_, pss_cons (ps_set (i := 3) scNext.nd rfl (.inl rfl) pe_int)
    (pss_cons (ps_for PassesOwn.never rfl (pi_revR (by rfl) T.reversed (prg_1 (by rfl) T.range (pe_callB call_len_seq (by rfl) T.len PySem.boot_len (pa_cons (pv 0) pa_nil)))) (pg_name (i := 4) scNext.nd rfl (.inl rfl))
      (pss_cons (ps_set (i := 5) scNext.nd rfl (.inl rfl) (pe_call FR hr (by rfl) gR kR bR .nil pass0 (pa_cons (pe_ix ix_tup (pv 0) (pv 4) (fun _ _ => rfl)) (pa_cons (pe_ix ix_list (pv 1) (pe_op op_add (pv 4) pe_int) (fun _ _ => rfl)) (pa_cons (pe_ix ix_tup (pv 2) (pv 4) (fun _ _ => rfl)) (pa_cons (pv 3) pa_nil))))))
      (pss_cons (ps_if (pt_cmpR op_gt (pv 5) pe_int (nomark _))
        (pss_cons (ps_set (i := 3) scNext.nd rfl (.inl rfl) (pe_op op_sub (pv 3) (pe_op op_mul (pv 5) (pe_ix ix_tup (pv 0) (pv 4) (fun _ _ => rfl)))))
        (pss_cons (ps_set (i := 6) scNext.nd rfl (.inl rfl) (pe_call FE hr (by rfl) gE kE bE .nil pass0 (pa_cons (pv 0) (pa_cons (pv 1) (pa_cons (pe_op op_add (pv 4) pe_int) (pa_cons (pv 3) pa_nil))))))
        (pss_one (ps_ret (pe_op op_catA (pe_op op_catA (pe_slice sl_tupA (pv 2) po_none (po_some (pv 4))) (pe_tup (pa_cons (pe_op op_add (pe_ix ix_tup (pv 2) (pv 4) (fun _ _ => rfl)) (pv 5)) pa_nil))) (pe_callTy call_tuple_of (by rfl) T.tuple bootTuple (pa_cons (pv 6) pa_nil)))))))
        pss_nil)
      (pss_one (ps_set (i := 3) scNext.nd rfl (.inl rfl) (pe_op op_add (pv 3) (pe_op op_mul (pe_ix ix_tup (pv 2) (pv 4) (fun _ _ => rfl)) (pe_ix ix_tup (pv 0) (pv 4) (fun _ _ => rfl)))))))))
    (pss_one (ps_ret pe_non))), ?_⟩
  have lL : (iV L).length = L.length := List.length_map _
  have h24 := hL.len
  have hn : ∀ e ∈ u, 0 ≤ e := fun e he => (hu e he).1
  refine ⟨_, rfl, a, _, rfl, .inr ha, _, rfl, by decide, by decide, by omega, by rw [lL]; omega, for_rangeC (c := -1) (fun i σ H' => H' = H ∧ (∃ o4 o5 o6, σ = [some (.ref a), some (.ref c), some (.ref b), some (.int (dg (L.drop (L.length - i)) (u.drop (L.length - i)))), o4, o5, o6]) ∧ nxt (L.drop (L.length - i)) (u.drop (L.length - i)) = none)
    ⟨rfl, ⟨none, none, none, ?_⟩, ?_⟩ (fun i σ H1 hi q => ?_) fun σ H1 q => ?_⟩
  · rw [Nat.sub_zero, List.drop_length]
    rfl
  · rw [Nat.sub_zero, List.drop_length]
    rfl
  · obtain ⟨rfl, ⟨o4, o5, o6, rfl⟩, hz⟩ := q
    rw [lL] at hi
    have ei : (0 + ((((iV L).length : Int) - 0).toNat : Int) - 1) + (i : Int) * (-1) = ((L.length - 1 - i : Nat) : Int) := by
      rw [lL]
      omega
    rw [ei]
    have hjL : L.length - 1 - i < L.length := by omega
    have ez : L.length - i = L.length - 1 - i + 1 := by omega
    have ez1 : L.length - (i + 1) = L.length - 1 - i := by omega
    rw [ez] at hz
    rw [ez, ez1]
    generalize L.length - 1 - i = j at *
    have hju : j < u.length := by rw [hw.len]; exact hjL
    have dL : L.drop j = L[j] :: L.drop (j + 1) := List.drop_eq_getElem_cons hjL
    have du : u.drop j = u[j] :: u.drop (j + 1) := List.drop_eq_getElem_cons hju
    have b1 := hL.lo _ (List.getElem_mem hjL)
    have b2 := hL.hi _ (List.getElem_mem hjL)
    have b3 := hu _ (List.getElem_mem hju)
    have gL : (iV L)[j]? = some (.int L[j]) := by
      rw [List.getElem?_map, List.getElem?_eq_getElem hjL]
      rfl
    have gu : (iV u)[j]? = some (.int u[j]) := by
      rw [List.getElem?_map, List.getElem?_eq_getElem hju]
      rfl
    have dd := dg_drop (j + 1) L u hL.pos hn
    have pre := nxt_pre j L u (v := [] ) hw.len (Nat.le_of_lt hjL)
    have npre : ∀ v, nxt (L.drop j) (u.drop j) = some v → nxt L u = some (u.take j ++ v) := fun v => nxt_pre j L u hw.len (Nat.le_of_lt hjL)
    rw [hw.deg] at dd
    rw [dL, du] at npre ⊢
    generalize L[j] = hh at *
    generalize u[j] = ee at *
    obtain ⟨g, rfl⟩ : ∃ g : Nat, hh = (g : Int) := ⟨hh.toNat, by omega⟩
    obtain ⟨e, rfl⟩ : ∃ e : Nat, ee = (e : Int) := ⟨ee.toNat, by omega⟩
    have nx0 : nxt ((g : Int) :: L.drop (j + 1)) ((e : Int) :: u.drop (j + 1)) = (rise (g : Int) (L.drop (j + 1)) (e : Int) (dg (L.drop (j + 1)) (u.drop (j + 1))).toNat).map fun k => ((e : Int) + (k + 1 : Nat)) :: least (L.drop (j + 1)) ((dg (L.drop (j + 1)) (u.drop (j + 1))).toNat - (k + 1) * (g : Int).toNat) := by
      show (match nxt (L.drop (j + 1)) (u.drop (j + 1)) with
        | some v => some ((e : Int) :: v)
        | none => _) = _
      rw [hz]
    have dg0 : dg ((g : Int) :: L.drop (j + 1)) ((e : Int) :: u.drop (j + 1)) = (g : Int) * (e : Int) + dg (L.drop (j + 1)) (u.drop (j + 1)) := rfl
    rw [nx0] at npre ⊢
    rw [dg0]
    rw [Int.toNat_natCast] at npre ⊢
    generalize dg (L.drop (j + 1)) (u.drop (j + 1)) = rs at *
    obtain ⟨r, rfl⟩ : ∃ r : Nat, rs = (r : Int) := ⟨rs.toNat, by omega⟩
    rw [Int.toNat_natCast] at npre ⊢
    obtain ⟨xs, hx, lx, hrow⟩ := id hc
    obtain ⟨x, gx, rr, rfl, hrr⟩ := hrow (j + 1) (by omega)
    refine ⟨_, rfl, _, rfl, a, iV L, _, _, rfl, rfl, ha, atI_nat gL, _, rfl, _, rfl, _, _, rfl, rfl, c, xs, _, _, rfl, rfl, SqL.of hx, by rw [show ((j : Nat) : Int) + 1 = ((j + 1 : Nat) : Int) from rfl]; exact atI_nat gx, _, rfl, _, rfl, b, iV u, _, _, rfl, rfl, hb, atI_nat gu, _, rfl, rr, _, N, g, e, r, rfl, hrr, hN, by omega, by omega, by omega, by omega, ?_⟩
    refine ⟨_, rfl, _, _, rfl, rfl, _, rfl, ite2 (fun ct => ?_) (fun ct => ?_)⟩
    · have ct := of_decide_eq_true ct
      cases z : rise (g : Int) (L.drop (j + 1)) (e : Int) r with
      | none =>
        rw [z] at ct
        exact absurd ct (by decide)
      | some kk =>
        obtain ⟨q1, q2, q3⟩ := List.find?_range_eq_some.mp z
        have q1 := of_decide_eq_true q1
        rw [Int.toNat_natCast] at q1
        have q2 := List.mem_range.mp q2
        have il : (kk + 1) * g ≤ r := by
          have : kk + 1 ≤ r / g := by
            unfold mr at q2
            rw [Int.toNat_natCast] at q2
            split at q2 <;> omega
          exact (Nat.le_div_iff_mul_le (by omega)).mp this
        have er : riseV (some kk) = ((kk + 1 : Nat) : Int) := rfl
        have ex : (r : Int) - ((kk + 1 : Nat) : Int) * (g : Int) = ((r - (kk + 1) * g : Nat) : Int) := by
          rw [← Int.natCast_mul]
          omega
        rw [z] at npre
        rw [er]
        refine ⟨_, rfl, _, rfl, _, rfl, _, rfl, a, iV L, _, _, rfl, rfl, ha, atI_nat gL, _, _, rfl, rfl, .inr ⟨by omega, by omega⟩, _, _, rfl, rfl, ?_⟩
        refine ⟨_, rfl, _, rfl, _, rfl, _, _, rfl, rfl, _, rfl, a, c, L, N, j + 1, r - (kk + 1) * g, by rw [← ex]; rfl, ha, hc, hL, hN, by omega, by omega, q1, fun H2 p s2 hp h2 => ?_⟩
        have lu : (iV u).length = u.length := List.length_map _
        have cu : cutV (iV u) none (some ((j : Nat) : Int)) = iV (u.take j) := by
          unfold cutV
          have e1 : HT.sIx (iV u).length 0 none = 0 := rfl
          have e2 : HT.sIx (iV u).length (iV u).length (some ((j : Nat) : Int)) = j := by
            rw [HT.sIx_nat]
            omega
          rw [e1, e2, List.drop_zero, Nat.sub_zero]
          exact List.map_take.symm
        refine ⟨_, rfl, _, rfl, _, rfl, b, iV u, rfl, tupSame s2 hb, fun full => ?_, fun _ p2 hp2 => ?_⟩
        · have e2 := full.2
          rw [HT.sIx_nat] at e2
          omega
        · have s3 := Same.new (o := .tup (cutV (iV u) none (some ((j : Nat) : Int)))) hp2
          rw [cu] at s3 ⊢
          refine ⟨_, rfl, _, rfl, b, iV u, _, _, rfl, rfl, tupSame (s2.trans s3) hb, atI_nat gu, _, rfl, _, _, rfl, rfl, (by show 1 ≤ sizeLine; decide), fun p3 hp3 => ?_⟩
          have s4 := Same.new (o := .tup [.int ((e : Int) + ((kk + 1 : Nat) : Int))]) hp3
          have l24 : u.length = L.length := hw.len
          refine cat_tup (xs := iV (u.take j)) (ys := iV [(e : Int) + ((kk + 1 : Nat) : Int)]) (SqT.of (s4 _ _ upd_same)) (SqT.of upd_same) (by rw [List.length_map, List.length_take]; show _ + 1 ≤ 1000; omega) fun H4 p4 s5 h4 => ?_
          refine ⟨_, rfl, p, _, rfl, .inl ⟨SqL.of ((s3.trans (s4.trans s5)) _ _ h2), fun p5 hp5 => ?_⟩⟩
          have s6 := Same.new (o := .tup (iV (least (L.drop (j + 1)) (r - (kk + 1) * g)))) hp5
          refine cat_tup (tupSame s6 h4) (SqT.of upd_same) (by rw [List.length_append, List.length_map, List.length_map, List.length_map, least_len, List.length_take, List.length_drop]; show _ + 1 + _ ≤ 1000; omega) fun H6 p6 s7 h6 => ?_
          refine k H6 _ (s2.trans (s3.trans (s4.trans (s5.trans (s6.trans s7))))) ?_
          rw [npre _ rfl]
          refine ⟨p6, rfl, ?_⟩
          have e3 : iV (u.take j ++ ((e : Int) + ((kk + 1 : Nat) : Int)) :: least (L.drop (j + 1)) (r - (kk + 1) * g)) = iV (u.take j) ++ iV [(e : Int) + ((kk + 1 : Nat) : Int)] ++ iV (least (L.drop (j + 1)) (r - (kk + 1) * g)) := by
            rw [List.append_assoc]
            exact List.map_append
          rw [e3]
          exact h6
    · have ct : ¬ _ := fun z => ct (decide_eq_true z)
      cases z : rise (g : Int) (L.drop (j + 1)) (e : Int) r with
      | some kk =>
        rw [z] at ct
        exact absurd (show (0 : Int) < riseV (some kk) by show (0 : Int) < ((kk + 1 : Nat) : Int); omega) ct
      | none =>
        refine ⟨_, rfl, _, rfl, _, rfl, b, iV u, _, _, rfl, rfl, hb, atI_nat gu, _, rfl, _, rfl, a, iV L, _, _, rfl, rfl, ha, atI_nat gL, _, _, rfl, rfl, .inr ⟨by omega, by omega⟩, _, _, rfl, rfl, rfl, ⟨some (.int ((j : Nat) : Int)), some (.int 0), o6, ?_⟩, rfl⟩
        rw [Int.add_comm, Int.mul_comm]
        rfl
  · obtain ⟨rfl, ⟨o4, o5, o6, rfl⟩, hz⟩ := q
    rw [lL] at hz
    have e0 : L.length - ((L.length : Int) - 0).toNat = 0 := by omega
    rw [e0] at hz
    refine k H1 _ (Same.refl _) ?_
    have hz : nxt L u = none := hz
    rw [hz]
    rfl
end
end K5
namespace K5
open PySem PySem.Spec PyProof.Rows L2 RZ
def par (r : Int) (k : Int) : List Int → List Int
  | [] => []
  | d :: L => if d % 2 = r then k :: par r (k + 1) L else par r (k + 1) L
theorem par_append {r : Int} : ∀ (L M : List Int) (k : Int), par r k (L ++ M) = par r k L ++ par r (k + L.length) M
  | [], M, k => by
    show par r k M = [] ++ par r (k + 0) M
    rw [Int.add_zero, List.nil_append]
  | d :: L, M, k => by
    have ih := par_append (r := r) L M (k + 1)
    have e : k + 1 + (L.length : Int) = k + ((d :: L).length : Int) := by
      rw [List.length_cons]
      omega
    rw [e] at ih
    show (if d % 2 = r then k :: par r (k + 1) (L ++ M) else par r (k + 1) (L ++ M)) = (if d % 2 = r then k :: par r (k + 1) L else par r (k + 1) L) ++ _
    split
    · rw [ih]
      rfl
    · rw [ih]
theorem par_len {r : Int} : ∀ (L : List Int) (k : Int), (par r k L).length ≤ L.length
  | [], _ => Nat.le_refl _
  | d :: L, k => by
    have := par_len (r := r) L (k + 1)
    show (if d % 2 = r then k :: par r (k + 1) L else par r (k + 1) L).length ≤ _
    split
    · rw [List.length_cons, List.length_cons]
      omega
    · rw [List.length_cons]
      omega
/-- the indices of odd letters, over enumerate -/
theorem lc_par {r : Int} {K : PySem.W.Frag} {a : Addr} {L : List Int} {i j : Nat} {tt : TT} {te : TE} {vs : List Nat} {σ : L2.St} {H : Hp} {D : Addr} {Qd : Hp → Prop} (hD : H D = none) (ha : SqT K H a (iV L)) (ln : L.length ≤ 1000)
    (hw : ∀ x y : V, wipe (((wipe σ vs).set i (some x)).set j (some y)) vs = wipe σ vs)
    (ht : ∀ (n : Nat) (d : Int) (H1 : Hp) (Q : Bool → Hp → Prop), Q (decide (d % 2 = r)) H1 → tt (((wipe σ vs).set i (some (.int n))).set j (some (.int d))) H1 Q)
    (he : ∀ (n : Nat) (d : Int) (H1 : Hp) (Q : VK), Q (.int n) H1 → te (((wipe σ vs).set i (some (.int n))).set j (some (.int d))) H1 Q)
    (hd : ∀ H', Same H H' → H' D = some (.lst (iV (par r 0 L))) → Qd H') : LcW (IteT K a) (gTup K 2 (gCons (gName i) (gCons (gName j) gNil))) tt te vs σ H D Qd := by
  refine lc_it (walk_enumT (xs := iV L)) (fun n H' => Same H H' ∧ H' D = some (.lst (iV (par r 0 (L.take n))))) ⟨Same.new hD, upd_same⟩ (fun _ H' _ p => tupSame p.1 ha) (fun n x H1 H2 hn p y => ?_) fun H' p => ?_
  · obtain ⟨T, u, v, rfl, hT, rfl, hu, hv⟩ := y
    have hu : some (V.int (n : Nat)) = some u := hu
    have hv : (iV L)[n]? = some v := hv
    cases hu
    rw [List.getElem?_map] at hv
    obtain ⟨d, hd1, rfl⟩ := Option.map_eq_some_iff.mp hv
    have s1 : Same H1 (upd H1 T (.tup [.int (n : Nat), .int d])) := Same.new hT
    have nl := (List.getElem?_eq_some_iff.mp hd1).1
    have e1 : par r 0 (L.take (n + 1)) = par r 0 (L.take n) ++ (if d % 2 = r then [(n : Int)] else []) := by
      rw [take_more hd1, par_append, List.length_take, Nat.min_eq_left (Nat.le_of_lt nl), Int.zero_add]
      rfl
    refine ⟨T, [.int (n : Nat), .int d], rfl, SqT.of upd_same, rfl, .int (n : Nat), [.int d], rfl, .int d, [], rfl, rfl, hw _ _, ht n d _ _ ?_⟩
    by_cases c : d % 2 = r
    · rw [decide_eq_true c]
      refine iteT (he n d _ _ ?_)
      have ol := par_len (r := r) (L.take n) 0
      rw [List.length_take] at ol
      refine ⟨iV (par r 0 (L.take n)), s1 _ _ p.2, small1000 (by rw [List.length_map]; omega), Same.back (p.1.trans s1) hD, ?_⟩
      rw [upd_same, e1, if_pos c]
      show _ = some (HO.lst (List.map V.int _))
      rw [List.map_append]
      rfl
    · rw [decide_eq_false c]
      refine iteF ⟨p.1.trans s1, ?_⟩
      rw [e1, if_neg c, List.append_nil]
      exact s1 _ _ p.2
  · refine hd H' p.1 ?_
    rw [p.2, List.length_map, List.take_length]
end K5
namespace K5
open PySem PySem.Spec PyProof.Rows L2 RZ
theorem wds_length_pos {L : List Int} (h : Lt L) (d : Nat) : (wds L d).length = cnt L d := wds_len L d h.pos
def spChkL (K : PySem.W.Frag) : Sp := fun vs H Q _ => ∃ (a : Addr) (L : List Int), vs = [.ref a] ∧ SqT K H a (iV L) ∧ Lt L ∧ ∀ H', Same H H' → Q .non H'
def spChkB (K : PySem.W.Frag) : Sp := fun vs H Q _ => ∃ (i a b : Int), vs = [.int i, .int a, .int b] ∧ a ≤ i ∧ i ≤ b ∧ 0 ≤ i ∧ i ≤ 1000 ∧ Q .non H
def spCount (K : PySem.W.Frag) : Sp := fun vs H Q _ => ∃ (a : Addr) (L : List Int) (d : Nat), vs = [.ref a, .int (d : Int)] ∧ SqT K H a (iV L) ∧ Lt L ∧ d ≤ 80 ∧ ∀ H', Same H H' → Q (.int (cnt L d : Int)) H'
def spListed (K : PySem.W.Frag) : Sp := fun vs H Q _ => ∃ (a : Addr) (L : List Int) (d : Nat), vs = [.ref a, .int (d : Int)] ∧ SqT K H a (iV L) ∧ Lt L ∧ d ≤ 80 ∧ cnt L d ≤ 900 ∧ ∀ H' p xs, Same H H' → H p = none → H' p = some (.lst xs) → TupsV K H' xs (wds L d) → Q (.ref p) H'
def spWords (K : PySem.W.Frag) : Sp := fun vs H Q _ => ∃ (a : Addr) (L : List Int) (d : Nat), vs = [.ref a, .int (d : Int)] ∧ SqT K H a (iV L) ∧ Lt L ∧ d ≤ 80 ∧ cnt L d ≤ 400 ∧ ∀ H' p xs, Same H H' → SqT K H' p xs → TupsV K H' xs (wds L d) → Q (.ref p) H'
def spPar (K : PySem.W.Frag) (r : Int) : Sp := fun vs H Q _ => ∃ (a : Addr) (L : List Int), vs = [.ref a] ∧ SqT K H a (iV L) ∧ Lt L ∧ ∀ H' p, Same H H' → SqT K H' p (iV (par r 0 L)) → Q (.ref p) H'
def spTop (K : PySem.W.Frag) : Sp := fun vs H Q _ => ∃ (a : Addr) (L : List Int), vs = [.ref a] ∧ SqT K H a (iV L) ∧ Lt L ∧ (∀ d ∈ L, d % 2 = 1) ∧ ∀ H' p, Same H H' → SqT K H' p (iV (List.replicate L.length 1)) → Q (.ref p) H'
theorem scChkL : FnScope ["letters"] ["letters"] (defScope sChkL) := ⟨rfl, rfl, rfl, by decide +kernel, rfl, by decide +kernel, by decide +kernel⟩
theorem scChkB : FnScope ["value", "least", "most"] ["value", "least", "most"] (defScope sChkB) := ⟨rfl, rfl, rfl, by decide +kernel, rfl, by decide +kernel, by decide +kernel⟩
theorem scCount : FnScope ["letters", "degree"] ["letters", "degree"] (defScope sCount) := ⟨rfl, rfl, rfl, by decide +kernel, rfl, by decide +kernel, by decide +kernel⟩
theorem scListed : FnScope ["letters", "degree", "counts", "found", "word"] ["letters", "degree"] (defScope sListed) := ⟨rfl, rfl, rfl, by decide +kernel, rfl, by decide +kernel, by decide +kernel⟩
theorem scWords : FnScope ["letters", "degree"] ["letters", "degree"] (defScope sWordsOf) := ⟨rfl, rfl, rfl, by decide +kernel, rfl, by decide +kernel, by decide +kernel⟩
theorem scWCount : FnScope ["letters", "degree"] ["letters", "degree"] (defScope sWordCount) := ⟨rfl, rfl, rfl, by decide +kernel, rfl, by decide +kernel, by decide +kernel⟩
theorem scOdds : FnScope ["letters", "index", "degree"] ["letters"] (defScope sOdds) := ⟨rfl, rfl, rfl, by decide +kernel, rfl, by decide +kernel, by decide +kernel⟩
theorem scEvenL : FnScope ["letters", "index", "degree"] ["letters"] (defScope sEvenL) := ⟨rfl, rfl, rfl, by decide +kernel, rfl, by decide +kernel, by decide +kernel⟩
theorem scOddL : FnScope ["letters"] ["letters"] (defScope sOddL) := ⟨rfl, rfl, rfl, by decide +kernel, rfl, by decide +kernel, by decide +kernel⟩
theorem scTopW : FnScope ["letters"] ["letters"] (defScope sTopW) := ⟨rfl, rfl, rfl, by decide +kernel, rfl, by decide +kernel, by decide +kernel⟩
theorem par_all {r : Int} : ∀ {L : List Int} {k : Int}, (∀ d ∈ L, d % 2 = r) → (par r k L).length = L.length
  | [], _, _ => rfl
  | d :: L, k, h => by
    show (if d % 2 = r then k :: par r (k + 1) L else par r (k + 1) L).length = _
    rw [if_pos (h d List.mem_cons_self), List.length_cons, List.length_cons, par_all fun y hy => h y (List.mem_cons_of_mem _ hy)]
section
variable {P : Program} {w : World} {K : PySem.W.Frag} {mg : Str → Option Value} {base : Heap} {fB fL fC fS fF fN fO : Addr} {dB dL dC dS dF dN dO : FuncData}
theorem ok_chkl {f : Addr} {fd : FuncData} (F : Fun K "check_letters" "check_letters" sChkL f fd) (gB : mg "is_letters" = some (.ref fB)) (kB : PySem.W.keepIn K (.ref fB) = true) (bB : Binds K dB ["value"] [])
    (B : FnOk P w K mg base CX0 4 fB dB ["value"] (spIsLet K)) : FnOk P w K mg base CX0 5 f fd ["letters"] (spChkL K) := by
  refine F.ok scChkL (fun vs H Q E h => ?_) (fun cdv A outer s H vs Q E hr h => ?_)
  · obtain ⟨a, L, rfl, _⟩ := h; rfl
  obtain ⟨a, L, rfl, hs, hL, k⟩ := h
  refine ⟨_, pss_one (ps_if (pt_not (pt_val (pe_call B hr (by rfl) gB kB bB .nil pass0 (pa_cons (pv 0) pa_nil)))) pss_never pss_nil), ?_⟩
  exact ⟨_, rfl, _, true, rfl, hL.is hs, fun H' s => ⟨_, rfl, iteF (k H' s)⟩⟩
theorem ok_chkb {f : Addr} {fd : FuncData} (F : Fun K "check_between" "check_between" sChkB f fd) (gB : mg "is_between" = some (.ref fB)) (kB : PySem.W.keepIn K (.ref fB) = true) (bB : Binds K dB ["value", "least", "most"] [])
    (B : FnOk P w K mg base CX0 3 fB dB ["value", "least", "most"] (spBetw K)) : FnOk P w K mg base CX0 4 f fd ["value", "least", "most"] (spChkB K) := by
  refine F.ok scChkB (fun vs H Q E h => ?_) (fun cdv A outer s H vs Q E hr h => ?_)
  · obtain ⟨i, a, b, rfl, _⟩ := h; rfl
  obtain ⟨i, a, b, rfl, ha, hb, h0, h1, k⟩ := h
  refine ⟨_, pss_one (ps_if (pt_not (pt_val (pe_call B hr (by rfl) gB kB bB .nil pass0 (pa_cons (pv 0) (pa_cons (pv 1) (pa_cons (pv 2) pa_nil)))))) pss_never pss_nil), ?_⟩
  refine ⟨_, rfl, _, rfl, _, rfl, .int i, a, b, rfl, .int i, _, rfl, ?_⟩
  rw [betw_small h0 h1 ha hb]
  exact iteF k
theorem ok_odds {f : Addr} {fd : FuncData} (F : Fun K "odd_indices" "odd_indices" sOdds f fd) (T : Txt K mg) : FnOk P w K mg base CX0 1 f fd ["letters"] (spPar K 1) := by
  refine F.ok scOdds (fun vs H Q E h => ?_) (fun cdv A outer s H vs Q E hr h => ?_)
  · obtain ⟨a, L, rfl, _⟩ := h; rfl
  obtain ⟨a, L, rfl, ha, hL, k⟩ := h
  have hn := hL.len
  refine ⟨_, pss_one (ps_ret (pe_callTy call_tuple_of (by rfl) T.tuple bootTuple (pa_cons (pe_lc (own := [("index", 1), ("degree", 2)]) (g := gTup K 2 (gCons (gName 1) (gCons (gName 2) gNil))) rfl scOdds.nd (pi_enumT (by rfl) T.enumerate (pa_cons (pv 0) pa_nil))
      (blkOk_by (N := ["letters", "index", "degree"]) (sc := defScope sOdds) (by decide +kernel)) (fun _ _ _ _ _ => pg_tup (by rfl) (pgs_cons (pg_name (i := 1) scOdds.nd rfl (.inl rfl)) (pgs_cons (pg_name (i := 2) scOdds.nd rfl (.inl rfl)) pgs_nil))) (fun _ _ _ _ _ => pts_one (pt_cmpR op_eq (pe_op op_mod (pv 2) pe_int) pe_int (nomark _)))
      (fun _ _ _ _ _ => pv 1)) pa_nil))), ?_⟩
  refine ⟨_, rfl, a, _, rfl, ha, fun D hD => lc_par (r := 1) hD ha (Nat.le_trans hn (by decide)) (fun _ _ => rfl) (fun n d H1 Q1 q => ?_) (fun n d H1 Q1 q => ?_) fun H' s' h' => ?_⟩
  · refine ⟨_, rfl, _, _, rfl, rfl, (by show (0 : Int) < 2; decide), rfl, _, rfl, ?_⟩
    rw [dInt]
    exact q
  · exact ⟨_, rfl, q⟩
  · exact ⟨D, _, rfl, .inl ⟨SqL.of h', fun l hl => k _ l (s'.trans (Same.new hl)) (SqT.of upd_same)⟩⟩
theorem ok_evenl {f : Addr} {fd : FuncData} (F : Fun K "even_letters" "even_letters" sEvenL f fd) (T : Txt K mg) (gL : mg "check_letters" = some (.ref fL)) (kL : PySem.W.keepIn K (.ref fL) = true) (bL : Binds K dL ["letters"] [])
    (FL : FnOk P w K mg base CX0 5 fL dL ["letters"] (spChkL K)) : FnOk P w K mg base CX0 6 f fd ["letters"] (spPar K 0) := by
  refine F.ok scEvenL (fun vs H Q E h => ?_) (fun cdv A outer s H vs Q E hr h => ?_)
  · obtain ⟨a, L, rfl, _⟩ := h; rfl
  obtain ⟨a, L, rfl, ha, hL, k⟩ := h
  have hn := hL.len
  refine ⟨_, pss_cons (ps_expr (pe_call FL hr (by rfl) gL kL bL .nil pass0 (pa_cons (pv 0) pa_nil))) (pss_one (ps_ret (pe_callTy call_tuple_of (by rfl) T.tuple bootTuple (pa_cons (pe_lc (own := [("index", 1), ("degree", 2)]) (g := gTup K 2 (gCons (gName 1) (gCons (gName 2) gNil))) rfl scEvenL.nd (pi_enumT (by rfl) T.enumerate (pa_cons (pv 0) pa_nil))
      (blkOk_by (N := ["letters", "index", "degree"]) (sc := defScope sEvenL) (by decide +kernel)) (fun _ _ _ _ _ => pg_tup (by rfl) (pgs_cons (pg_name (i := 1) scEvenL.nd rfl (.inl rfl)) (pgs_cons (pg_name (i := 2) scEvenL.nd rfl (.inl rfl)) pgs_nil))) (fun _ _ _ _ _ => pts_one (pt_cmpR op_eq (pe_op op_mod (pv 2) pe_int) pe_int (nomark _)))
      (fun _ _ _ _ _ => pv 1)) pa_nil)))), ?_⟩
  refine ⟨_, rfl, a, L, rfl, ha, hL, fun H0 s0 => ?_⟩
  refine ⟨_, rfl, a, _, rfl, tupSame s0 ha, fun D hD => lc_par (r := 0) hD (tupSame s0 ha) (Nat.le_trans hn (by decide)) (fun _ _ => rfl) (fun n d H1 Q1 q => ?_) (fun n d H1 Q1 q => ?_) fun H' s' h' => ?_⟩
  · refine ⟨_, rfl, _, _, rfl, rfl, (by show (0 : Int) < 2; decide), rfl, _, rfl, ?_⟩
    rw [dInt]
    exact q
  · exact ⟨_, rfl, q⟩
  · exact ⟨D, _, rfl, .inl ⟨SqL.of h', fun l hl => k _ l (s0.trans (s'.trans (Same.new hl))) (SqT.of upd_same)⟩⟩
theorem ok_oddl {f : Addr} {fd : FuncData} (F : Fun K "odd_letters" "odd_letters" sOddL f fd) (gL : mg "check_letters" = some (.ref fL)) (kL : PySem.W.keepIn K (.ref fL) = true) (bL : Binds K dL ["letters"] [])
    (FL : FnOk P w K mg base CX0 5 fL dL ["letters"] (spChkL K)) (gO : mg "odd_indices" = some (.ref fO)) (kO : PySem.W.keepIn K (.ref fO) = true) (bO : Binds K dO ["letters"] [])
    (FO : FnOk P w K mg base CX0 1 fO dO ["letters"] (spPar K 1)) : FnOk P w K mg base CX0 6 f fd ["letters"] (spPar K 1) := by
  refine F.ok scOddL (fun vs H Q E h => ?_) (fun cdv A outer s H vs Q E hr h => ?_)
  · obtain ⟨a, L, rfl, _⟩ := h; rfl
  obtain ⟨a, L, rfl, ha, hL, k⟩ := h
  refine ⟨_, pss_cons (ps_expr (pe_call FL hr (by rfl) gL kL bL .nil pass0 (pa_cons (pv 0) pa_nil))) (pss_one (ps_ret (pe_call (FO.mono (by decide)) hr (by rfl) gO kO bO .nil pass0 (pa_cons (pv 0) pa_nil)))), ?_⟩
  exact ⟨_, rfl, a, L, rfl, ha, hL, fun H0 s0 => ⟨_, rfl, a, L, rfl, tupSame s0 ha, hL, fun H1 p s1 h1 => k H1 p (s0.trans s1) h1⟩⟩
theorem ok_topw {f : Addr} {fd : FuncData} (F : Fun K "top_word" "top_word" sTopW f fd) (T : Txt K mg) (gL : mg "check_letters" = some (.ref fL)) (kL : PySem.W.keepIn K (.ref fL) = true) (bL : Binds K dL ["letters"] [])
    (FL : FnOk P w K mg base CX0 5 fL dL ["letters"] (spChkL K)) (gO : mg "odd_indices" = some (.ref fO)) (kO : PySem.W.keepIn K (.ref fO) = true) (bO : Binds K dO ["letters"] [])
    (FO : FnOk P w K mg base CX0 1 fO dO ["letters"] (spPar K 1)) : FnOk P w K mg base CX0 6 f fd ["letters"] (spTop K) := by
  refine F.ok scTopW (fun vs H Q E h => ?_) (fun cdv A outer s H vs Q E hr h => ?_)
  · obtain ⟨a, L, rfl, _⟩ := h; rfl
  obtain ⟨a, L, rfl, ha, hL, ho, k⟩ := h
  refine ⟨_, pss_cons (ps_expr (pe_call FL hr (by rfl) gL kL bL .nil pass0 (pa_cons (pv 0) pa_nil)))
    (pss_cons (ps_if (pt_cmpR op_lt (pe_callB call_len_seq (by rfl) T.len PySem.boot_len (pa_cons (pe_call (FO.mono (by decide)) hr (by rfl) gO kO bO .nil pass0 (pa_cons (pv 0) pa_nil)) pa_nil)) (pe_callB call_len_seq (by rfl) T.len PySem.boot_len (pa_cons (pv 0) pa_nil)) (nomark _)) pss_never pss_nil)
    (pss_one (ps_ret (pe_op op_mulT (pe_tup (pa_cons pe_int pa_nil)) (pe_callB call_len_seq (by rfl) T.len PySem.boot_len (pa_cons (pv 0) pa_nil)))))), ?_⟩
  have h24 := hL.len
  have lL : (iV L).length = L.length := List.length_map _
  refine ⟨_, rfl, a, L, rfl, ha, hL, fun H0 s0 => ⟨_, rfl, a, L, rfl, tupSame s0 ha, hL, fun H1 p s1 h1 => ⟨p, _, rfl, .inr h1, _, rfl, a, _, rfl, .inr (tupSame (s0.trans s1) ha), _, _, rfl, rfl, _, rfl, ?_⟩⟩⟩
  rw [decide_eq_false (by rw [lL, List.length_map, par_all ho]; omega)]
  refine iteF ⟨(by show 1 ≤ sizeLine; decide), fun t ht => ?_⟩
  have s2 := Same.new (o := .tup [.int 1]) ht
  refine ⟨_, rfl, a, _, rfl, .inr (tupSame (s0.trans (s1.trans s2)) ha), t, _, [.int 1], rfl, rfl, SqT.of upd_same, (by intro z; cases z), by omega, by rw [lL]; omega, by decide, fun e1 => ?_, fun _ q hq => ?_⟩
  · rw [lL] at e1
    refine k _ t (s0.trans (s1.trans s2)) ?_
    rw [show L.length = 1 by omega]
    exact SqT.of upd_same
  · refine k _ q (s0.trans (s1.trans (s2.trans (Same.new hq)))) ?_
    have e : (List.replicate ((iV L).length : Int).toNat [V.int 1]).flatten = iV (List.replicate L.length 1) := by
      rw [Int.toNat_natCast, lL, List.flatten_replicate_singleton]
      exact List.map_replicate.symm
    rw [e]
    exact SqT.of upd_same
theorem ok_count {f : Addr} {fd : FuncData} (F : Fun K "count_words" "count_words" sCount f fd) (gS : mg "suffix_counts" = some (.ref fS)) (kS : PySem.W.keepIn K (.ref fS) = true) (bS : Binds K dS ["letters", "most"] [])
    (FS : FnOk P w K mg base CX0 2 fS dS ["letters", "most"] (spSuf K)) : FnOk P w K mg base CX0 3 f fd ["letters", "degree"] (spCount K) := by
  refine F.ok scCount (fun vs H Q E h => ?_) (fun cdv A outer s H vs Q E hr h => ?_)
  · obtain ⟨a, L, d, rfl, _⟩ := h; rfl
  obtain ⟨a, L, d, rfl, ha, hL, hd, k⟩ := h
  refine ⟨_, pss_cons (ps_if (pt_cmpR op_lt (pv 1) pe_int (nomark _)) (pss_one (ps_ret pe_int)) pss_nil)
    (pss_one (ps_ret (pe_ix ix_list (pe_ix ix_list (pe_call FS hr (by rfl) gS kS bS .nil pass0 (pa_cons (pv 0) (pa_cons (pv 1) pa_nil))) pe_int (fun _ _ => rfl)) (pv 1) (fun _ _ => rfl)))), ?_⟩
  refine ⟨_, rfl, _, _, rfl, rfl, _, rfl, ?_⟩
  rw [decide_eq_false (by omega)]
  refine iteF ⟨_, rfl, _, rfl, a, L, d, rfl, ha, hL.len, fun y hy => ⟨hL.lo y hy, hL.hi y hy⟩, by omega, fun H1 p s1 hp hc => ?_⟩
  obtain ⟨xs, hx, lx, hrow⟩ := hc
  obtain ⟨x, gx, rr, rfl, hrr⟩ := hrow 0 (Nat.zero_le _)
  exact ⟨p, xs, _, _, rfl, rfl, SqL.of hx, atI_nat gx, _, rfl, rr, _, _, _, rfl, rfl, SqL.of hrr, atI_nat (rowOf_get (Nat.le_refl _)), k H1 s1⟩
theorem ok_listed {f : Addr} {fd : FuncData} (F : Fun K "listed_words" "listed_words" sListed f fd) (gS : mg "suffix_counts" = some (.ref fS)) (kS : PySem.W.keepIn K (.ref fS) = true) (bS : Binds K dS ["letters", "most"] [])
    (FS : FnOk P w K mg base CX0 2 fS dS ["letters", "most"] (spSuf K)) (gF : mg "first_word" = some (.ref fF)) (kF : PySem.W.keepIn K (.ref fF) = true) (bF : Binds K dF ["letters", "counts", "degree"] [])
    (FF : FnOk P w K mg base CX0 2 fF dF ["letters", "counts", "degree"] (spFirst K)) (gN : mg "next_word" = some (.ref fN)) (kN : PySem.W.keepIn K (.ref fN) = true) (bN : Binds K dN ["letters", "counts", "word"] [])
    (FN : FnOk P w K mg base CX0 2 fN dN ["letters", "counts", "word"] (spNext K)) : FnOk P w K mg base CX0 3 f fd ["letters", "degree"] (spListed K) := by
  refine F.ok scListed (fun vs H Q E h => ?_) (fun cdv A outer s H vs Q E hr h => ?_)
  · obtain ⟨a, L, d, rfl, _⟩ := h; rfl
  obtain ⟨a, L, d, rfl, ha, hL, hd, hcn, k⟩ := h
  refine ⟨_, pss_cons (ps_if (pt_cmpR op_lt (pv 1) pe_int (nomark _)) (pss_one (ps_ret (pe_lst pa_nil))) pss_nil)
    (pss_cons (ps_set (i := 2) scListed.nd rfl (.inl rfl) (pe_call FS hr (by rfl) gS kS bS .nil pass0 (pa_cons (pv 0) (pa_cons (pv 1) pa_nil))))
    (pss_cons (ps_set (i := 3) scListed.nd rfl (.inl rfl) (pe_lst pa_nil))
    (pss_cons (ps_set (i := 4) scListed.nd rfl (.inl rfl) (pe_call FF hr (by rfl) gF kF bF .nil pass0 (pa_cons (pv 0) (pa_cons (pv 2) (pa_cons (pv 1) pa_nil)))))
    (pss_cons (ps_while PassesOwn.never (pt_cmpR op_notN (pv 4) pe_non (nomark _))
      (pss_cons (ps_expr (pe_bm PySem.F.plainAttrs_list PySem.F.slot_list_append PySem.F.type_list_append mt_append (pv 3) (pa_cons (pv 4) pa_nil)))
      (pss_one (ps_set (i := 4) scListed.nd rfl (.inl rfl) (pe_call FN hr (by rfl) gN kN bN .nil pass0 (pa_cons (pv 0) (pa_cons (pv 2) (pa_cons (pv 4) pa_nil))))))))
    (pss_one (ps_ret (pv 3))))))), ?_⟩
  refine ⟨_, rfl, _, _, rfl, rfl, _, rfl, ?_⟩
  rw [decide_eq_false (by omega)]
  refine iteF ⟨_, rfl, _, rfl, a, L, d, rfl, ha, hL.len, fun y hy => ⟨hL.lo y hy, hL.hi y hy⟩, by omega, fun H1 c s1 hc1 hc => ?_⟩
  refine ⟨(by show 0 ≤ sizeLine; decide), fun q hq => ?_⟩
  have s2 := Same.new (o := .lst []) hq
  have hq0 : H q = none := none_of s1 hq
  refine ⟨_, rfl, _, rfl, _, rfl, a, c, L, d, d, rfl, tupSame (s1.trans s2) ha, hc.mono s2, hL, by omega, Nat.le_refl _, fun H2 v s3 hv => ?_⟩
  have lw := wds_length_pos hL d
  refine ⟨fun m σ H' => ∃ (j : Nat) (v : V) (xs : List V), m + j = (wds L d).length ∧ σ = [some (.ref a), some (.int (d : Int)), some (.ref c), some (.ref q), some v] ∧ Same H1 H' ∧ H' q = some (.lst xs) ∧ TupsV K H' xs ((wds L d).take j) ∧ WordIs K H' v (wds L d)[j]?,
    ⟨(wds L d).length, 0, v, [], rfl, rfl, s2.trans s3, s3 _ _ upd_same, .nil, by rw [← List.head?_eq_getElem?]; exact hv⟩, fun m σ H' hw => ?_⟩
  obtain ⟨j, v, xs, hm, rfl, s4, hq4, tv, hv⟩ := hw
  have lx := tv_len tv
  rw [List.length_take] at lx
  refine ⟨_, rfl, rfl, _, rfl, ?_⟩
  cases z : (wds L d)[j]? with
  | none =>
    rw [z] at hv
    have hv : v = .non := hv
    subst hv
    have hj : (wds L d).length ≤ j := List.getElem?_eq_none_iff.mp z
    refine iteF ⟨_, rfl, k H' q xs (s1.trans s4) hq0 hq4 ?_⟩
    rw [List.take_of_length_le hj] at tv
    exact tv
  | some u =>
    rw [z] at hv
    obtain ⟨t, rfl, ht⟩ := hv
    have hj : j < (wds L d).length := (List.getElem?_eq_some_iff.mp z).1
    obtain ⟨wo, we⟩ := wds_mem hL.pos (List.mem_of_getElem? z)
    refine iteT ⟨fun σ' H'' => ∃ (v : V) (xs : List V), σ' = [some (.ref a), some (.int (d : Int)), some (.ref c), some (.ref q), some v] ∧ Same H1 H'' ∧ H'' q = some (.lst xs) ∧ TupsV K H'' xs ((wds L d).take (j + 1)) ∧ WordIs K H'' v (wds L d)[j + 1]?,
      fun σ' H'' ⟨v, xs, e1, e2, e4, e5, e6⟩ => ⟨m - 1, by omega, j + 1, v, xs, by omega, e1, e2, e4, e5, e6⟩, ?_⟩
    refine ⟨_, rfl, .inl ⟨rfl, _, SqL.of hq4⟩, _, rfl, q, xs, _, rfl, rfl, hq4, Nat.lt_of_le_of_lt (by omega : xs.length ≤ 900) (small1000 (by omega)), ?_⟩
    have st : ∀ b o, b ≠ q → H' b = some o → upd H' q (.lst (xs ++ [.ref t])) b = some o := fun b o nb e => by rw [upd_ne nb]; exact e
    have tk : ∀ {b : Addr} {l : List Int}, SqT K H' b (iV l) → SqT K (upd H' q (.lst (xs ++ [.ref t]))) b (iV l) := fun {b l} h => by
      rcases h with (h | ⟨o, h⟩) | h
      · exact .inl (.inl (st _ _ (ne_of h hq4 (by intro z; cases z)) h))
      · exact .inl (.inr ⟨o, st _ _ (ne_of h hq4 (by intro z; cases z)) h⟩)
      · exact .inr h
    have s5 : Same H1 (upd H' q (.lst (xs ++ [.ref t]))) := Same.back s4 hq
    refine ⟨_, rfl, _, rfl, _, rfl, a, c, t, L, u, d, d, rfl, tupSame (s1.trans s5) ha, hc.mono s5, hL, by omega, tk ht, wo, we, Nat.le_refl _, fun H5 v5 s6 hv5 => ?_⟩
    refine ⟨v5, xs ++ [.ref t], rfl, s5.trans s6, s6 _ _ upd_same, ?_, ?_⟩
    · rw [take_more z]
      exact Paired.snoc (Paired.mapP tv fun _ _ ⟨t', e, y⟩ => ⟨t', e, tupSame s6 (tk y)⟩) ⟨t, rfl, tupSame s6 (tk ht)⟩
    · have g := nxt_good L d hL.pos j u z
      rw [Option.or_none] at g
      rw [← g]
      exact hv5
theorem ok_wcount {f : Addr} {fd : FuncData} (F : Fun K "word_count" "word_count" sWordCount f fd) (T : Txt K mg) (gL : mg "check_letters" = some (.ref fL)) (kL : PySem.W.keepIn K (.ref fL) = true) (bL : Binds K dL ["letters"] [])
    (FL : FnOk P w K mg base CX0 5 fL dL ["letters"] (spChkL K)) (gB : mg "check_between" = some (.ref fB)) (kB : PySem.W.keepIn K (.ref fB) = true) (bB : Binds K dB ["value", "least", "most"] [])
    (FB : FnOk P w K mg base CX0 4 fB dB ["value", "least", "most"] (spChkB K)) (gC : mg "count_words" = some (.ref fC)) (kC : PySem.W.keepIn K (.ref fC) = true) (bC : Binds K dC ["letters", "degree"] [])
    (FC : FnOk P w K mg base CX0 3 fC dC ["letters", "degree"] (spCount K)) : FnOk P w K mg base CX0 6 f fd ["letters", "degree"] (spCount K) := by
  refine F.ok scWCount (fun vs H Q E h => ?_) (fun cdv A outer s H vs Q E hr h => ?_)
  · obtain ⟨a, L, d, rfl, _⟩ := h; rfl
  obtain ⟨a, L, d, rfl, ha, hL, hd, k⟩ := h
  obtain ⟨t1, m1⟩ := T.cMAXDEGREE
  refine ⟨_, pss_cons (ps_expr (pe_call FL hr (by rfl) gL kL bL .nil pass0 (pa_cons (pv 0) pa_nil)))
    (pss_cons (ps_expr (pe_call (FB.mono (by decide)) hr (by rfl) gB kB bB .nil pass0 (pa_cons (pv 1) (pa_cons pe_int (pa_cons (pe_glob (v := .int 80) (by rfl) m1 ⟨_, rfl⟩) pa_nil)))))
    (pss_one (ps_ret (pe_call (FC.mono (by decide)) hr (by rfl) gC kC bC .nil pass0 (pa_cons (pv 0) (pa_cons (pv 1) pa_nil)))))), ?_⟩
  exact ⟨_, rfl, a, L, rfl, ha, hL, fun H0 s0 => ⟨_, rfl, _, _, _, rfl, by omega, by omega, by omega, by omega, _, rfl, _, rfl, a, L, d, rfl, tupSame s0 ha, hL, hd, fun H1 s1 => k H1 (s0.trans s1)⟩⟩
theorem ok_words {f : Addr} {fd : FuncData} (F : Fun K "words_of" "words_of" sWordsOf f fd) (T : Txt K mg) (gL : mg "check_letters" = some (.ref fL)) (kL : PySem.W.keepIn K (.ref fL) = true) (bL : Binds K dL ["letters"] [])
    (FL : FnOk P w K mg base CX0 5 fL dL ["letters"] (spChkL K)) (gB : mg "check_between" = some (.ref fB)) (kB : PySem.W.keepIn K (.ref fB) = true) (bB : Binds K dB ["value", "least", "most"] [])
    (FB : FnOk P w K mg base CX0 4 fB dB ["value", "least", "most"] (spChkB K)) (gC : mg "count_words" = some (.ref fC)) (kC : PySem.W.keepIn K (.ref fC) = true) (bC : Binds K dC ["letters", "degree"] [])
    (FC : FnOk P w K mg base CX0 3 fC dC ["letters", "degree"] (spCount K)) (gS : mg "listed_words" = some (.ref fS)) (kS : PySem.W.keepIn K (.ref fS) = true) (bS : Binds K dS ["letters", "degree"] [])
    (FS : FnOk P w K mg base CX0 3 fS dS ["letters", "degree"] (spListed K)) : FnOk P w K mg base CX0 6 f fd ["letters", "degree"] (spWords K) := by
  refine F.ok scWords (fun vs H Q E h => ?_) (fun cdv A outer s H vs Q E hr h => ?_)
  · obtain ⟨a, L, d, rfl, _⟩ := h; rfl
  obtain ⟨a, L, d, rfl, ha, hL, hd, hcn, k⟩ := h
  obtain ⟨t1, m1⟩ := T.cMAXDEGREE
  obtain ⟨t2, m2⟩ := T.cMAXWORDS
  refine ⟨_, pss_cons (ps_expr (pe_call FL hr (by rfl) gL kL bL .nil pass0 (pa_cons (pv 0) pa_nil)))
    (pss_cons (ps_expr (pe_call (FB.mono (by decide)) hr (by rfl) gB kB bB .nil pass0 (pa_cons (pv 1) (pa_cons pe_int (pa_cons (pe_glob (v := .int 80) (by rfl) m1 ⟨_, rfl⟩) pa_nil)))))
    (pss_cons (ps_if (pt_cmpR op_gt (pe_call (FC.mono (by decide)) hr (by rfl) gC kC bC .nil pass0 (pa_cons (pv 0) (pa_cons (pv 1) pa_nil))) (pe_glob (v := .int 400) (by rfl) m2 ⟨_, rfl⟩) (nomark _)) pss_never pss_nil)
    (pss_one (ps_ret (pe_callTy call_tuple_of (by rfl) T.tuple bootTuple (pa_cons (pe_call (FS.mono (by decide)) hr (by rfl) gS kS bS .nil pass0 (pa_cons (pv 0) (pa_cons (pv 1) pa_nil))) pa_nil)))))), ?_⟩
  refine ⟨_, rfl, a, L, rfl, ha, hL, fun H0 s0 => ⟨_, rfl, _, _, _, rfl, by omega, by omega, by omega, by omega, _, rfl, _, rfl, a, L, d, rfl, tupSame s0 ha, hL, hd, fun H1 s1 => ⟨_, _, rfl, rfl, _, rfl, ?_⟩⟩⟩
  rw [decide_eq_false (by omega)]
  refine iteF ⟨_, rfl, _, rfl, a, L, d, rfl, tupSame (s0.trans s1) ha, hL, hd, by omega, fun H2 p xs s2 hp hx tv => ⟨p, xs, rfl, .inl ⟨SqL.of hx, fun q hq => ?_⟩⟩⟩
  have s3 := Same.new (o := .tup xs) hq
  exact k _ q xs (s0.trans (s1.trans (s2.trans s3))) (SqT.of upd_same) (tv_mono tv s3)
end
end K5
namespace K5
open PySem PySem.Spec PyProof.Rows L2 RZ
def upto (L : List Int) (n : Nat) : List (List Int) := (List.range n).flatMap (wds L)
theorem upto_succ (L : List Int) (n : Nat) : upto L (n + 1) = upto L n ++ wds L n := by
  unfold upto
  rw [List.range_succ, List.flatMap_append, List.flatMap_cons]
  show _ ++ (wds L n ++ []) = _
  rw [List.append_nil]
theorem upto_mono (L : List Int) {m : Nat} : ∀ {n : Nat}, m ≤ n → (upto L m).length ≤ (upto L n).length
  | 0, h => by
    obtain rfl : m = 0 := by omega
    exact Nat.le_refl _
  | n + 1, h => by
    by_cases c : m = n + 1
    · rw [c]
      exact Nat.le_refl _
    · have ih := upto_mono L (m := m) (n := n) (by omega)
      rw [upto_succ, List.length_append]
      omega
def spEach (K : PySem.W.Frag) : SpG := fun vs H Q _ => ∃ (a : Addr) (L : List Int) (N : Nat), vs = [.ref a, .int (N : Int)] ∧ SqT K H a (iV L) ∧ Lt L ∧ N ≤ 80 ∧ (upto L (N + 1)).length ≤ 5000 ∧ ∀ H' ys, Same H H' → TupsV K H' ys (upto L (N + 1)) → Q ys H'
theorem scEach : GScope ["letters", "most", "counts", "degree", "word"] ["letters", "most"] (defScope sEach) := ⟨rfl, rfl, rfl, by decide +kernel, rfl, by decide +kernel, by decide +kernel⟩
theorem big5000 {n : Nat} (h : n ≤ 5000) : n < sizeLine := by rw [sizeLine_eq]; omega
section
variable {P : Program} {w : World} {K : PySem.W.Frag} {mg : Str → Option Value} {base : Heap} {fB fL fC fS fF fN fO : Addr} {dB dL dC dS dF dN dO : FuncData}
theorem ok_each {f : Addr} {fd : FuncData} (F : Fun K "each_word" "each_word" sEach f fd) (T : Txt K mg) (gL : mg "check_letters" = some (.ref fL)) (kL : PySem.W.keepIn K (.ref fL) = true) (bL : Binds K dL ["letters"] [])
    (FL : FnOk P w K mg base CX0 5 fL dL ["letters"] (spChkL K)) (gB : mg "check_between" = some (.ref fB)) (kB : PySem.W.keepIn K (.ref fB) = true) (bB : Binds K dB ["value", "least", "most"] [])
    (FB : FnOk P w K mg base CX0 4 fB dB ["value", "least", "most"] (spChkB K)) (gS : mg "suffix_counts" = some (.ref fS)) (kS : PySem.W.keepIn K (.ref fS) = true) (bS : Binds K dS ["letters", "most"] [])
    (FS : FnOk P w K mg base CX0 2 fS dS ["letters", "most"] (spSuf K)) (gF : mg "first_word" = some (.ref fF)) (kF : PySem.W.keepIn K (.ref fF) = true) (bF : Binds K dF ["letters", "counts", "degree"] [])
    (FF : FnOk P w K mg base CX0 2 fF dF ["letters", "counts", "degree"] (spFirst K)) (gN : mg "next_word" = some (.ref fN)) (kN : PySem.W.keepIn K (.ref fN) = true) (bN : Binds K dN ["letters", "counts", "word"] [])
    (FN : FnOk P w K mg base CX0 2 fN dN ["letters", "counts", "word"] (spNext K)) : GFn P w K mg base 6 f fd ["letters", "most"] (spEach K) := by
  obtain ⟨oc, od, kV, doc, pm, an, cdv, ct, osl, rfl, lk, hcd⟩ := F.ex
  refine gfn_of lk hcd scEach (fun vs H Q E h => ?_) fun A outer s H vs Q E pn hr h => ?_
  · obtain ⟨a, L, N, rfl, _⟩ := h; rfl
  obtain ⟨a, L, N, rfl, ha, hL, hN, htot, k⟩ := h
  obtain ⟨t1, m1⟩ := T.cMAXDEGREE
  refine ⟨_, gss_cons (gs_ps (ps_expr (pe_call FL hr (by rfl) gL kL bL .nil pass0 (pa_cons (pv 0) pa_nil))))
    (gss_cons (gs_ps (ps_expr (pe_call (FB.mono (by decide)) hr (by rfl) gB kB bB .nil pass0 (pa_cons (pv 1) (pa_cons pe_int (pa_cons (pe_glob (v := .int 80) (by rfl) m1 ⟨_, rfl⟩) pa_nil))))))
    (gss_cons (gs_ps (ps_set (i := 2) scEach.nd rfl (.inl rfl) (pe_call (FS.mono (by decide)) hr (by rfl) gS kS bS .nil pass0 (pa_cons (pv 0) (pa_cons (pv 1) pa_nil)))))
    (gss_cons (gs_for owns_gcx rfl (pi_range1 rfl T.range (pa_cons (pe_op op_add (pv 1) pe_int) pa_nil)) (pg_name (i := 3) scEach.nd rfl (.inl rfl))
      (gss_cons (gs_ps (ps_set (i := 4) scEach.nd rfl (.inl rfl) (pe_call (FF.mono (by decide)) hr (by rfl) gF kF bF .nil pass0 (pa_cons (pv 0) (pa_cons (pv 2) (pa_cons (pv 3) pa_nil))))))
      (gss_cons (gs_while owns_gcx (pt_cmpR op_notN (pv 4) pe_non (nomark _))
        (gss_cons (gs_yield (pv 4))
        (gss_cons (gs_ps (ps_set (i := 4) scEach.nd rfl (.inl rfl) (pe_call (FN.mono (by decide)) hr (by rfl) gN kN bN .nil pass0 (pa_cons (pv 0) (pa_cons (pv 2) (pa_cons (pv 4) pa_nil))))))
        gss_nil))) gss_nil))) gss_nil))), ?_⟩
  refine ⟨_, rfl, a, L, rfl, ha, hL, fun H0 s0 => ⟨_, rfl, _, _, _, rfl, by omega, by omega, by omega, by omega, _, rfl, _, rfl, a, L, N, rfl, tupSame s0 ha, hL.len, fun y hy => ⟨hL.lo y hy, hL.hi y hy⟩, by omega, fun H1 c s1 hc1 hc => ?_⟩⟩
  have s01 := s0.trans s1
  refine ⟨_, rfl, _, _, rfl, rfl, _, rfl, by omega, by omega, fun i m ys σ H' => m + i = N + 1 ∧ (∃ o3 o4, σ = [some (.ref a), some (.int (N : Int)), some (.ref c), o3, o4]) ∧ Same H1 H' ∧ TupsV K H' ys (upto L i),
    ⟨N + 1, rfl, ⟨_, _, rfl⟩, Same.refl _, .nil⟩, fun i m ys σ H' hw => ?_⟩
  obtain ⟨hm, ⟨o3, o4, rfl⟩, s2, tv⟩ := hw
  by_cases hi : i = N + 1
  · subst hi
    refine .inl ⟨?_, ?_⟩
    · show (((N : Int) + 1).toNat) ≤ N + 1
      omega
    · exact k H' ys (s01.trans s2) tv
  · refine .inr ⟨?_, fun ys' σ' H'' => (∃ o3 o4, σ' = [some (.ref a), some (.int (N : Int)), some (.ref c), o3, o4]) ∧ Same H1 H'' ∧ TupsV K H'' ys' (upto L (i + 1)), fun ys' σ' H'' hh => ⟨m - 1, by omega, by omega, hh⟩, ?_⟩
    · show i < (((N : Int) + 1).toNat)
      omega
    · rintro x H2 ⟨rfl, rfl⟩
      refine ⟨_, rfl, _, rfl, _, rfl, a, c, L, N, i, by show [V.ref a, .ref c, .int (0 + (i : Int))] = _; rw [Int.zero_add], tupSame (s01.trans s2) ha, hc.mono s2, hL, by omega, by omega, fun H3 v s3 hv => ?_⟩
      have hiN : i + 1 ≤ N + 1 := by omega
      have mono := upto_mono L hiN
      rw [upto_succ, List.length_append] at mono
      refine ⟨fun m ys σ H' => ∃ (j : Nat) (v : V), m + j = (wds L i).length ∧ σ = [some (.ref a), some (.int (N : Int)), some (.ref c), some (.int (0 + (i : Int))), some v] ∧ Same H1 H' ∧ TupsV K H' ys (upto L i ++ (wds L i).take j) ∧ WordIs K H' v (wds L i)[j]?,
        ⟨(wds L i).length, 0, v, rfl, rfl, s2.trans s3, by rw [List.take_zero, List.append_nil]; exact tv_mono tv s3, by rw [← List.head?_eq_getElem?]; exact hv⟩, fun m ys σ H' hw => ?_⟩
      obtain ⟨j, v, hm, rfl, s4, tv4, hv⟩ := hw
      refine ⟨_, rfl, rfl, _, rfl, ?_⟩
      cases z : (wds L i)[j]? with
      | none =>
        rw [z] at hv
        have hv : v = .non := hv
        subst hv
        have hj : (wds L i).length ≤ j := List.getElem?_eq_none_iff.mp z
        refine iteF ⟨⟨_, _, rfl⟩, s4, ?_⟩
        rw [List.take_of_length_le hj] at tv4
        rw [upto_succ]
        exact tv4
      | some u =>
        rw [z] at hv
        obtain ⟨t, rfl, ht⟩ := hv
        have hj : j < (wds L i).length := (List.getElem?_eq_some_iff.mp z).1
        obtain ⟨wo, we⟩ := wds_mem hL.pos (List.mem_of_getElem? z)
        have ly := tv_len tv4
        rw [List.length_append, List.length_take] at ly
        refine iteT ⟨fun ys' σ' H'' => ∃ (v : V), σ' = [some (.ref a), some (.int (N : Int)), some (.ref c), some (.int (0 + (i : Int))), some v] ∧ Same H1 H'' ∧ TupsV K H'' ys' (upto L i ++ (wds L i).take (j + 1)) ∧ WordIs K H'' v (wds L i)[j + 1]?,
          fun ys' σ' H'' ⟨v, e1, e2, e3, e4⟩ => ⟨m - 1, by omega, j + 1, v, by omega, e1, e2, e3, e4⟩, ?_⟩
        refine ⟨big5000 (by omega), _, rfl, _, rfl, _, rfl, _, rfl, a, c, t, L, u, N, i, rfl, tupSame (s01.trans s4) ha, hc.mono s4, hL, by omega, ht, wo, we, by omega, fun H5 v5 s6 hv5 => ?_⟩
        refine ⟨v5, rfl, s4.trans s6, ?_, ?_⟩
        · rw [take_more z, ← List.append_assoc]
          exact Paired.snoc (tv_mono tv4 s6) ⟨t, rfl, tupSame s6 ht⟩
        · have g := nxt_good L i hL.pos j u z
          rw [Option.or_none] at g
          rw [← g]
          exact hv5
end
end K5
namespace K5
open PySem PySem.Spec PyProof.Rows L2 HT
/-! ### t[::-1] -/
section
variable {prog : Program} {w : World} {A : Around} {E : Value → Shared → Prop} {s : Shared}
theorem adjust_back (n : Nat) : Builtin.Slice.sliceAdjust none none (-1) (n : Int) = ((n : Int) - 1, -1) := by
  unfold Builtin.Slice.sliceAdjust
  rfl
theorem places_back (n : Nat) : Builtin.Slice.slicePlaces ((n : Int) - 1) (-1) (-1) = n := by
  unfold Builtin.Slice.slicePlaces
  rw [if_neg (by decide)]
  by_cases c : (n : Int) - 1 > -1
  · rw [if_pos c]
    have e : ((n : Int) - 1 - -1 - 1) / (- -1) = (n : Int) - 1 := by
      rw [show (- -1 : Int) = 1 by decide, Int.ediv_one]
      omega
    rw [e]
    omega
  · rw [if_neg c]
    show (0 : Int).toNat = n
    omega
theorem fm_congr {α β : Type} {f g : α → Option β} : ∀ {l : List α}, (∀ k ∈ l, f k = g k) → l.filterMap f = l.filterMap g
  | [], _ => rfl
  | a :: l, h => by
    rw [List.filterMap_cons, List.filterMap_cons, h a List.mem_cons_self, fm_congr fun k hk => h k (List.mem_cons_of_mem _ hk)]
theorem pick_back (xs : Array Value) : ((List.range xs.size).filterMap fun (k : Nat) => xs[((xs.size : Int) - 1 + (k : Int) * (-1)).toNat]?).toArray = xs.toList.reverse.toArray := by
  have e : ((List.range xs.size).filterMap fun (k : Nat) => xs[((xs.size : Int) - 1 + (k : Int) * (-1)).toNat]?) = ((List.range xs.size).map fun k => xs.size - 1 - k).filterMap (xs[·]?) := by
    rw [List.filterMap_map]
    refine fm_congr fun k hk => ?_
    have := List.mem_range.mp hk
    show xs[((xs.size : Int) - 1 + (k : Int) * (-1)).toNat]? = xs[xs.size - 1 - k]?
    rw [show ((xs.size : Int) - 1 + (k : Int) * (-1)).toNat = xs.size - 1 - k by omega]
  rw [e, PySem.W.krv_range, List.filterMap_reverse, PySem.W.krv_all]
theorem sliceApplied_back {sl : Addr} {vl vu vs : Value} {n : Nat} {Q : Int × Int × Nat → Shared → Prop} (hs : s.heap.IsSliceOf sl vl vu vs) (pl : IsPart vl none) (pu : IsPart vu none) (ps : IsPart vs (some (-1)))
    (h : Q ((n : Int) - 1, -1, n) s) : wpAny (model prog w) A (Builtin.Slice.sliceApplied (.ref sl) (pure (n : Int))) Q E s := by
  obtain ⟨os, hos, hcs, hds⟩ := id hs
  unfold Builtin.Slice.sliceApplied Builtin.Slice.sliceFields
  refine wpAny_bind (wpAny_bind (wpAny_field hos hds (x := vl) rfl (wpAny_bind (wpAny_field hos hds (x := vu) rfl (wpAny_bind (wpAny_field hos hds (x := vs) rfl (wpAny_pure ?_)))))))
  refine wpAny_bind (slicePart_ ps ?_)
  show wpAny _ _ (if ((-1 : Int) == 0) = true then _ else _) _ _ s
  rw [if_neg (by decide)]
  refine wpAny_bind (slicePart_ pl (wpAny_bind (slicePart_ pu (wpAny_bind (wpAny_pure ?_)))))
  show wpAny _ _ (match Builtin.Slice.sliceAdjust none none (-1) (n : Int) with | (lo, hi) => pure (lo, (-1 : Int), Builtin.Slice.slicePlaces lo hi (-1))) _ _ s
  rw [adjust_back n]
  show wpAny _ _ (pure ((n : Int) - 1, (-1 : Int), Builtin.Slice.slicePlaces ((n : Int) - 1) (-1) (-1))) _ _ s
  rw [places_back]
  exact wpAny_pure h
theorem getItem_tuple_back {t sl : Addr} {items : Array Value} {vl vu vs : Value} {Q : Value → Shared → Prop} (ht : IsTup s.heap t items) (hs : s.heap.IsSliceOf sl vl vu vs) (pl : IsPart vl none) (pu : IsPart vu none) (ps : IsPart vs (some (-1)))
    (h : Q (.ref s.heap.objs.size) { s with heap := s.heap.push { cls := .type "tuple", data := .seq items.toList.reverse.toArray } })
    (hsz : items.size ≤ sizeLine) : wpAny (model prog w) A (getItem (.ref t) (.ref sl)) Q E s := by
  have htake : sizeOk (.seq items.toList.reverse.toArray) := by
    show items.toList.reverse.toArray.size ≤ sizeLine
    rw [List.size_toArray, List.length_reverse, Array.length_toList]
    exact hsz
  obtain ⟨os, hos, hcs, hds⟩ := id hs
  have hTs : s.TypeIs (.ref sl) "slice" := ⟨os, hos, hcs⟩
  unfold getItem
  try with_reducible refine wpAny_holding ?_
  first | refine wpAny_bind (wpAny_pure ?_) | skip
  refine wpAny_bind (wpAny_sequenceKey ht.typeIs (by decide) ?_)
  refine wpAny_bind (wpAny_callSpecial?_slot (name := Str.ofString "__getitem__") ht.typeIs PyProof.Rows.slot_tuple_getitem
    (wpAny_call_entry PyProof.Rows.slot_tuple_getitem ht.typeIs entry_tuple_getitem ?_ (args_tuple_getitem _ _)))
  show wpAny _ _ (Builtin.Tuple.tupleItemsOf (.ref t) >>= _) _ _ s
  refine wpAny_bind (tupleItemsOf_ ht ?_)
  refine wpAny_bind (wpAny_typeOf hTs ?_)
  rw [if_pos (by decide)]
  refine wpAny_bind (sliceApplied_back hs pl pu ps ?_)
  have hno : ¬ ((((items.size : Int) - 1) == 0 && (-1 : Int) == 1 && items.size == items.size) = true) := by
    intro q
    rw [Bool.and_eq_true, Bool.and_eq_true] at q
    exact absurd (eq_of_beq q.1.2) (by decide)
  show wpAny _ _ (if (((items.size : Int) - 1) == 0 && (-1 : Int) == 1 && items.size == items.size) = true then _ else _) _ _ s
  rw [if_neg hno, pick_back]
  first
    | exact wpAny_bind (m := Builtin.Tuple.tupleExact _) (wpAny_newObj_type (wpAny_pure ⟨_, rfl, wpAny_pure h⟩) htake)
    | exact wpAny_bind (m := Builtin.Tuple.tupleExact _) (wpAny_newObj_type (wpAny_bind (wpAny_pure (wpAny_pure ⟨_, rfl, wpAny_pure h⟩))) htake)
end
section
variable {X : Cx}
def tRevT (K : PySem.W.Frag) (te : TE) : TE := fun σ H Q => te σ H fun x H1 => ∃ a xs, x = .ref a ∧ SqT K H1 a xs ∧ ∀ p, H1 p = none → Q (.ref p) (upd H1 p (.tup xs.reverse))
theorem pe_revT {e : Expr} {te : TE} {k : Nat} {p1 p2 p3 pos : Pos} (he : PE X e te) : PE X (.Subscript e (.Slice none none (some (.UnaryOp .USub (.Constant (.int 1) k p1) p2)) p3) pos) (tRevT X.K te) := by
  refine ⟨fun pins s σ H Q I h => ?_⟩
  refine Subscript_ (thn (he.run pins s σ H _ I h) fun v s1 ⟨x, H1, I1, r1, q1⟩ => ?_)
  obtain ⟨a, xs, ex, hx, q⟩ := q1
  subst ex
  cases r1
  have hst : PO X (some (.UnaryOp .USub (.Constant (.int 1) k p1) p2)) (tPart (tUn (rU fun i => .int (-i)) (tC (.int 1)))) := po_some (pe_un un_neg pe_int)
  refine wpAny_Slice (thn (po_none.run pins s1 σ H1 (fun o H2 => o = none ∧ H2 = H1) I1 ⟨rfl, rfl⟩) fun vl s2 ⟨l, H2, I2, pl, el, e2⟩ => ?_)
  subst el e2
  refine thn (po_none.run pins s2 σ H2 (fun o H3 => o = none ∧ H3 = H2) I2 ⟨rfl, rfl⟩) fun vu s3 ⟨u, H3, I3, pu, eu, e3⟩ => ?_
  subst eu e3
  refine thn (hst.run pins s3 σ H3 (fun o H4 => o = some (-1) ∧ H4 = H3) I3 ⟨1, rfl, -1, rfl, rfl, rfl⟩) fun vs s4 ⟨o, H4, I4, ps, eo, e4⟩ => ?_
  subst eo e4
  have I5 : Inv X pins σ H4 { s4 with heap := s4.heap.push { cls := .type "slice", data := .fields #[vl, vu, vs] } } := I4.kept (t' := s4.toks) fun b ob q => Heap.get?_push_of_some _ q
  obtain ⟨its, r, ht, hz⟩ := I5.tuple hx
  have hlen := r.length
  show wpAny (model X.prog X.w) X.A (subscriptTail e (.Slice none none (some (.UnaryOp .USub (.Constant (.int 1) k p1) p2)) p3) (.ref a) (.ref s4.heap.objs.size)) (EP X pins σ Q) X.xe { s4 with heap := s4.heap.push { cls := .type "slice", data := .fields #[vl, vu, vs] } }
  refine tail_any (ops := [.ref a, .ref s4.heap.objs.size]) ht.typeIs (PyProof.Rows.slot_tuple_getitem.lookup) ?_ (by with_unfolding_all rfl)
  refine getItem_tuple_back ht (Heap.IsSliceOf.new _ vl vu vs) pl pu ps ?_ (by rw [List.size_toArray]; omega)
  refine ⟨.ref _, _, I5.laid (t' := s4.toks) (o := .tup xs.reverse) (fun b ob q => Heap.get?_push_of_some _ q) (Nat.le_refl _) ?_, rfl, q _ (I5.hok.fresh (Nat.le_refl _))⟩
  exact ⟨by rw [List.length_reverse]; exact hz, _, r.reverse, IsTup.new _ _⟩
end
end K5
namespace K5
open PySem PySem.Spec PyProof.Rows L2 RZ
theorem Lt.nil : Lt [] := ⟨by decide, fun _ z => absurd z List.not_mem_nil, fun _ z => absurd z List.not_mem_nil⟩
def spLets (K : PySem.W.Frag) : Sp := fun vs H Q _ => ∃ (d : Addr) (n : Int) (L : List V), vs = [.ref d, .int n] ∧ 0 ≤ n ∧ n ≤ 24 ∧ H d = some (.lst L) ∧ DiceL L ∧
  ∀ (H' : Hp) (p : Addr) (L' : List V) (M : List Int), DiceL L' → H' d = some (.lst L') → H' p = some (.tup (iV M)) → But d H H' → Lt M → (M.length : Int) ≤ n → Q (.ref p) H'
theorem scLets : FnScope ["dice", "size", "most", "turn"] ["dice", "size"] (defScope sLLet) := ⟨rfl, rfl, rfl, by decide +kernel, rfl, by decide +kernel, by decide +kernel⟩
section
variable {P : Program} {w : World} {K : PySem.W.Frag} {mg : Str → Option Value} {base : Heap}
theorem ok_lets {f fP fR : Addr} {fd dP dR : FuncData} (F : Fun K "_law_wd_letters" "_law_wd_letters" sLLet f fd) (T : Txt K mg) (gP : mg "_law_pick" = some (.ref fP)) (kP : PySem.W.keepIn K (.ref fP) = true) (bP : Binds K dP ["dice", "items"] []) (FP : FnOk P w K mg base CX0 2 fP dP ["dice", "items"] spPick)
    (gR : mg "_law_roll" = some (.ref fR)) (kR : PySem.W.keepIn K (.ref fR) = true) (bR : Binds K dR ["dice", "total"] []) (FR : FnOk P w K mg base CX0 1 fR dR ["dice", "total"] spRoll) : FnOk P w K mg base CX0 3 f fd ["dice", "size"] (spLets K) := by
  refine F.ok scLets (fun vs H Q E h => ?_) (fun cdv A outer s H vs Q E hr h => ?_)
  · obtain ⟨d, n, L, rfl, _⟩ := h; rfl
  obtain ⟨d, n, L, rfl, n0, n1, hd, hL, k⟩ := h
  have hr1 : Room 1 _ := hr.mono (by decide)
  refine ⟨_, pss_cons (ps_set (i := 2) scLets.nd rfl (.inr rfl) (pe_call FP hr (by rfl) gP kP bP .nil pass0 (pa_cons (pv 0) (pa_cons (pe_lst (pa_cons pe_int (pa_cons pe_int (pa_cons pe_int pa_nil)))) pa_nil))))
    (pss_one (ps_ret (pe_callTy call_tuple_of (by rfl) T.tuple bootTuple (pa_cons (pe_lc (own := [("turn", 3)]) (g := gName 3) rfl scLets.nd (pi_range1 rfl T.range (pa_cons (pe_call FR hr1 (by rfl) gR kR bR .nil pass0 (pa_cons (pv 0) (pa_cons (pe_op op_add (pv 1) pe_int) pa_nil))) pa_nil))
      (blkOk_by (N := ["dice", "size", "most", "turn"]) (sc := defScope sLLet) (by decide +kernel)) (fun _ _ _ _ _ => pg_name (i := 3) scLets.nd rfl (.inl rfl)) (fun _ _ _ _ _ => pts_nil)
      (fun _ _ _ _ _ => pe_op op_add pe_int (pe_call FR hr1 (by rfl) gR kR bR .nil pass0 (by exact (pa_cons (pv 0) (pa_cons (pv 2) pa_nil)))))) pa_nil)))), ?_⟩
  refine ⟨_, rfl, (by show 3 ≤ sizeLine; decide), fun l hl => ⟨d, l, [.int 3, .int 6, .int 40], L, rfl, ?_, hL, upd_same, ?_, by simp, by decide, fun x L1 hx hL1 => ?_⟩⟩
  · rw [upd_ne (ne_of_none hd hl)]
    exact hd
  · exact (ne_of_none hd hl).symm
  obtain ⟨m, rfl, m0, m1⟩ : ∃ m : Int, x = .int m ∧ 0 < m ∧ m ≤ 40 := by
    rcases List.mem_cons.mp hx with z | z
    · exact ⟨3, z, by decide, by decide⟩
    · rcases List.mem_cons.mp z with z | z
      · exact ⟨6, z, by decide, by decide⟩
      · exact ⟨40, List.mem_singleton.mp z, by decide, by decide⟩
  have B0 : But d H (upd (upd H l (.lst [.int 3, .int 6, .int 40])) d (.lst L1)) := (But.of (Same.new hl)).trans But.dice
  have hd0 : upd (upd H l (.lst [.int 3, .int 6, .int 40])) d (.lst L1) d = some (.lst L1) := upd_same
  generalize upd (upd H l (.lst [.int 3, .int 6, .int 40])) d (.lst L1) = H0 at *
  refine ⟨_, rfl, _, rfl, _, _, rfl, rfl, d, n + 1, L1, rfl, by omega, Nat.lt_of_le_of_lt (by omega : (n + 1).natAbs ≤ 25) (by decide), hd0, hL1, fun r L2 r0 r1 hL2 => ⟨r, rfl, by omega, by omega, fun D hD => ?_⟩⟩
  have B1 : But d H (upd H0 d (.lst L2)) := B0.trans But.dice
  have hd1 : upd H0 d (.lst L2) d = some (.lst L2) := upd_same
  generalize upd H0 d (.lst L2) = H1 at *
  refine lc_it (walk_range (lo := 0) (n := r.toNat)) (fun i H' => ∃ (M : List Int) (L' : List V), M.length = i ∧ Lt M ∧ DiceL L' ∧ H' d = some (.lst L') ∧ H' D = some (.lst (iV M)) ∧ But d H1 H') ⟨[], L2, rfl, Lt.nil, hL2, ?_, upd_same, (But.refl d H1).back hD⟩ (fun _ _ _ _ => trivial) (fun i x H2 H3 hi p y => ?_) fun H' p => ?_
  · rw [upd_ne (ne_of_none hd1 hD)]
    exact hd1
  · obtain ⟨M, L', lM, tM, hL', hd2, hD2, B2⟩ := p
    obtain ⟨rfl, rfl⟩ := y
    refine ⟨rfl, iteT (B := True) ⟨_, rfl, _, rfl, d, m, L', rfl, m0, Nat.lt_of_le_of_lt (by omega : m.natAbs ≤ 40) (by decide), hd2, hL', fun j L3 j0 j1 hL3 => ?_⟩⟩
    have nD : D ≠ d := fun z => by rw [z, hd1] at hD; cases hD
    refine ⟨_, _, rfl, rfl, iV M, ?_, small1000 (by rw [List.length_map]; omega), M ++ [1 + j], L3, ?_, ⟨?_, ?_, ?_⟩, hL3, ?_, ?_, ?_⟩
    · rw [upd_ne nD]
      exact hD2
    · rw [List.length_append, lM]
      rfl
    · rw [List.length_append, lM]
      show i + 1 ≤ 24
      omega
    · intro e he
      rcases List.mem_append.mp he with z | z
      · exact tM.lo e z
      · rw [List.mem_singleton.mp z]
        omega
    · intro e he
      rcases List.mem_append.mp he with z | z
      · exact tM.hi e z
      · rw [List.mem_singleton.mp z]
        omega
    · rw [upd_ne nD.symm]
      exact upd_same
    · rw [upd_same]
      show _ = some (HO.lst (List.map V.int (M ++ [1 + j])))
      rw [List.map_append]
      rfl
    · exact (B2.trans But.dice).back hD
  · obtain ⟨M, L', lM, tM, hL', hd2, hD2, B2⟩ := p
    refine ⟨D, _, rfl, .inl ⟨SqL.of hD2, fun t ht => k _ t L' M hL' ?_ upd_same ((B1.trans B2).trans (But.of (Same.new ht))) tM (by omega)⟩⟩
    rw [upd_ne (ne_of_none hd2 ht)]
    exact hd2
end
end K5
namespace K5
open PySem PySem.Spec PyProof.Rows L2 RZ
def bV (N : Nat) (g : Nat → Bool) : List V := (List.range (N + 1)).map fun k => V.bl (g k)
theorem bV_len {N : Nat} {g : Nat → Bool} : (bV N g).length = N + 1 := by
  unfold bV
  rw [List.length_map, List.length_range]
theorem bV_get {N j : Nat} {g : Nat → Bool} (h : j ≤ N) : (bV N g)[j]? = some (.bl (g j)) := by
  unfold bV
  rw [List.getElem?_map, List.getElem?_range (by omega)]
  rfl
def BRow (H : Hp) (x : V) (N : Nat) (M : List Int) : Prop := ∃ r, x = .ref r ∧ H r = some (.lst (bV N (rch M)))
theorem BRow.mono {H H' : Hp} {x : V} {N : Nat} {M : List Int} (h : BRow H x N M) (s : Same H H') : BRow H' x N M := by
  obtain ⟨r, e, q⟩ := h
  exact ⟨r, e, s _ _ q⟩
def Rch (H : Hp) (c : Addr) (L : List Int) (N : Nat) : Prop := ∃ xs : List V, H c = some (.lst xs) ∧ xs.length = L.length + 1 ∧ ∀ i, i ≤ L.length → ∃ x, xs[i]? = some x ∧ BRow H x N (L.drop i)
theorem Rch.mono {H H' : Hp} {c : Addr} {L : List Int} {N : Nat} (h : Rch H c L N) (s : Same H H') : Rch H' c L N := by
  obtain ⟨xs, h1, h2, h3⟩ := h
  refine ⟨xs, s _ _ h1, h2, fun i hi => ?_⟩
  obtain ⟨x, e, r⟩ := h3 i hi
  exact ⟨x, e, r.mono s⟩
theorem rch_step {a : Nat} (ha : 1 ≤ a) (M : List Int) (k : Nat) : rch ((a : Int) :: M) k = (rch M k || (decide (a ≤ k) && (if a % 2 = 0 then rch ((a : Int) :: M) (k - a) else rch M (k - a)))) := by
  have e := cnt_step ha M k
  have o : (a % 2 = 1) = ¬ (a % 2 = 0) := propext ⟨fun h => by omega, fun h => by omega⟩
  unfold rch
  rw [Bool.eq_iff_iff, Bool.or_eq_true, Bool.and_eq_true, decide_eq_true_eq, decide_eq_true_eq, decide_eq_true_eq, e]
  by_cases c : a ≤ k
  · rw [if_pos c]
    by_cases d : a % 2 = 0
    · rw [if_neg (by omega), if_pos d, decide_eq_true_eq]
      omega
    · rw [if_pos (by omega), if_neg d, decide_eq_true_eq]
      omega
  · rw [if_neg c]
    omega
def spReach (K : PySem.W.Frag) : Sp := fun vs H Q _ => ∃ (a : Addr) (L : List Int) (N : Nat), vs = [.ref a, .int (N : Int)] ∧ SqT K H a (iV L) ∧ Lt L ∧ N ≤ 80 ∧ ∀ H' p, Same H H' → H p = none → Rch H' p L N → Q (.ref p) H'
abbrev nReach : List Str := ["letters", "degree", "found", "here", "row", "last", "at", "before"]
theorem scReach : FnScope nReach ["letters", "degree"] (defScope sReached) := ⟨rfl, rfl, rfl, by decide +kernel, rfl, by decide +kernel, by decide +kernel⟩
section
variable {P : Program} {w : World} {K : PySem.W.Frag} {mg : Str → Option Value} {base : Heap}
theorem ok_reach {f : Addr} {fd : FuncData} (F : Fun K "_law_reached" "_law_reached" sReached f fd) (T : Txt K mg) : FnOk P w K mg base CX0 1 f fd ["letters", "degree"] (spReach K) := by
  refine F.ok scReach (fun vs H Q E h => ?_) (fun cdv A outer s H vs Q E hr h => ?_)
  · obtain ⟨a, L, N, rfl, _⟩ := h; rfl
  obtain ⟨a, L, N, rfl, ha, hL, hN, k⟩ := h
  refine ⟨_, pss_cons (ps_set (i := 2) scReach.nd rfl (.inl rfl) (pe_lst (pa_cons (pe_lc (own := [("at", 6)]) (g := gName 6) rfl scReach.nd (pi_range1 rfl T.range (pa_cons (pe_op op_add (pv 1) pe_int) pa_nil)) (blkOk_by (N := nReach) (sc := defScope sReached) (by decide +kernel))
      (fun _ _ _ _ _ => pg_name (i := 6) scReach.nd rfl (Or.inl rfl)) (fun _ _ _ _ _ => pts_nil) (fun _ _ _ _ _ => pe_cmpR op_eq (pv 6) pe_int (nomark _))) pa_nil)))
    (pss_cons (ps_for PassesOwn.never rfl (pi_tup (pe_revT (pv 0))) (pg_name (i := 3) scReach.nd rfl (.inl rfl))
      (pss_cons (ps_par (i := 4) (j := 5) rfl scReach.nd rfl rfl (by decide) rfl rfl (pa_cons (pe_lst pa_nil) (pa_cons (pe_ix ix_list (pv 2) (pe_un un_neg pe_int) (fun _ _ => rfl)) pa_nil)) (by rfl))
      (pss_cons (ps_for PassesOwn.never rfl (pi_range1 rfl T.range (pa_cons (pe_op op_add (pv 1) pe_int) pa_nil)) (pg_name (i := 6) scReach.nd rfl (.inl rfl))
        (pss_cons (ps_set (i := 7) scReach.nd rfl (.inl rfl) (pe_ifExp (pt_cmpR op_eq (pe_op op_mod (pv 3) pe_int) pe_int (nomark _)) (pv 4) (pv 5)))
        (pss_one (ps_expr (pe_bm PySem.F.plainAttrs_list PySem.F.slot_list_append PySem.F.type_list_append mt_append (pv 4) (pa_cons (pe_or (pe_ix ix_list (pv 5) (pv 6) (fun _ _ => rfl)) (pe_one (pe_and (pe_cmpR op_ge (pv 6) (pv 3) (nomark _)) (pe_one (pe_ix ix_list (pv 7) (pe_op op_sub (pv 6) (pv 3)) (fun _ _ => rfl)))))) pa_nil))))))
      (pss_one (ps_expr (pe_bm PySem.F.plainAttrs_list PySem.F.slot_list_append PySem.F.type_list_append mt_append (pv 2) (pa_cons (pv 4) pa_nil)))))))
    (pss_one (ps_ret (pe_revL (pv 2))))), ?_⟩
  have h24 := hL.len
  refine ⟨_, rfl, _, _, rfl, rfl, _, rfl, by omega, by omega, fun D hD => lc_it (walk_range (lo := 0) (n := ((N : Int) + 1).toNat)) (fun i H' => H' = upd H D (.lst ((List.range i).map fun k => V.bl (rch [] k)))) rfl (fun _ _ _ _ => trivial) (fun i x H1 H2 hi q y => ?_) fun H1 q => ?_⟩
  · obtain ⟨rfl, rfl⟩ := y
    subst q
    refine ⟨rfl, iteT (B := True) ⟨_, rfl, rfl, _, upd_same, small1000 (by rw [List.length_map, List.length_range]; omega), ?_⟩⟩
    rw [upd_upd, List.range_succ, List.map_append]
    congr 3
    show [V.bl (decide (V.int (0 + (i : Int)) = V.int 0))] = [V.bl (rch [] i)]
    rw [dInt]
    congr 2
    unfold rch
    have e : cnt [] i = if i = 0 then 1 else 0 := rfl
    rw [e]
    by_cases c : i = 0
    · subst c
      rfl
    · rw [if_neg c, decide_eq_false (by omega), decide_eq_false (by omega)]
  rw [show ((N : Int) + 1).toNat = N + 1 by omega] at q
  have s1 : Same H H1 := by rw [q]; exact Same.new hD
  have hD1 : H1 D = some (.lst (bV N (rch []))) := by rw [q]; exact upd_same
  clear q
  refine ⟨(by show 1 ≤ sizeLine; decide), fun p hp => ?_⟩
  have s2 := Same.new (o := .lst [.ref D]) hp
  have hp0 : H p = none := none_of s1 hp
  refine ⟨_, rfl, a, iV L, rfl, tupSame (s1.trans s2) ha, fun t ht => ⟨t, rfl, ⟨_, SqT.of upd_same⟩, ?_⟩⟩
  have s3 := Same.new (o := .tup (iV L).reverse) ht
  have ntp : p ≠ t := ne_of_none (upd_same (H := H1) (a := p) (o := .lst [.ref D])) ht
  have lL : (iV L).reverse.length = L.length := by rw [List.length_reverse, List.length_map]
  refine for_it (walk_tup (xs := (iV L).reverse)) (fun i σ H' => ∃ (o3 o4 o5 o6 o7 : Option V) (xs : List V), σ = [some (.ref a), some (.int (N : Int)), some (.ref p), o3, o4, o5, o6, o7] ∧ Same H H' ∧ H' t = some (.tup (iV L).reverse) ∧ H' p = some (.lst xs) ∧ xs.length = i + 1 ∧ ∀ j, j ≤ i → ∃ x, xs[j]? = some x ∧ BRow H' x N (L.drop (L.length - j)))
    ⟨_, _, _, _, _, [.ref D], rfl, s1.trans (s2.trans s3), upd_same, by rw [upd_ne ntp]; exact upd_same, rfl, fun j hj => ?_⟩ (fun i σ H' _ q => ?_) (fun i x σ H4 H5 hi q y => ?_) fun σ H4 q => ?_
  · obtain rfl : j = 0 := by omega
    exact ⟨_, rfl, D, rfl, by rw [Nat.sub_zero, List.drop_length]; exact (s2.trans s3) _ _ hD1⟩
  · obtain ⟨o3, o4, o5, o6, o7, xs, rfl, s4, ht4, _⟩ := q
    exact SqT.of ht4
  · obtain ⟨o3, o4, o5, o6, o7, xs, rfl, s4, ht4, hx4, lx, hr4⟩ := q
    obtain ⟨rfl, hx⟩ := y
    rw [lL] at hi
    rw [List.getElem?_reverse (by rw [List.length_map]; exact hi), List.getElem?_map, List.length_map] at hx
    obtain ⟨d, hd, rfl⟩ := Option.map_eq_some_iff.mp hx
    have dr := List.mem_of_getElem? hd
    have b1 := hL.lo d dr
    have b2 := hL.hi d dr
    obtain ⟨c, rfl⟩ : ∃ c : Nat, d = (c : Int) := ⟨d.toNat, by omega⟩
    obtain ⟨y, hy, r, rfl, hrow⟩ := hr4 i (Nat.le_refl _)
    have ed : L.drop (L.length - (i + 1)) = (c : Int) :: L.drop (L.length - i) := by
      have z : L.length - (i + 1) = L.length - 1 - i := by omega
      have z2 : L.length - i = L.length - 1 - i + 1 := by omega
      rw [z, z2]
      exact List.drop_eq_getElem?_toList_append.trans (by rw [hd]; rfl)
    refine ⟨(by show 0 ≤ sizeLine; decide), fun q hq => ⟨_, rfl, _, rfl, p, xs, _, _, rfl, rfl, SqL.of (by rw [upd_ne (ne_of_none hx4 hq)]; exact hx4), atI_last lx hy, _, _, rfl, ?_⟩⟩
    have s5 := Same.new (o := .lst []) hq
    refine ⟨_, rfl, _, _, rfl, rfl, _, rfl, by omega, by omega, for_it (walk_range (lo := 0) (n := ((N : Int) + 1).toNat)) (fun j σ H'' => ∃ (o6 o7 : Option V), σ = [some (.ref a), some (.int (N : Int)), some (.ref p), some (.int (c : Int)), some (.ref q), some (.ref r), o6, o7] ∧ Same H5 H'' ∧ H'' q = some (.lst ((List.range j).map fun k => V.bl (rch ((c : Int) :: L.drop (L.length - i)) k))))
      ⟨_, _, rfl, s5, upd_same⟩ (fun _ _ _ _ _ => trivial) (fun j x σ H6 H7 hj q2 y => ?_) fun σ H6 q2 => ?_⟩
    · obtain ⟨o6, o7, rfl, s6, hq2⟩ := q2
      obtain ⟨rfl, rfl⟩ := y
      have hr2 := s6 _ _ hrow
      have at1 : atI (bV N (rch (L.drop (L.length - i)))) (0 + (j : Int)) = some (.bl (rch (L.drop (L.length - i)) j)) := by
        rw [Int.zero_add]
        exact atI_nat (bV_get (by omega))
      have st := rch_step (a := c) (by omega) (L.drop (L.length - i)) j
      have lt : ((List.range j).map fun k => V.bl (rch ((c : Int) :: L.drop (L.length - i)) k)).length < sizeLine := small1000 (by rw [List.length_map, List.length_range]; omega)
      have fin : ∀ b, rch ((c : Int) :: L.drop (L.length - i)) j = b → ∀ {o6 o7 : Option V}, ∃ (o6' o7' : Option V), [some (V.ref a), some (.int (N : Int)), some (.ref p), some (.int (c : Int)), some (.ref q), some (.ref r), o6, o7] = [some (.ref a), some (.int (N : Int)), some (.ref p), some (.int (c : Int)), some (.ref q), some (.ref r), o6', o7'] ∧ Same H5 (upd H7 q (.lst ((List.range j).map (fun k => V.bl (rch ((c : Int) :: L.drop (L.length - i)) k)) ++ [.bl b]))) ∧ upd H7 q (.lst ((List.range j).map (fun k => V.bl (rch ((c : Int) :: L.drop (L.length - i)) k)) ++ [.bl b])) q = some (.lst ((List.range (j + 1)).map fun k => V.bl (rch ((c : Int) :: L.drop (L.length - i)) k))) := fun b hb o6 o7 => by
        refine ⟨o6, o7, rfl, Same.back s6 hq, ?_⟩
        rw [upd_same, List.range_succ, List.map_append]
        show _ = some (HO.lst (_ ++ [V.bl (rch ((c : Int) :: L.drop (L.length - i)) j)]))
        rw [hb]
      refine ⟨_, rfl, _, _, rfl, rfl, (by show (0 : Int) < 2; decide), rfl, _, rfl, ite2 (fun ct => ?_) (fun ct => ?_)⟩
      · have ct := V.int.inj (of_decide_eq_true ct)
        have at2 : c ≤ j → atI (((List.range j).map fun k => V.bl (rch ((c : Int) :: L.drop (L.length - i)) k))) (0 + (j : Int) - (c : Int)) = some (.bl (rch ((c : Int) :: L.drop (L.length - i)) (j - c))) := fun cj => by
          rw [show (0 : Int) + (j : Int) - (c : Int) = ((j - c : Nat) : Int) by omega]
          refine atI_nat ?_
          rw [List.getElem?_map, List.getElem?_range (by omega)]
          rfl
        rw [if_pos (by omega)] at st
        refine ⟨_, rfl, _, rfl, .inl ⟨rfl, _, SqL.of hq2⟩, _, rfl, _, rfl, r, _, _, _, rfl, rfl, SqL.of hr2, at1, _, rfl, ite2 (fun b1 => ?_) (fun b1 => ?_)⟩
        · refine ⟨q, _, _, rfl, rfl, hq2, lt, fin true ?_⟩
          rw [st, b1]
          rfl
        · have b1 : rch (L.drop (L.length - i)) j = false := Bool.eq_false_iff.mpr b1
          rw [b1, Bool.false_or] at st
          refine ⟨_, rfl, _, rfl, _, _, rfl, rfl, _, rfl, ite2 (fun cj => ?_) (fun cj => ?_)⟩
          · have cj := of_decide_eq_true cj
            have cj : c ≤ j := by omega
            refine ⟨_, rfl, _, rfl, _, rfl, _, _, rfl, rfl, q, _, _, _, rfl, rfl, SqL.of hq2, at2 cj, q, _, _, rfl, rfl, hq2, lt, fin _ ?_⟩
            rw [st, decide_eq_true cj, Bool.true_and]
          · have cj : ¬ c ≤ j := fun z => cj (decide_eq_true (by omega))
            refine ⟨q, _, _, rfl, rfl, hq2, lt, fin false ?_⟩
            rw [st, decide_eq_false cj, Bool.false_and]
      · have ct : ¬ ((c : Int) % 2 = 0) := fun z => ct (decide_eq_true (congrArg V.int z))
        have at2 : c ≤ j → atI (bV N (rch (L.drop (L.length - i)))) (0 + (j : Int) - (c : Int)) = some (.bl (rch (L.drop (L.length - i)) (j - c))) := fun cj => by
          rw [show (0 : Int) + (j : Int) - (c : Int) = ((j - c : Nat) : Int) by omega]
          exact atI_nat (bV_get (by omega))
        rw [if_neg (by omega)] at st
        refine ⟨_, rfl, _, rfl, .inl ⟨rfl, _, SqL.of hq2⟩, _, rfl, _, rfl, r, _, _, _, rfl, rfl, SqL.of hr2, at1, _, rfl, ite2 (fun b1 => ?_) (fun b1 => ?_)⟩
        · refine ⟨q, _, _, rfl, rfl, hq2, lt, fin true ?_⟩
          rw [st, b1]
          rfl
        · have b1 : rch (L.drop (L.length - i)) j = false := Bool.eq_false_iff.mpr b1
          rw [b1, Bool.false_or] at st
          refine ⟨_, rfl, _, rfl, _, _, rfl, rfl, _, rfl, ite2 (fun cj => ?_) (fun cj => ?_)⟩
          · have cj := of_decide_eq_true cj
            have cj : c ≤ j := by omega
            refine ⟨_, rfl, _, rfl, _, rfl, _, _, rfl, rfl, r, _, _, _, rfl, rfl, SqL.of hr2, at2 cj, q, _, _, rfl, rfl, hq2, lt, fin _ ?_⟩
            rw [st, decide_eq_true cj, Bool.true_and]
          · have cj : ¬ c ≤ j := fun z => cj (decide_eq_true (by omega))
            refine ⟨q, _, _, rfl, rfl, hq2, lt, fin false ?_⟩
            rw [st, decide_eq_false cj, Bool.false_and]
    · obtain ⟨o6, o7, rfl, s6, hq2⟩ := q2
      rw [show ((N : Int) + 1).toNat = N + 1 by omega] at hq2
      have hx6 := s6 _ _ hx4
      refine ⟨_, rfl, .inl ⟨rfl, _, SqL.of hx6⟩, _, rfl, p, xs, _, rfl, rfl, hx6, small1000 (by omega), _, _, _, _, _, xs ++ [.ref q], rfl, Same.back (s4.trans s6) hp0, ?_, upd_same, by rw [List.length_append, lx]; rfl, fun j hj => ?_⟩
      · rw [upd_ne ntp.symm]
        exact s6 _ _ ht4
      have keep : ∀ {b : Addr} {M : List Int}, H6 b = some (.lst (bV N (rch M))) → upd H6 p (.lst (xs ++ [.ref q])) b = some (.lst (bV N (rch M))) := fun {b M} hb => by
        rw [upd_ne (fun z => ?_)]
        · exact hb
        · rw [z, hx6] at hb
          have := HO.lst.inj (Option.some.inj hb)
          obtain ⟨y0, hy0, r0, rfl, _⟩ := hr4 0 (Nat.zero_le _)
          rw [this, bV_get (Nat.zero_le _)] at hy0
          cases hy0
      by_cases cj : j ≤ i
      · obtain ⟨x, hx, r', rfl, hr'⟩ := hr4 j cj
        exact ⟨_, by rw [List.getElem?_append_left (by omega)]; exact hx, r', rfl, keep (s6 _ _ hr')⟩
      · obtain rfl : j = i + 1 := by omega
        refine ⟨.ref q, by rw [List.getElem?_append_right (by omega), lx, Nat.sub_self]; rfl, q, rfl, ?_⟩
        rw [ed]
        exact keep hq2
  · obtain ⟨o3, o4, o5, o6, o7, xs, rfl, s4, ht4, hx4, lx, hr4⟩ := q
    rw [lL] at lx hr4
    refine ⟨_, rfl, p, xs, rfl, SqL.of hx4, fun p6 hp6 => ?_⟩
    have s7 := Same.new (o := .lst xs.reverse) hp6
    refine k _ p6 (s4.trans s7) (none_of s4 hp6) ⟨xs.reverse, upd_same, by rw [List.length_reverse, lx], fun i hi => ?_⟩
    obtain ⟨x, hx, rr⟩ := hr4 (L.length - i) (by omega)
    refine ⟨x, ?_, ?_⟩
    · rw [List.getElem?_reverse (by omega), lx, ← hx]
      congr 1
    · rw [show L.length - (L.length - i) = i by omega] at rr
      exact rr.mono s7
end
end K5
namespace K5
open PySem PySem.Spec PyProof.Rows L2 RZ
/-- over a range, with a test: the numbers that pass -/
theorem lc_rangeP {N i : Nat} {tt : TT} {te : TE} {vs : List Nat} {σ : L2.St} {H : Hp} {D : Addr} {Qd : Hp → Prop} (p : Nat → Bool) (hD : H D = none) (ln : N ≤ 1000)
    (hw : ∀ x : V, wipe ((wipe σ vs).set i (some x)) vs = wipe σ vs)
    (ht : ∀ (n : Nat) (H1 : Hp) (Q : Bool → Hp → Prop), n < N → Same H H1 → (∀ H2, Same H1 H2 → Q (p n) H2) → tt ((wipe σ vs).set i (some (.int (0 + (n : Int))))) H1 Q)
    (he : ∀ (n : Nat) (H1 : Hp) (Q : VK), n < N → Same H H1 → Q (.int (n : Int)) H1 → te ((wipe σ vs).set i (some (.int (0 + (n : Int))))) H1 Q)
    (hd : ∀ H', Same H H' → H' D = some (.lst (((List.range N).filter p).map fun n : Nat => V.int (n : Int))) → Qd H') : LcW (Itr 0 N) (gName i) tt te vs σ H D Qd := by
  refine lc_it (walk_range (lo := 0) (n := N)) (fun n H' => Same H H' ∧ H' D = some (.lst (((List.range n).filter p).map fun n : Nat => V.int (n : Int)))) ⟨Same.new hD, upd_same⟩ (fun _ _ _ _ => trivial) (fun n x H1 H2 hn q y => ?_) fun H' q => hd H' q.1 q.2
  obtain ⟨rfl, rfl⟩ := y
  refine ⟨hw _, ht n _ _ hn q.1 fun H3 s3 => ?_⟩
  have er : (List.range (n + 1)).filter p = (List.range n).filter p ++ (if p n = true then [n] else []) := by
    rw [List.range_succ, List.filter_append, List.filter_cons, List.filter_nil]
  cases c : p n with
  | true =>
    refine iteT (he n _ _ hn (q.1.trans s3) ?_)
    have le := List.length_filter_le p (List.range n)
    rw [List.length_range] at le
    refine ⟨_, s3 _ _ q.2, small1000 (by rw [List.length_map]; omega), Same.back (q.1.trans s3) hD, ?_⟩
    rw [upd_same, er, c, if_pos rfl, List.map_append]
    rfl
  | false =>
    refine iteF ⟨q.1.trans s3, ?_⟩
    rw [er, c, if_neg Bool.false_ne_true, List.append_nil]
    exact s3 _ _ q.2
/-- a word and what it lacks -/
abbrev PairsV (K : PySem.W.Frag) (H : Hp) (xs : List V) (ps : List (List Int × Nat)) : Prop := Paired (fun x q => ∃ t b, x = V.ref t ∧ SqT K H t [.ref b, .int (q.2 : Int)] ∧ SqT K H b (iV q.1)) xs ps
theorem pr_mono {K : PySem.W.Frag} {H H' : Hp} {xs : List V} {ps : List (List Int × Nat)} (h : PairsV K H xs ps) (s : Same H H') : PairsV K H' xs ps := Paired.mapP h fun _ _ ⟨t, b, e, q, r⟩ => ⟨t, b, e, tupSame s q, tupSame s r⟩
theorem pr_len {K : PySem.W.Frag} {H : Hp} {xs : List V} {ps : List (List Int × Nat)} (h : PairsV K H xs ps) : xs.length = ps.length := Paired.length h
theorem pr_get {K : PySem.W.Frag} {H : Hp} {x : V} : ∀ {n : Nat} {xs : List V} {ps : List (List Int × Nat)}, PairsV K H xs ps → xs[n]? = some x → ∃ t b q, x = .ref t ∧ ps[n]? = some q ∧ SqT K H t [.ref b, .int (q.2 : Int)] ∧ SqT K H b (iV q.1)
  | 0, _, _, .cons ⟨t, b, e, q, r⟩ _, h => by
    cases h
    exact ⟨t, b, _, e, rfl, q, r⟩
  | n + 1, _ :: xs, _, .cons _ r, h => pr_get (n := n) r h
theorem pr_append {K : PySem.W.Frag} {H : Hp} : ∀ {xs ys : List V} {ps qs : List (List Int × Nat)}, PairsV K H xs ps → PairsV K H ys qs → PairsV K H (xs ++ ys) (ps ++ qs)
  | _, _, _, _, .nil, h => h
  | _, _, _, _, .cons a r, h => .cons a (pr_append r h)
/-- tuples stay when a list is written -/
theorem tup_put {K : PySem.W.Frag} {H : Hp} {D : Addr} {zs ws xs : List V} {b : Addr} (hD : H D = some (.lst zs)) (h : SqT K H b xs) : SqT K (upd H D (.lst ws)) b xs := by
  have st : ∀ b u, b ≠ D → H b = some u → upd H D (.lst ws) b = some u := fun b u nb e => by rw [upd_ne nb]; exact e
  rcases h with (h | ⟨o, h⟩) | h
  · exact .inl (.inl (st _ _ (ne_of h hD (by intro z; cases z)) h))
  · exact .inl (.inr ⟨o, st _ _ (ne_of h hD (by intro z; cases z)) h⟩)
  · exact .inr h
theorem pr_put {K : PySem.W.Frag} {H : Hp} {D : Addr} {zs ws xs : List V} {ps : List (List Int × Nat)} (hD : H D = some (.lst zs)) (h : PairsV K H xs ps) : PairsV K (upd H D (.lst ws)) xs ps := Paired.mapP h fun _ _ ⟨t, b, e, q, r⟩ => ⟨t, b, e, tup_put hD q, tup_put hD r⟩
theorem tv_put {K : PySem.W.Frag} {H : Hp} {D : Addr} {zs ws xs : List V} {ls : List (List Int)} (hD : H D = some (.lst zs)) (h : TupsV K H xs ls) : TupsV K (upd H D (.lst ws)) xs ls := Paired.mapP h fun _ _ ⟨t, e, q⟩ => ⟨t, e, tup_put hD q⟩
/-- over a list of numbers, each led to a pair -/
theorem lc_mkPairs {K : PySem.W.Frag} {a : Addr} {L : List Nat} {i : Nat} {te : TE} {vs : List Nat} {σ : L2.St} {H : Hp} {D : Addr} {Qd : Hp → Prop} (f : Nat → List Int × Nat) (hD : H D = none) (ha : SqL K H a (L.map fun n : Nat => V.int (n : Int))) (ln : L.length ≤ 1000)
    (hw : ∀ x : V, wipe ((wipe σ vs).set i (some x)) vs = wipe σ vs)
    (he : ∀ (n : Nat) (H1 : Hp) (Q : VK), n ∈ L → Same H H1 → (∀ H2 t b, Same H1 H2 → SqT K H2 t [.ref b, .int ((f n).2 : Int)] → SqT K H2 b (iV (f n).1) → Q (.ref t) H2) → te ((wipe σ vs).set i (some (.int (n : Int)))) H1 Q)
    (hd : ∀ H' ys, Same H H' → H' D = some (.lst ys) → PairsV K H' ys (L.map f) → Qd H') : LcW (Itl K a) (gName i) tYes te vs σ H D Qd := by
  refine lc_it (walk_list (xs := L.map fun n : Nat => V.int (n : Int))) (fun n H' => Same H H' ∧ ∃ ys, H' D = some (.lst ys) ∧ PairsV K H' ys ((L.take n).map f)) ⟨Same.new hD, [], upd_same, .nil⟩ (fun _ H' _ p => p.1.seq ha) (fun n x H1 H2 hn q y => ?_) fun H' q => ?_
  · obtain ⟨rfl, hx⟩ := y
    obtain ⟨q1, ys, q2, q3⟩ := q
    rw [List.getElem?_map] at hx
    obtain ⟨d, hd1, rfl⟩ := Option.map_eq_some_iff.mp hx
    have hm := List.mem_of_getElem? hd1
    refine ⟨hw _, iteT (B := True) (he d _ _ hm q1 fun H3 t b s3 h3 h4 => ?_)⟩
    have ly := pr_len q3
    rw [List.length_map, List.length_take] at ly
    have hD3 := s3 _ _ q2
    refine ⟨ys, hD3, small1000 (by omega), Same.back (q1.trans s3) hD, ys ++ [.ref t], upd_same, ?_⟩
    rw [take_more hd1, List.map_append]
    exact Paired.snoc (pr_put hD3 (pr_mono q3 s3)) ⟨t, b, rfl, tup_put hD3 h3, tup_put hD3 h4⟩
  · obtain ⟨q1, ys, q2, q3⟩ := q
    rw [List.length_map, List.take_length] at q3
    exact hd H' ys q1 q2 q3
/-- the words of a list of pairs -/
theorem lc_fst {K : PySem.W.Frag} {a : Addr} {xs : List V} {ps : List (List Int × Nat)} {i j : Nat} {te : TE} {vs : List Nat} {σ : L2.St} {H : Hp} {D : Addr} {Qd : Hp → Prop} (hD : H D = none) (ha : H a = some (.lst xs)) (hp : PairsV K H xs ps) (ln : ps.length ≤ 1000)
    (hw : ∀ x y : V, wipe (((wipe σ vs).set i (some x)).set j (some y)) vs = wipe σ vs)
    (he : ∀ (b : Addr) (y : V) (H1 : Hp) (Q : VK), Q (.ref b) H1 → te (((wipe σ vs).set i (some (.ref b))).set j (some y)) H1 Q)
    (hd : ∀ H' ys, Same H H' → H' D = some (.lst ys) → TupsV K H' ys (ps.map (·.1)) → Qd H') : LcW (Itl K a) (gTup K 2 (gCons (gName i) (gCons (gName j) gNil))) tYes te vs σ H D Qd := by
  have lx := pr_len hp
  refine lc_it (walk_list (xs := xs)) (fun n H' => Same H H' ∧ ∃ ys, H' D = some (.lst ys) ∧ TupsV K H' ys ((ps.take n).map (·.1))) ⟨Same.new hD, [], upd_same, .nil⟩ (fun _ H' _ p => SqL.of (p.1 _ _ ha)) (fun n x H1 H2 hn q y => ?_) fun H' q => ?_
  · obtain ⟨rfl, hy⟩ := y
    obtain ⟨q1, ys, q2, q3⟩ := q
    obtain ⟨t, b, r, rfl, hr, h3, h4⟩ := pr_get (pr_mono hp q1) hy
    refine ⟨t, [.ref b, .int (r.2 : Int)], rfl, h3, rfl, .ref b, [.int (r.2 : Int)], rfl, .int (r.2 : Int), [], rfl, rfl, hw _ _, iteT (B := True) (he b _ _ _ ?_)⟩
    have ly := tv_len q3
    rw [List.length_map, List.length_take] at ly
    refine ⟨ys, q2, small1000 (by omega), Same.back q1 hD, ys ++ [.ref b], upd_same, ?_⟩
    rw [take_more hr, List.map_append]
    exact Paired.snoc (tv_put q2 q3) ⟨b, rfl, tup_put q2 h4⟩
  · obtain ⟨q1, ys, q2, q3⟩ := q
    rw [lx, List.take_length] at q3
    exact hd H' ys q1 q2 q3
end K5
namespace K5
open PySem PySem.Spec PyProof.Rows L2 RZ
theorem lwk_len {L : List Int} {ps : List (List Int × Nat)} (hp : Pos1 L) (hr : ∀ q ∈ ps, rch L q.2 = true) : ps.length ≤ (lwk L ps).length := by
  have e := congrArg List.length (lwk_words L ps hp hr)
  rw [List.length_map, List.length_flatMap] at e
  rw [e]
  clear e
  induction ps with
  | nil => exact Nat.le_refl _
  | cons q ps ih =>
    have h0 := of_decide_eq_true (hr q List.mem_cons_self)
    have := ih fun y hy => hr y (List.mem_cons_of_mem _ hy)
    rw [List.map_cons, List.sum_cons, List.length_cons, List.length_map, wds_len L _ hp]
    omega
theorem lstep_append (h : Int) (L : List Int) (ps qs : List (List Int × Nat)) : lstep h L (ps ++ qs) = lstep h L ps ++ lstep h L qs := List.flatMap_append
theorem lstep_reach {h : Int} {L : List Int} {ps : List (List Int × Nat)} : ∀ q ∈ lstep h L ps, rch L q.2 = true := fun q hq => by
  obtain ⟨q', _, hm⟩ := List.mem_flatMap.mp hq
  obtain ⟨e, he, rfl⟩ := List.mem_map.mp hm
  exact (List.mem_filter.mp he).2
theorem lstep_in {h : Int} {L : List Int} {ps : List (List Int × Nat)} {i d : Nat} (hp : ∀ q ∈ ps, q.1.length = i ∧ q.2 ≤ d) : ∀ q ∈ lstep h L ps, q.1.length = i + 1 ∧ q.2 ≤ d := fun q hq => by
  obtain ⟨q', h1, hm⟩ := List.mem_flatMap.mp hq
  obtain ⟨e, he, rfl⟩ := List.mem_map.mp hm
  obtain ⟨a, b⟩ := hp q' h1
  refine ⟨?_, ?_⟩
  · show (q'.1 ++ [(e : Int)]).length = _
    rw [List.length_append, a]
    rfl
  · show q'.2 - e * h.toNat ≤ d
    omega
def spLWords (K : PySem.W.Frag) : Sp := fun vs H Q _ => ∃ (a : Addr) (L : List Int) (N : Nat), vs = [.ref a, .int (N : Int)] ∧ SqT K H a (iV L) ∧ Lt L ∧ N ≤ 80 ∧ cnt L N ≤ 900 ∧ ∀ H' p xs, Same H H' → H p = none → H' p = some (.lst xs) → TupsV K H' xs (wds L N) → Q (.ref p) H'
abbrev nLW : List Str := ["letters", "degree", "reached", "found", "index", "here", "longer", "begun", "left", "most", "some", "many", "word"]
theorem scLW : FnScope nLW ["letters", "degree"] (defScope sLWords) := ⟨rfl, rfl, rfl, by decide +kernel, rfl, by decide +kernel, by decide +kernel⟩
section
variable {P : Program} {w : World} {K : PySem.W.Frag} {mg : Str → Option Value} {base : Heap} {fR : Addr} {dR : FuncData}
abbrev ttLW (K : PySem.W.Frag) : TT := tTest (tOp (rIxL K) (tOp (rIxL K) (tVar 2) (tOp (rI0 fun i j => .int (i + j)) (tVar 4) (tC (.int 1)))) (tOp (rI0 fun i j => .int (i - j)) (tVar 8) (tOp (rI CMul fun i j => .int (i * j)) (tVar 11) (tVar 5))))
abbrev teLW (K : PySem.W.Frag) : TE := tTup (tCons (tOp (rCatA K) (tVar 7) (tTup (tCons (tVar 11) tNil))) (tCons (tOp (rI0 fun i j => .int (i - j)) (tVar 8) (tOp (rI CMul fun i j => .int (i * j)) (tVar 11) (tVar 5))) tNil))
theorem ok_lwords {f : Addr} {fd : FuncData} (F : Fun K "_law_words" "_law_words" sLWords f fd) (T : Txt K mg) (gR : mg "_law_reached" = some (.ref fR)) (kR : PySem.W.keepIn K (.ref fR) = true) (bR : Binds K dR ["letters", "degree"] [])
    (FR : FnOk P w K mg base CX0 1 fR dR ["letters", "degree"] (spReach K)) : FnOk P w K mg base CX0 2 f fd ["letters", "degree"] (spLWords K) := by
  refine F.ok scLW (fun vs H Q E h => ?_) (fun cdv A outer s H vs Q E hr h => ?_)
  · obtain ⟨a, L, N, rfl, _⟩ := h; rfl
  obtain ⟨a, L, N, rfl, ha, hL, hN, hcn, k⟩ := h
  refine ⟨_, pss_cons (ps_set (i := 2) scLW.nd rfl (.inr rfl) (pe_call FR hr (by rfl) gR kR bR .nil pass0 (pa_cons (pv 0) (pa_cons (pv 1) pa_nil))))
    (C8.pss_cut (ps_set (i := 3) scLW.nd rfl (.inl rfl) (pe_ifExp (pt_val (pe_ix ix_list (pe_ix ix_list (pv 2) pe_int (fun _ _ => rfl)) (pv 1) (fun _ _ => rfl))) (pe_lst (pa_cons (pe_tup (pa_cons (pe_tup pa_nil) (pa_cons (pv 1) pa_nil))) pa_nil)) (pe_lst pa_nil)))
    (pss_cons (ps_for PassesOwn.never rfl (pi_enumT (by rfl) T.enumerate (pa_cons (pv 0) pa_nil)) (pg_tup (by rfl) (pgs_cons (pg_name (i := 4) scLW.nd rfl (.inr rfl)) (pgs_cons (pg_name (i := 5) scLW.nd rfl (.inr rfl)) pgs_nil)))
      (pss_cons (ps_set (i := 6) scLW.nd rfl (.inl rfl) (pe_lst pa_nil))
      (pss_cons (ps_for PassesOwn.never rfl (pi_list (pv 3)) (pg_tup (by rfl) (pgs_cons (pg_name (i := 7) scLW.nd rfl (.inr rfl)) (pgs_cons (pg_name (i := 8) scLW.nd rfl (.inr rfl)) pgs_nil)))
        (C8.pss_cut (ps_set (i := 9) scLW.nd rfl (.inl rfl) (pe_ifExp (pt_cmpR op_eq (pe_op op_mod (pv 5) pe_int) pe_int (nomark _)) (pe_op op_fdiv (pv 8) (pv 5)) (pe_callB (call_min2 rfl) (by rfl) T.min bootMin (pa_cons pe_int (pa_cons (pe_op op_fdiv (pv 8) (pv 5)) pa_nil)))))
        (pss_cons (ps_setLc (i := 10) (tt := ttLW K) (te := tVar 11) (own := [("many", 11)]) (g := gName 11) rfl scLW.nd rfl rfl (by rfl) (pi_range1 rfl T.range (pa_cons (pe_op op_add (pv 9) pe_int) pa_nil)) (blkOk_by (N := nLW) (sc := defScope sLWords) (by decide +kernel))
            (fun _ _ _ _ _ => pg_name (i := 11) scLW.nd rfl (Or.inl rfl)) (fun _ _ _ _ _ => pts_one (pt_val (pe_ix ix_list (pe_ix ix_list (pv 2) (pe_op op_add (pv 4) pe_int) (fun _ _ => rfl)) (pe_op op_sub (pv 8) (pe_op op_mul (pv 11) (pv 5))) (fun _ _ => rfl)))) (fun _ _ _ _ _ => pv 11))
        (pss_one (ps_expr (pe_bm PySem.F.plainAttrs_list PySem.F.slot_list_extend PySem.F.type_list_extend mt_extend (pv 6) (pa_cons (pe_lc (te := teLW K) (own := [("many", 11)]) (g := gName 11) rfl scLW.nd (pi_list (pv 10)) (blkOk_by (N := nLW) (sc := defScope sLWords) (by decide +kernel))
            (fun _ _ _ _ _ => pg_name (i := 11) scLW.nd rfl (Or.inl rfl)) (fun _ _ _ _ _ => pts_nil) (fun _ _ _ _ _ => pe_tup (pa_cons (pe_op op_catA (pv 7) (pe_tup (pa_cons (pv 11) pa_nil))) (pa_cons (pe_op op_sub (pv 8) (pe_op op_mul (pv 11) (pv 5))) pa_nil)))) pa_nil)))))))
      (pss_one (ps_set (i := 3) scLW.nd rfl (.inl rfl) (pe_callTy call_list_of (by rfl) T.list bootList (pa_cons (pv 6) pa_nil)))))))
    (pss_one (ps_ret (pe_lc (te := tVar 12) (own := [("word", 12), ("left", 8)]) (g := gTup K 2 (gCons (gName 12) (gCons (gName 8) gNil))) rfl scLW.nd (pi_list (pv 3)) (blkOk_by (N := nLW) (sc := defScope sLWords) (by decide +kernel))
      (fun _ _ _ _ _ => pg_tup (by rfl) (pgs_cons (pg_name (i := 12) scLW.nd rfl (.inl rfl)) (pgs_cons (pg_name (i := 8) scLW.nd rfl (.inl rfl)) pgs_nil))) (fun _ _ _ _ _ => pts_nil) (fun _ _ _ _ _ => pv 12)))))), ?_⟩
  have h24 := hL.len
  have lL : (iV L).length = L.length := List.length_map _
  refine ⟨_, rfl, _, rfl, a, L, N, rfl, ha, hL, hN, fun H1 c s1 hc1 hc => ?_⟩
  obtain ⟨cs, hcs, lcs, hrow⟩ := hc
  obtain ⟨x0, g0, r0, rfl, hr0⟩ := hrow 0 (Nat.zero_le _)
  rw [List.drop_zero] at hr0
  refine ⟨fun σ H' => ∃ q xs0, σ = [some (.ref a), some (.int (N : Int)), some (.ref c), some (.ref q), none, none, none, none, none, none, none, none, none] ∧ Same H1 H' ∧ H' q = some (.lst xs0) ∧ PairsV K H' xs0 (lfirst L N),
    ⟨_, rfl, c, cs, _, _, rfl, rfl, SqL.of hcs, atI_nat g0, _, rfl, r0, _, _, _, rfl, rfl, SqL.of hr0, atI_nat (bV_get (Nat.le_refl _)), _, rfl, ite2 (fun ct => ?_) (fun ct => ?_)⟩, ?_⟩
  · refine ⟨(by show 0 ≤ sizeLine; decide), fun t1 ht1 => ⟨_, rfl, (by show 2 ≤ sizeLine; decide), fun t2 ht2 => ⟨(by show 1 ≤ sizeLine; decide), fun q hq => ?_⟩⟩⟩
    have u1 := Same.new (o := .tup []) ht1
    have u2 := Same.new (o := .tup [.ref t1, .int (N : Int)]) ht2
    have u3 := Same.new (o := .lst [.ref t2]) hq
    refine ⟨q, _, rfl, u1.trans (u2.trans u3), upd_same, ?_⟩
    unfold lfirst
    rw [if_pos ct]
    exact .cons ⟨t2, t1, rfl, SqT.of (u3 _ _ upd_same), SqT.of ((u2.trans u3) _ _ upd_same)⟩ .nil
  · refine ⟨(by show 0 ≤ sizeLine; decide), fun q hq => ⟨q, _, rfl, Same.new hq, upd_same, ?_⟩⟩
    unfold lfirst
    rw [if_neg ct]
    exact .nil
  rintro σ0 H2 ⟨q, xs0, rfl, s2, hq2, pr0⟩
  have lf1 : ∀ z ∈ lfirst L N, rch L z.2 = true ∧ z.1.length = 0 ∧ z.2 ≤ N := by
    intro z hz
    unfold lfirst at hz
    split at hz
    · rw [List.mem_singleton.mp hz]
      rename_i e
      exact ⟨e, rfl, Nat.le_refl _⟩
    · cases hz
  have lW : (lwk L (lfirst L N)).length = cnt L N := by
    rw [← wds_len L N hL.pos, ← lw_words hL.pos, List.length_map]
  refine ⟨_, rfl, a, iV L, rfl, tupSame (s1.trans s2) ha, for_it (walk_enumT (xs := iV L)) (fun i σ H' => ∃ (q : Addr) (xs0 : List V) (ps : List (List Int × Nat)) (o4 o5 o6 o7 o8 o9 o10 o11 o12 : Option V), σ = [some (.ref a), some (.int (N : Int)), some (.ref c), some (.ref q), o4, o5, o6, o7, o8, o9, o10, o11, o12] ∧ Same H1 H' ∧ H' q = some (.lst xs0) ∧ PairsV K H' xs0 ps ∧ (∀ z ∈ ps, z.1.length = i ∧ z.2 ≤ N) ∧ (∀ z ∈ ps, rch (L.drop i) z.2 = true) ∧ lwk (L.drop i) ps = lwk L (lfirst L N))
    ⟨q, xs0, _, _, _, _, _, _, _, _, _, _, rfl, s2, hq2, pr0, fun z hz => (lf1 z hz).2, fun z hz => (lf1 z hz).1, rfl⟩ (fun i σ H' _ q => ?_) (fun i x σ H3 H4 hi q y => ?_) fun σ H3 q => ?_⟩
  · obtain ⟨q, xs0, ps, o4, o5, o6, o7, o8, o9, o10, o11, o12, rfl, s3, _⟩ := q
    exact tupSame (s1.trans s3) ha
  · obtain ⟨q, xs0, ps, o4, o5, o6, o7, o8, o9, o10, o11, o12, rfl, s3, hq3, pr3, hin, hre, hlw⟩ := q
    obtain ⟨TT', u, v, rfl, hT, rfl, hu, hv⟩ := y
    have hu : some (V.int (i : Nat)) = some u := hu
    have hv : (iV L)[i]? = some v := hv
    cases hu
    rw [lL] at hi
    rw [List.getElem?_map] at hv
    obtain ⟨d, hd1, rfl⟩ := Option.map_eq_some_iff.mp hv
    have dm := List.mem_of_getElem? hd1
    have b1 := hL.lo d dm
    have b2 := hL.hi d dm
    obtain ⟨g, rfl⟩ : ∃ g : Nat, d = (g : Int) := ⟨d.toNat, by omega⟩
    have ed : L.drop i = (g : Int) :: L.drop (i + 1) := List.drop_eq_getElem?_toList_append.trans (by rw [hd1]; rfl)
    have hlw' : lwk (L.drop (i + 1)) (lstep (g : Int) (L.drop (i + 1)) ps) = lwk L (lfirst L N) := by
      rw [← hlw, ed]
      rfl
    have hstep : (lstep (g : Int) (L.drop (i + 1)) ps).length ≤ 900 := by
      have := lwk_len (hL.drop (i + 1)) (lstep_reach (h := (g : Int)) (L := L.drop (i + 1)) (ps := ps))
      rw [hlw', lW] at this
      omega
    have hpre : ∀ j, (lstep (g : Int) (L.drop (i + 1)) (ps.take j)).length ≤ 900 := fun j => by
      have e := lstep_append (g : Int) (L.drop (i + 1)) (ps.take j) (ps.drop j)
      rw [List.take_append_drop] at e
      rw [e, List.length_append] at hstep
      omega
    have s4 : Same H3 (upd H3 TT' (.tup [.int (i : Nat), .int (g : Int)])) := Same.new hT
    obtain ⟨x1, g1, r1, rfl, hr1⟩ := hrow (i + 1) (by omega)
    refine ⟨TT', [.int (i : Nat), .int (g : Int)], rfl, SqT.of upd_same, rfl, .int (i : Nat), [.int (g : Int)], rfl, .int (g : Int), [], rfl, rfl, ?_⟩
    generalize upd H3 TT' (.tup [.int (i : Nat), .int (g : Int)]) = H4 at *
    refine ⟨(by show 0 ≤ sizeLine; decide), fun r hr => ?_⟩
    have s5 := Same.new (o := .lst []) hr
    refine ⟨_, rfl, q, rfl, ⟨_, SqL.of ((s4.trans s5) _ _ hq3)⟩, for_it (walk_list (xs := xs0)) (fun j σ H'' => ∃ (zs : List V) (o7 o8 o9 o10 o11 o12 : Option V), σ = [some (.ref a), some (.int (N : Int)), some (.ref c), some (.ref q), some (.int (i : Nat)), some (.int (g : Int)), some (.ref r), o7, o8, o9, o10, o11, o12] ∧ Same H4 H'' ∧ H'' r = some (.lst zs) ∧ PairsV K H'' zs (lstep (g : Int) (L.drop (i + 1)) (ps.take j)))
      ⟨[], _, _, _, _, _, _, rfl, s5, upd_same, .nil⟩ (fun j σ H'' _ q2 => ?_) (fun j x σ H6 H7 hj q2 y => ?_) fun σ H6 q2 => ?_⟩
    · obtain ⟨zs, o7, o8, o9, o10, o11, o12, rfl, s6, _⟩ := q2
      exact SqL.of ((s4.trans s6) _ _ hq3)
    · obtain ⟨zs, o7, o8, o9, o10, o11, o12, rfl, s6, hz6, pr6⟩ := q2
      obtain ⟨rfl, hx⟩ := y
      obtain ⟨t, b, rq, rfl, hrq, h3, h4⟩ := pr_get (pr_mono pr3 (s4.trans s6)) hx
      have rm := List.mem_of_getElem? hrq
      obtain ⟨rl, rN⟩ := hin rq rm
      refine ⟨t, [.ref b, .int (rq.2 : Int)], rfl, h3, rfl, .ref b, [.int (rq.2 : Int)], rfl, .int (rq.2 : Int), [], rfl, rfl, ?_⟩
      have dv : (rq.2 : Int) / (g : Int) = ((rq.2 / g : Nat) : Int) := rfl
      refine ⟨fun σ H' => H' = H7 ∧ σ = [some (.ref a), some (.int (N : Int)), some (.ref c), some (.ref q), some (.int (i : Nat)), some (.int (g : Int)), some (.ref r), some (.ref b), some (.int (rq.2 : Int)), some (.int (mx (g : Int) rq.2 : Int)), o10, o11, o12],
        ⟨_, rfl, _, _, rfl, rfl, (by show (0 : Int) < 2; decide), rfl, _, rfl, ite2 (fun ct => ?_) (fun ct => ?_)⟩, ?_⟩
      · have ct := V.int.inj (of_decide_eq_true ct)
        refine ⟨_, rfl, _, rfl, _, _, rfl, rfl, ⟨by omega, by omega⟩, rfl, ?_⟩
        have em : ((mx (g : Int) rq.2 : Nat) : Int) = (rq.2 : Int) / (g : Int) := by
          unfold mx
          rw [Int.toNat_natCast, if_neg (show ¬ g % 2 = 1 by omega)]
          rfl
        rw [em]
        rfl
      · have ct : ¬ ((g : Int) % 2 = 0) := fun z => ct (decide_eq_true (congrArg V.int z))
        refine ⟨_, rfl, _, rfl, _, _, rfl, rfl, ⟨by omega, by omega⟩, _, _, rfl, rfl, ?_⟩
        have em : ((mx (g : Int) rq.2 : Nat) : Int) = if (rq.2 : Int) / (g : Int) < 1 then (rq.2 : Int) / (g : Int) else 1 := by
          unfold mx
          rw [Int.toNat_natCast, if_pos (show g % 2 = 1 by omega), dv]
          generalize rq.2 / g = z
          split <;> omega
        rw [em]
        rfl
      rintro σ1 H8 ⟨rfl, rfl⟩
      have ml : mx (g : Int) rq.2 * g ≤ rq.2 := by
        have : mx (g : Int) rq.2 ≤ rq.2 / g := by
          unfold mx
          rw [Int.toNat_natCast]
          split <;> omega
        exact (Nat.le_div_iff_mul_le (by omega)).mp this
      have mN : mx (g : Int) rq.2 ≤ 80 := by
        have : mx (g : Int) rq.2 ≤ mx (g : Int) rq.2 * g := Nat.le_mul_of_pos_right _ (by omega)
        omega
      have il : ∀ e, e < mx (g : Int) rq.2 + 1 → e * g ≤ rq.2 := fun e he => Nat.le_trans (Nat.mul_le_mul_right g (by omega)) ml
      have il' : ∀ e : Nat, e < mx (g : Int) rq.2 + 1 → (rq.2 : Int) - (e : Int) * (g : Int) = ((rq.2 - e * g : Nat) : Int) := fun e he => by
        have := il e he
        rw [← Int.natCast_mul]
        omega
      have s8 := s3.trans (s4.trans s6)
      refine ⟨_, rfl, _, _, rfl, rfl, _, rfl, by omega, by omega, fun D hD => lc_rangeP (N := mx (g : Int) rq.2 + 1) (fun e => rch (L.drop (i + 1)) (rq.2 - e * g)) hD (by omega) (fun _ => rfl) (fun n H9 Q9 hn s9 k9 => ?_) (fun n H9 Q9 hn s9 k9 => ?_) fun H9 s9 hD9 => ?_⟩
      · refine ⟨_, rfl, _, rfl, _, _, rfl, rfl, c, cs, _, _, rfl, rfl, SqL.of ((s8.trans s9) _ _ hcs), by rw [show ((i : Nat) : Int) + 1 = ((i + 1 : Nat) : Int) from rfl]; exact atI_nat g1, _, rfl, _, rfl, _, rfl, _, _, rfl, rfl, .inr ⟨by omega, by omega⟩, _, _, rfl, rfl, r1, _, _, _, rfl, rfl, SqL.of ((s8.trans s9) _ _ hr1), ?_, _, rfl, k9 H9 (Same.refl _)⟩
        rw [Int.zero_add, il' n hn]
        exact atI_nat (bV_get (by omega))
      · refine ⟨_, rfl, ?_⟩
        rw [Int.zero_add]
        exact k9
      · have lf := List.length_filter_le (fun e => rch (L.drop (i + 1)) (rq.2 - e * g)) (List.range (mx (g : Int) rq.2 + 1))
        rw [List.length_range] at lf
        refine ⟨_, rfl, .inl ⟨rfl, _, SqL.of (s9 _ _ hz6)⟩, _, rfl, D, rfl, ⟨_, SqL.of hD9⟩, fun D2 hD2 => lc_mkPairs (fun e => (rq.1 ++ [(e : Int)], rq.2 - e * g)) hD2 (SqL.of hD9) (by omega) (fun _ => rfl) (fun n H10 Q10 hn s10 k10 => ?_) fun H10 ys s10 hy pv10 => ?_⟩
        · have hn2 := List.mem_range.mp (List.mem_filter.mp hn).1
          refine ⟨_, rfl, _, rfl, (by show 1 ≤ sizeLine; decide), fun t1 ht1 => ?_⟩
          have u1 := Same.new (o := .tup [.int (n : Int)]) ht1
          refine cat_tup (xs := iV rq.1) (ys := iV [(n : Int)]) (tupSame (s9.trans (s10.trans u1)) h4) (SqT.of upd_same) (by rw [List.length_map, rl]; show i + 1 ≤ 1000; omega) fun H11 p11 s11 h11 => ?_
          refine ⟨_, rfl, _, rfl, _, rfl, _, _, rfl, rfl, .inr ⟨by omega, by omega⟩, _, _, rfl, rfl, (by show 2 ≤ sizeLine; decide), fun t2 ht2 => ?_⟩
          have u2 : Same H11 (upd H11 t2 (.tup [.ref p11, .int ((rq.2 : Int) - (n : Int) * (g : Int))])) := Same.new ht2
          refine k10 _ t2 p11 (u1.trans (s11.trans u2)) (by rw [← il' n hn2]; exact SqT.of upd_same) ?_
          show SqT K _ p11 (List.map V.int (rq.1 ++ [(n : Int)]))
          rw [List.map_append]
          exact tupSame u2 h11
        · have hz10 := s10 _ _ (s9 _ _ hz6)
          have e1 : lstep (g : Int) (L.drop (i + 1)) (ps.take (j + 1)) = lstep (g : Int) (L.drop (i + 1)) (ps.take j) ++ ((List.range (mx (g : Int) rq.2 + 1)).filter fun e => rch (L.drop (i + 1)) (rq.2 - e * g)).map fun e : Nat => (rq.1 ++ [(e : Int)], rq.2 - e * g) := by
            rw [take_more hrq, lstep_append]
            congr 1
            show lstep (g : Int) (L.drop (i + 1)) [rq] = _
            unfold lstep
            rw [List.flatMap_cons, List.flatMap_nil, List.append_nil]
            rfl
          have l1 := pr_len pr6
          have l2 := pr_len pv10
          have l3 := hpre (j + 1)
          rw [e1, List.length_append, ← l1, ← l2] at l3
          refine ⟨r, D2, zs, ys, rfl, rfl, hz10, hy, Nat.le_of_lt (small1000 (by omega)), zs ++ ys, _, _, _, _, _, _, rfl, Same.back (s6.trans (s9.trans s10)) hr, upd_same, ?_⟩
          rw [e1]
          exact pr_append (pr_put hz10 (pr_mono pr6 (s9.trans s10))) (pr_put hz10 pv10)
    · obtain ⟨zs, o7, o8, o9, o10, o11, o12, rfl, s6, hz6, pr6⟩ := q2
      rw [pr_len pr3, List.take_length] at pr6
      refine ⟨_, rfl, r, zs, rfl, .inl (SqL.of hz6), fun q2 hq2 => ?_⟩
      have s7 := Same.new (o := .lst zs) hq2
      exact ⟨q2, zs, _, _, _, _, _, _, _, _, _, _, rfl, s3.trans (s4.trans (s6.trans s7)), upd_same, pr_mono pr6 s7, lstep_in hin, lstep_reach, hlw'⟩
  · obtain ⟨q, xs0, ps, o4, o5, o6, o7, o8, o9, o10, o11, o12, rfl, s3, hq3, pr3, hin, hre, hlw⟩ := q
    rw [lL, List.drop_length] at hlw
    have hlw : ps = lwk L (lfirst L N) := hlw
    subst hlw
    refine ⟨_, rfl, q, rfl, ⟨_, SqL.of hq3⟩, fun D hD => lc_fst hD hq3 pr3 (by omega) (fun _ _ => rfl) (fun b y H9 Q9 k9 => ⟨_, rfl, k9⟩) fun H9 ys s9 hD9 tv => ?_⟩
    rw [lw_words hL.pos] at tv
    exact k H9 D ys (s1.trans (s3.trans s9)) (none_of (s1.trans s3) hD) hD9 tv
end
end K5
namespace K5
open PySem PySem.Spec PyProof.Rows L2 RZ
def nI (f : Nat → Nat) : Nat → Int := fun k => (f k : Int)
def s1 (L : List Int) (i : Nat) : Nat → Nat := ((L.take i).filter fun h => decide (h % 2 = 1)).foldl (fun f h => op h.toNat f) dl
def s2 (L : List Int) (i : Nat) : Nat → Nat := ((L.take i).filter fun h => decide (h % 2 = 0)).foldl (fun f h => op h.toNat f) (s1 L L.length)
theorem s2_end {L : List Int} (hp : Pos1 L) : s2 L L.length = cnt L := by
  unfold s2 s1
  rw [List.take_length]
  exact cnt_series hp
theorem fold_step {L : List Int} {i : Nat} {h : Int} {p : Int → Bool} {f0 : Nat → Nat} (hi : L[i]? = some h) : ((L.take (i + 1)).filter p).foldl (fun f h => op h.toNat f) f0 = if p h = true then op h.toNat (((L.take i).filter p).foldl (fun f h => op h.toNat f) f0) else ((L.take i).filter p).foldl (fun f h => op h.toNat f) f0 := by
  rw [take_filter hi, List.foldl_append]
  split
  · rfl
  · rfl
def halfE (a : Nat) (f : Nat → Nat) (i : Nat) : Nat → Int := fun k => if k < a + i then (opE a f k : Int) else (f k : Int)
def spSer (K : PySem.W.Frag) : Sp := fun vs H Q _ => ∃ (a : Addr) (L : List Int) (N : Nat), vs = [.ref a, .int (N : Int)] ∧ SqT K H a (iV L) ∧ Lt L ∧ N ≤ 80 ∧ ∀ H' p, Same H H' → H' p = some (.lst (iV (rowOf N (nI (cnt L))))) → Q (.ref p) H'
abbrev nSer : List Str := ["letters", "most", "found", "here", "at"]
theorem scSer : FnScope nSer ["letters", "most"] (defScope sSeries) := ⟨rfl, rfl, rfl, by decide +kernel, rfl, by decide +kernel, by decide +kernel⟩
abbrev teSer (K : PySem.W.Frag) : TE := tOp (rI0 fun i j => .int (i + j)) (tOp (rIxL K) (tVar 2) (tVar 4)) (tIf (tTest (tOp (rI0 fun i j => .bl (decide (j ≤ i))) (tVar 4) (tVar 3))) (tOp (rIxL K) (tVar 2) (tOp (rI0 fun i j => .int (i - j)) (tVar 4) (tVar 3))) (tC (.int 0)))
section
variable {P : Program} {w : World} {K : PySem.W.Frag} {mg : Str → Option Value} {base : Heap}
theorem ok_series {f : Addr} {fd : FuncData} (F : Fun K "_law_by_series" "_law_by_series" sSeries f fd) (T : Txt K mg) : FnOk P w K mg base CX0 1 f fd ["letters", "most"] (spSer K) := by
  refine F.ok scSer (fun vs H Q E h => ?_) (fun cdv A outer s H vs Q E hr h => ?_)
  · obtain ⟨a, L, N, rfl, _⟩ := h; rfl
  obtain ⟨a, L, N, rfl, ha, hL, hN, k⟩ := h
  refine ⟨_, pss_cons (ps_set (i := 2) scSer.nd rfl (.inr rfl) (pe_op op_cat (pe_lst (pa_cons pe_int pa_nil)) (pe_op op_rep (pe_lst (pa_cons pe_int pa_nil)) (pv 1))))
    (pss_cons (ps_for PassesOwn.never rfl (pi_tup (pv 0)) (pg_name (i := 3) scSer.nd rfl (.inr rfl))
      (pss_one (ps_if (pt_cmpR op_eq (pe_op op_mod (pv 3) pe_int) pe_int (nomark _))
        (pss_one (ps_set (i := 2) scSer.nd rfl (.inr rfl) (pe_lc (te := teSer K) (own := [("at", 4)]) (g := gName 4) rfl scSer.nd (pi_range1 rfl T.range (pa_cons (pe_op op_add (pv 1) pe_int) pa_nil)) (blkOk_by (N := nSer) (sc := defScope sSeries) (by decide +kernel))
          (fun _ _ _ _ _ => pg_name (i := 4) scSer.nd rfl (Or.inl rfl)) (fun _ _ _ _ _ => pts_nil) (fun _ _ _ _ _ => pe_op op_add (pe_ix ix_list (pv 2) (pv 4) (fun _ _ => rfl)) (pe_ifExp (pt_cmpR op_ge (pv 4) (pv 3) (nomark _)) (pe_ix ix_list (pv 2) (pe_op op_sub (pv 4) (pv 3)) (fun _ _ => rfl)) pe_int))))) pss_nil)))
    (pss_cons (ps_for PassesOwn.never rfl (pi_tup (pv 0)) (pg_name (i := 3) scSer.nd rfl (.inr rfl))
      (pss_one (ps_if (pt_cmpR op_eq (pe_op op_mod (pv 3) pe_int) pe_int (nomark _))
        (pss_one (ps_for PassesOwn.never rfl (pi_range2 rfl T.range (pa_cons (pv 3) (pa_cons (pe_op op_add (pv 1) pe_int) pa_nil))) (pg_name (i := 4) scSer.nd rfl (.inl rfl))
          (pss_one (ps_asg (pe_op op_add (pe_ix ix_list (pv 2) (pv 4) (fun _ _ => rfl)) (pe_ix ix_list (pv 2) (pe_op op_sub (pv 4) (pv 3)) (fun _ _ => rfl))) (pg_sub (pv 2) (pv 4) set_list))))) pss_nil)))
    (pss_one (ps_ret (pv 2))))), ?_⟩
  have h24 := hL.len
  have lL : (iV L).length = L.length := List.length_map _
  have big : N + 1 ≤ sizeLine := Nat.le_of_lt (small1000 (by omega))
  refine ⟨(by show 1 ≤ sizeLine; decide), fun p1 hp1 => ⟨(by show 1 ≤ sizeLine; decide), fun p2 hp2 => ⟨_, rfl, p2, N, [.int 0], rfl, rfl, upd_same, by omega, by omega, by show 1 * ((N : Nat) : Int).toNat ≤ sizeLine; omega, fun p3 hp3 => ?_⟩⟩⟩
  have t1 := Same.new (o := .lst [.int 1]) hp1
  have t2 := Same.new (o := .lst [.int 0]) hp2
  have t3 := Same.new (o := .lst (List.replicate ((N : Nat) : Int).toNat [V.int 0]).flatten) hp3
  have e0 : [V.int 1] ++ (List.replicate ((N : Nat) : Int).toNat [V.int 0]).flatten = iV (rowOf N (nI (s1 L 0))) := by
    rw [Int.toNat_natCast, List.flatten_replicate_singleton]
    unfold rowOf
    rw [List.range_succ_eq_map, List.map_cons, iV, List.map_cons, List.map_map, List.map_map]
    show V.int 1 :: _ = V.int 1 :: _
    congr 1
    rw [show ((V.int ∘ nI (s1 L 0)) ∘ Nat.succ) = fun _ => V.int 0 from rfl, List.map_const', List.length_range]
    rfl
  refine ⟨p1, p3, _, _, rfl, rfl, (t2.trans t3) _ _ upd_same, upd_same, ?_, fun p4 hp4 => ?_⟩
  · rw [Int.toNat_natCast, List.flatten_replicate_singleton, List.length_replicate]
    show 1 + N ≤ sizeLine
    omega
  rw [e0]
  have t4 := Same.new (o := .lst (iV (rowOf N (nI (s1 L 0))))) hp4
  have t14 := t1.trans (t2.trans (t3.trans t4))
  refine ⟨_, rfl, a, rfl, ⟨_, tupSame t14 ha⟩, for_it (walk_tup (xs := iV L)) (fun i σ H' => ∃ (q : Addr) (o3 o4 : Option V), σ = [some (.ref a), some (.int (N : Int)), some (.ref q), o3, o4] ∧ Same H H' ∧ H q = none ∧ H' q = some (.lst (iV (rowOf N (nI (s1 L i))))))
    ⟨p4, _, _, rfl, t14, none_of (t1.trans (t2.trans t3)) hp4, upd_same⟩ (fun i σ H' _ q => ?_) (fun i x σ H1 H2 hi q y => ?_) fun σ H1 q => ?_⟩
  · obtain ⟨q, o3, o4, rfl, u1, _⟩ := q
    exact tupSame u1 ha
  · obtain ⟨q, o3, o4, rfl, u1, hq0, hq1⟩ := q
    obtain ⟨rfl, hx⟩ := y
    rw [List.getElem?_map] at hx
    obtain ⟨d, hd, rfl⟩ := Option.map_eq_some_iff.mp hx
    have dm := List.mem_of_getElem? hd
    have b1 := hL.lo d dm
    have b2 := hL.hi d dm
    obtain ⟨g, rfl⟩ : ∃ g : Nat, d = (g : Int) := ⟨d.toNat, by omega⟩
    have fs := fold_step (p := fun h => decide (h % 2 = 1)) (f0 := dl) hd
    refine ⟨_, rfl, _, _, rfl, rfl, (by show (0 : Int) < 2; decide), rfl, _, rfl, ite2 (fun ct => ?_) (fun ct => ?_)⟩
    · have ct := V.int.inj (of_decide_eq_true ct)
      have es : s1 L (i + 1) = opO g (s1 L i) := by
        unfold s1
        rw [fs, if_pos (decide_eq_true ct)]
        unfold op
        rw [Int.toNat_natCast, if_pos (by omega)]
      refine ⟨_, rfl, _, _, rfl, rfl, _, rfl, by omega, by omega, fun D hD => lc_range1 (lo := 0) (N := N + 1) (fun k => V.int (opO g (s1 L i) k.toNat : Int)) hD (by omega) (fun _ => rfl) (fun n H3 Q3 hn u3 k3 => ?_) fun H3 u3 hD3 => ?_⟩
      · have hq3 := u3 _ _ hq1
        have k4 := k3 H3 (Same.refl _)
        rw [Int.zero_add, Int.toNat_natCast] at k4
        unfold opO sh at k4
        refine ⟨_, rfl, _, rfl, q, _, _, _, rfl, rfl, SqL.of hq3, by rw [Int.zero_add]; exact atI_nat (rowOf_get (by omega)), _, rfl, _, rfl, _, _, rfl, rfl, _, rfl, ite2 (fun cj => ?_) (fun cj => ?_)⟩
        · have cj := of_decide_eq_true cj
          have cj : g ≤ n := by omega
          refine ⟨_, rfl, _, rfl, _, rfl, _, _, rfl, rfl, q, _, _, _, rfl, rfl, SqL.of hq3, by rw [show (0 : Int) + (n : Int) - (g : Int) = ((n - g : Nat) : Int) by omega]; exact atI_nat (rowOf_get (by omega)), _, _, rfl, rfl, ?_⟩
          rw [if_pos cj, Int.natCast_add] at k4
          exact k4
        · have cj : ¬ g ≤ n := fun z => cj (decide_eq_true (by omega))
          refine ⟨_, _, rfl, rfl, ?_⟩
          rw [if_neg cj, Int.natCast_add] at k4
          exact k4
      · refine ⟨D, _, _, rfl, u1.trans u3, none_of u1 hD, ?_⟩
        rw [hD3, es]
        unfold rowOf
        rw [iV, List.map_map]
        congr 2
        refine List.map_congr_left fun n _ => ?_
        show V.int (opO g (s1 L i) ((0 : Int) + (n : Int)).toNat : Int) = V.int (opO g (s1 L i) n : Int)
        rw [Int.zero_add, Int.toNat_natCast]
    · have ct : ¬ ((g : Int) % 2 = 1) := fun z => ct (decide_eq_true (congrArg V.int z))
      have es : s1 L (i + 1) = s1 L i := by
        unfold s1
        rw [fs, if_neg (by rw [decide_eq_true_eq]; exact ct)]
      refine ⟨q, _, _, rfl, u1, hq0, ?_⟩
      rw [es]
      exact hq1
  obtain ⟨q, o3, o4, rfl, u1, hq0, hq1⟩ := q
  rw [lL] at hq1
  have es0 : s2 L 0 = s1 L L.length := rfl
  refine ⟨_, rfl, a, rfl, ⟨_, tupSame u1 ha⟩, for_it (walk_tup (xs := iV L)) (fun i σ H' => ∃ (o3 o4 : Option V), σ = [some (.ref a), some (.int (N : Int)), some (.ref q), o3, o4] ∧ Same H H' ∧ H' q = some (.lst (iV (rowOf N (nI (s2 L i))))))
    ⟨_, _, rfl, u1, hq1⟩ (fun i σ H' _ q => ?_) (fun i x σ H2 H3 hi q2 y => ?_) fun σ H2 q2 => ?_⟩
  · obtain ⟨o3, o4, rfl, u1, _⟩ := q
    exact tupSame u1 ha
  · obtain ⟨o3, o4, rfl, u2, hq2⟩ := q2
    obtain ⟨rfl, hx⟩ := y
    rw [List.getElem?_map] at hx
    obtain ⟨d, hd, rfl⟩ := Option.map_eq_some_iff.mp hx
    have dm := List.mem_of_getElem? hd
    have b1 := hL.lo d dm
    have b2 := hL.hi d dm
    obtain ⟨g, rfl⟩ : ∃ g : Nat, d = (g : Int) := ⟨d.toNat, by omega⟩
    have g1 : 1 ≤ g := by omega
    have fs := fold_step (p := fun h => decide (h % 2 = 0)) (f0 := s1 L L.length) hd
    refine ⟨_, rfl, _, _, rfl, rfl, (by show (0 : Int) < 2; decide), rfl, _, rfl, ite2 (fun ct => ?_) (fun ct => ?_)⟩
    · have ct := V.int.inj (of_decide_eq_true ct)
      have es : s2 L (i + 1) = opE g (s2 L i) := by
        unfold s2
        rw [fs, if_pos (decide_eq_true ct)]
        unfold op
        rw [Int.toNat_natCast, if_neg (by omega)]
      refine ⟨_, rfl, _, rfl, _, _, rfl, rfl, _, _, rfl, ⟨by omega, by omega, by omega, by omega⟩, for_it (walk_range (lo := (g : Int)) (n := ((N : Int) + 1 - (g : Int)).toNat)) (fun j σ H' => (∃ o4, σ = [some (.ref a), some (.int (N : Int)), some (.ref q), some (.int (g : Int)), o4]) ∧ Same H H' ∧ H' q = some (.lst (iV (rowOf N (halfE g (s2 L i) j)))))
        ⟨⟨_, rfl⟩, u2, ?_⟩ (fun _ _ _ _ _ => trivial) (fun j x σ H4 H5 hj q3 y => ?_) fun σ H4 q3 => ?_⟩
      · rw [hq2]
        congr 3
        refine rowOf_congr fun k hk => ?_
        unfold halfE nI
        by_cases c : k < g + 0
        · rw [if_pos c, opE_eq g1]
          unfold sh
          rw [if_neg (by omega)]
          rfl
        · rw [if_neg c]
      · obtain ⟨⟨o4, rfl⟩, u4, hq4⟩ := q3
        obtain ⟨rfl, rfl⟩ := y
        have hd2 : g + j ≤ N := by omega
        have l1 : (iV (rowOf N (halfE g (s2 L i) j))).length = N + 1 := by rw [List.length_map, rowOf_len]
        have e1 : (g : Int) + (j : Int) = ((g + j : Nat) : Int) := by omega
        have e2 : (g : Int) + (j : Int) - (g : Int) = ((j : Nat) : Int) := by omega
        have at1 : atI (iV (rowOf N (halfE g (s2 L i) j))) ((g : Int) + (j : Int)) = some (.int (s2 L i (g + j) : Int)) := by
          rw [e1]
          refine atI_nat ?_
          rw [rowOf_get hd2]
          unfold halfE
          rw [if_neg (by omega)]
        have at2 : atI (iV (rowOf N (halfE g (s2 L i) j))) ((g : Int) + (j : Int) - (g : Int)) = some (.int (opE g (s2 L i) j : Int)) := by
          rw [e2]
          refine atI_nat ?_
          rw [rowOf_get (by omega)]
          unfold halfE
          rw [if_pos (by omega)]
        have ix1 : ixN (iV (rowOf N (halfE g (s2 L i) j))).length ((g : Int) + (j : Int)) = some (g + j) := by
          rw [e1, l1]
          exact ixN_nat (by omega)
        refine ⟨_, rfl, _, rfl, q, _, _, _, rfl, rfl, SqL.of hq4, at1, _, rfl, _, rfl, _, rfl, _, _, rfl, rfl, q, _, _, _, rfl, rfl, SqL.of hq4, at2, _, _, rfl, rfl, _, rfl, _, rfl, q, _, _, g + j, rfl, rfl, hq4, ix1, ⟨_, rfl⟩, Same.back u4 hq0, ?_⟩
        rw [upd_same, rowOf_set]
        congr 3
        refine rowOf_congr fun k hk => ?_
        unfold halfE
        by_cases c : k = g + j
        · rw [if_pos c, if_pos (by omega), c, opE_eq g1 _ (g + j)]
          unfold sh
          rw [if_pos (by omega), show g + j - g = j by omega]
          omega
        · rw [if_neg c]
          by_cases d : k < g + j
          · rw [if_pos d, if_pos (by omega)]
          · rw [if_neg d, if_neg (by omega)]
      · obtain ⟨⟨o4, rfl⟩, u4, hq4⟩ := q3
        refine ⟨_, _, rfl, u4, ?_⟩
        rw [hq4, es]
        congr 3
        refine rowOf_congr fun k hk => ?_
        unfold halfE nI
        rw [if_pos (by omega)]
    · have ct : ¬ ((g : Int) % 2 = 0) := fun z => ct (decide_eq_true (congrArg V.int z))
      have es : s2 L (i + 1) = s2 L i := by
        unfold s2
        rw [fs, if_neg (by rw [decide_eq_true_eq]; exact ct)]
      refine ⟨_, _, rfl, u2, ?_⟩
      rw [es]
      exact hq2
  · obtain ⟨o3, o4, rfl, u2, hq2⟩ := q2
    rw [lL, s2_end hL.pos] at hq2
    exact ⟨_, rfl, k H2 q u2 hq2⟩
end
end K5
namespace K5
open PySem PySem.Spec PyProof.Rows L2 RZ
theorem cnt_zero : ∀ {L : List Int}, Pos1 L → cnt L 0 = 1
  | [], _ => rfl
  | h :: L, hp => by
    have ih := cnt_zero (L := L) fun y hy => hp y (List.mem_cons_of_mem _ hy)
    have h1 := hp h List.mem_cons_self
    obtain ⟨g, rfl⟩ : ∃ g : Nat, h = (g : Int) := ⟨h.toNat, by omega⟩
    rw [cnt_step (by omega), if_neg (by omega), ih]
theorem rowOf_take {N n : Nat} {g : Nat → Int} (h : n ≤ N) : (rowOf N g).take (n + 1) = rowOf n g := by
  unfold rowOf
  rw [← List.map_take, List.take_range]
  congr 2
  omega
theorem cut_row {N n : Nat} {g : Nat → Int} (h : n ≤ N) : cutV (iV (rowOf N g)) none (some ((n : Int) + 1)) = iV (rowOf n g) := by
  unfold cutV
  have l : (iV (rowOf N g)).length = N + 1 := by rw [List.length_map, rowOf_len]
  have e1 : HT.sIx (iV (rowOf N g)).length 0 none = 0 := rfl
  have e2 : HT.sIx (iV (rowOf N g)).length (iV (rowOf N g)).length (some ((n : Int) + 1)) = n + 1 := by
    rw [show (n : Int) + 1 = ((n + 1 : Nat) : Int) from rfl, HT.sIx_nat, l]
    omega
  rw [e1, e2, List.drop_zero, Nat.sub_zero, iV, ← List.map_take, rowOf_take h]
theorem sum_row {L : List Int} (hp : Pos1 L) : ∀ n : Nat, (rowOf n (nI (cnt L))).sum = ((upto L (n + 1)).length : Int)
  | 0 => by
    rw [upto_succ, List.length_append, wds_len L 0 hp]
    show (nI (cnt L) 0) + 0 = _
    unfold nI upto
    rw [List.range_zero]
    show (cnt L 0 : Int) + 0 = ((0 + cnt L 0 : Nat) : Int)
    omega
  | n + 1 => by
    have ih := sum_row hp n
    have e : rowOf (n + 1) (nI (cnt L)) = rowOf n (nI (cnt L)) ++ [(cnt L (n + 1) : Int)] := by
      unfold rowOf
      rw [List.range_succ, List.map_append]
      rfl
    have e2 : (upto L (n + 1 + 1)).length = (upto L (n + 1)).length + cnt L (n + 1) := by rw [upto_succ L (n + 1), List.length_append, wds_len L _ hp]
    rw [e, List.sum_append, ih, e2]
    show _ + ((cnt L (n + 1) : Int) + 0) = _
    omega
theorem upto_bound {L : List Int} (hp : Pos1 L) {m : Nat} : ∀ n : Nat, (∀ k, k ≤ n → cnt L k ≤ m) → (upto L (n + 1)).length ≤ (n + 1) * m
  | 0, h => by
    rw [upto_succ, List.length_append, wds_len L 0 hp]
    have := h 0 (Nat.le_refl _)
    unfold upto
    rw [List.range_zero]
    show 0 + cnt L 0 ≤ _
    omega
  | n + 1, h => by
    have ih := upto_bound hp n fun k hk => h k (by omega)
    have := h (n + 1) (Nat.le_refl _)
    have e : (upto L (n + 1 + 1)).length = (upto L (n + 1)).length + cnt L (n + 1) := by rw [upto_succ L (n + 1), List.length_append, wds_len L _ hp]
    have e2 : (n + 1 + 1) * m = (n + 1) * m + m := Nat.succ_mul (n + 1) m
    rw [e, e2]
    generalize (n + 1) * m = z at *
    omega
def spGood : Sp := fun vs H Q _ => ∃ (d : Addr) (L : List V), vs = [.ref d] ∧ H d = some (.lst L) ∧ DiceL L ∧ ∀ (H' : Hp) (L' : List V), But d H H' → H' d = some (.lst L') → DiceL L' → Q (.bl true) H'
abbrev nLi : List Str := ["dice", "letters", "degree", "counts", "due", "told", "some", "here"]
theorem scLi : FnScope nLi ["dice"] (defScope sLists) := ⟨rfl, rfl, rfl, by decide +kernel, rfl, by decide +kernel, by decide +kernel⟩
section
variable {P : Program} {w : World} {K : PySem.W.Frag} {mg : Str → Option Value} {base : Heap} {fT fR fP fS fW fO fC fE : Addr} {dT dR dP dS dW dO dC dE : FuncData}
theorem ok_lists {f : Addr} {fd : FuncData} (F : Fun K "_law_lists_right" "_law_lists_right" sLists f fd) (T : Txt K mg) (gT : mg "_law_wd_letters" = some (.ref fT)) (kT : PySem.W.keepIn K (.ref fT) = true) (bT : Binds K dT ["dice", "size"] [])
    (FT : FnOk P w K mg base CX0 3 fT dT ["dice", "size"] (spLets K)) (gR : mg "_law_roll" = some (.ref fR)) (kR : PySem.W.keepIn K (.ref fR) = true) (bR : Binds K dR ["dice", "total"] []) (FR : FnOk P w K mg base CX0 1 fR dR ["dice", "total"] spRoll)
    (gP : mg "_law_pick" = some (.ref fP)) (kP : PySem.W.keepIn K (.ref fP) = true) (bP : Binds K dP ["dice", "items"] []) (FP : FnOk P w K mg base CX0 2 fP dP ["dice", "items"] spPick)
    (gS : mg "_law_by_series" = some (.ref fS)) (kS : PySem.W.keepIn K (.ref fS) = true) (bS : Binds K dS ["letters", "most"] []) (FS : FnOk P w K mg base CX0 1 fS dS ["letters", "most"] (spSer K))
    (gW : mg "_law_words" = some (.ref fW)) (kW : PySem.W.keepIn K (.ref fW) = true) (bW : Binds K dW ["letters", "degree"] []) (FW : FnOk P w K mg base CX0 2 fW dW ["letters", "degree"] (spLWords K))
    (gO : mg "words_of" = some (.ref fO)) (kO : PySem.W.keepIn K (.ref fO) = true) (bO : Binds K dO ["letters", "degree"] []) (FO : FnOk P w K mg base CX0 6 fO dO ["letters", "degree"] (spWords K))
    (gC : mg "word_count" = some (.ref fC)) (kC : PySem.W.keepIn K (.ref fC) = true) (bC : Binds K dC ["letters", "degree"] []) (FC : FnOk P w K mg base CX0 6 fC dC ["letters", "degree"] (spCount K))
    (gE : mg "each_word" = some (.ref fE)) (kE : PySem.W.keepIn K (.ref fE) = true) (bE : Binds K dE ["letters", "most"] []) (FE : GFn P w K mg base 6 fE dE ["letters", "most"] (spEach K)) : FnOk P w K mg base CX0 10 f fd ["dice"] spGood := by
  refine F.ok scLi (fun vs H Q E h => ?_) (fun cdv A outer s H vs Q E hr h => ?_)
  · obtain ⟨d, L, rfl, _⟩ := h; rfl
  obtain ⟨d, L, rfl, hd, hL, k⟩ := h
  have hr1 : Room 1 _ := hr.mono (by decide)
  have hr2 : Room 2 _ := hr.mono (by decide)
  have hr3 : Room 3 _ := hr.mono (by decide)
  have hr6 : Room 6 _ := hr.mono (by decide)
  refine ⟨_, pss_cons (ps_par (i := 1) (j := 2) rfl scLi.nd rfl rfl (by decide) rfl rfl (pa_cons (pe_call FT hr3 (by rfl) gT kT bT .nil pass0 (pa_cons (pv 0) (pa_cons pe_int pa_nil))) (pa_cons (pe_call FR hr1 (by rfl) gR kR bR .nil pass0 (pa_cons (pv 0) (pa_cons (pe_call FP hr2 (by rfl) gP kP bP .nil pass0 (pa_cons (pv 0) (pa_cons (pe_lst (pa_cons pe_int (pa_cons pe_int (pa_cons pe_int pa_nil)))) pa_nil))) pa_nil))) pa_nil)) (by rfl))
    (pss_cons (ps_set (i := 3) scLi.nd rfl (.inl rfl) (pe_call FS hr1 (by rfl) gS kS bS .nil pass0 (pa_cons (pv 1) (pa_cons pe_int pa_nil))))
    (C8.pss_cut (ps_while PassesOwn.never (PW.pt (pw_and (pt_cmpR op_gt (pv 2) pe_int (nomark _)) (pw_and1 (pt_cmpR op_gt (pe_callB (cr_max rfl) (by rfl) T.max bootMax (pa_cons (pe_slice sl_list (pv 3) po_none (po_some (pe_op op_add (pv 2) pe_int))) pa_nil)) pe_int (nomark _)))))
      (pss_one (ps_set (i := 2) scLi.nd rfl (.inl rfl) (pe_op op_sub (pv 2) pe_int))))
    (pss_cons (ps_set (i := 4) scLi.nd rfl (.inl rfl) (pe_call FW hr2 (by rfl) gW kW bW .nil pass0 (pa_cons (pv 1) (pa_cons (pv 2) pa_nil))))
    (pss_cons (ps_if (PW.pt (pw_or (pt_cmpR (op_neD hr.units) (pe_call FO hr6 (by rfl) gO kO bO .nil pass0 (pa_cons (pv 1) (pa_cons (pv 2) pa_nil))) (pe_callTy call_tuple_of (by rfl) T.tuple bootTuple (pa_cons (pv 4) pa_nil)) (nomark _))
        (pw_or1 (pt_cmpR op_ne (pe_call FC hr6 (by rfl) gC kC bC .nil pass0 (pa_cons (pv 1) (pa_cons (pv 2) pa_nil))) (pe_callB call_len_seq (by rfl) T.len PySem.boot_len (pa_cons (pv 4) pa_nil)) (nomark _))))) (pss_one (ps_ret pe_bl)) pss_nil)
    (pss_cons (ps_par (i := 5) (j := 6) rfl scLi.nd rfl rfl (by decide) rfl rfl (pa_cons (pe_listG (k := 6) (E := E0) (pgen_call FE hr6 (by rfl) gE kE bE .nil (pa_cons (pv 1) (pa_cons (pv 2) pa_nil))) passL (fun _ _ _ h => h.elim) hr (by rfl) T.list bootList) (pa_cons (pe_lst pa_nil) pa_nil)) (by rfl))
    (pss_cons (ps_for PassesOwn.never rfl (pi_range1 rfl T.range (pa_cons (pe_op op_add (pv 2) pe_int) pa_nil)) (pg_name (i := 7) scLi.nd rfl (.inl rfl))
      (pss_one (ps_expr (pe_bm PySem.F.plainAttrs_list PySem.F.slot_list_extend PySem.F.type_list_extend mt_extend (pv 6) (pa_cons (pe_call FW hr2 (by rfl) gW kW bW .nil pass0 (pa_cons (pv 1) (pa_cons (pv 7) pa_nil))) pa_nil)))))
    (pss_one (ps_ret (pe_and (pe_cmpR (op_eqD hr.units) (pv 5) (pv 6) (nomark _)) (pe_one (pe_cmpR op_eq (pe_callB call_len_seq (by rfl) T.len PySem.boot_len (pa_cons (pv 5) pa_nil)) (pe_callB (cr_sum rfl) (by rfl) T.sum bootSum (pa_cons (pe_slice sl_list (pv 3) po_none (po_some (pe_op op_add (pv 2) pe_int))) pa_nil)) (nomark _)))))))))))), ?_⟩
  refine ⟨_, rfl, d, 7, L, rfl, by decide, by decide, hd, hL, fun H1 p L1 M hL1 hd1 hp1 B1 hM hlen => ?_⟩
  refine ⟨_, rfl, _, rfl, (by show 3 ≤ sizeLine; decide), fun l hl => ⟨d, l, [.int 7, .int 13, .int 25], L1, rfl, by rw [upd_ne (ne_of_none hd1 hl)]; exact hd1, hL1, upd_same, (ne_of_none hd1 hl).symm, by simp, by decide, fun x L2 hx hL2 => ?_⟩⟩
  obtain ⟨m, rfl, m0, m1⟩ : ∃ m : Int, x = .int m ∧ 0 < m ∧ m ≤ 25 := by
    rcases List.mem_cons.mp hx with z | z
    · exact ⟨7, z, by decide, by decide⟩
    · rcases List.mem_cons.mp z with z | z
      · exact ⟨13, z, by decide, by decide⟩
      · exact ⟨25, List.mem_singleton.mp z, by decide, by decide⟩
  have B2 : But d H1 (upd (upd H1 l (.lst [.int 7, .int 13, .int 25])) d (.lst L2)) := (But.of (Same.new hl)).trans But.dice
  have hd2 : upd (upd H1 l (.lst [.int 7, .int 13, .int 25])) d (.lst L2) d = some (.lst L2) := upd_same
  generalize upd (upd H1 l (.lst [.int 7, .int 13, .int 25])) d (.lst L2) = H2 at *
  refine ⟨d, m, L2, rfl, m0, Nat.lt_of_le_of_lt (by omega : m.natAbs ≤ 25) (by decide), hd2, hL2, fun r L3 r0 r1 hL3 => ?_⟩
  have B3 : But d H (upd H2 d (.lst L3)) := B1.trans (B2.trans But.dice)
  have hd3 : upd H2 d (.lst L3) d = some (.lst L3) := upd_same
  have ha : SqT K (upd H2 d (.lst L3)) p (iV M) := (B2.trans But.dice).tup hd1 (SqT.of hp1)
  generalize upd H2 d (.lst L3) = H3 at *
  obtain ⟨r, rfl⟩ : ∃ r' : Nat, r = (r' : Int) := ⟨r.toNat, by omega⟩
  have fin : ∀ H', Same H3 H' → Q (.bl true) H' := fun H' s' => k H' L3 (B3.trans (But.of s')) (s' _ _ hd3) hL3
  refine ⟨_, _, rfl, ?_⟩
  refine ⟨_, rfl, p, M, 40, rfl, ha, hM, by decide, fun H4 c s4 hc => ?_⟩
  refine ⟨fun σ H' => ∃ n : Nat, σ = [some (.ref d), some (.ref p), some (.int (n : Int)), some (.ref c), none, none, none, none] ∧ Same H4 H' ∧ n ≤ 24 ∧ ∀ k, k ≤ n → cnt M k ≤ 60, ?_, ?_⟩
  · refine ⟨fun m σ H' => σ = [some (.ref d), some (.ref p), some (.int (m : Int)), some (.ref c), none, none, none, none] ∧ Same H4 H' ∧ m ≤ 24, ⟨r, rfl, Same.refl _, by omega⟩, fun m σ H' hw => ?_⟩
    obtain ⟨rfl, s5, hm⟩ := hw
    refine ⟨_, rfl, _, _, rfl, rfl, _, rfl, ite2 (fun ct => ?_) (fun ct => ?_)⟩
    · have ct := of_decide_eq_true ct
      refine ⟨_, rfl, _, rfl, _, _, rfl, rfl, _, rfl, c, _, rfl, SqL.of (s5 _ _ hc), fun q hq => ?_⟩
      rw [cut_row (by omega)]
      refine ⟨q, rowOf m (nI (cnt M)), rfl, SqL.of upd_same, by rw [rowOf_len]; omega, fun mm hm1 hm2 => ?_⟩
      have s6 := Same.new (o := .lst (iV (rowOf m (nI (cnt M))))) hq
      refine ⟨_, _, rfl, rfl, _, rfl, ite2 (fun cu => ?_) (fun cu => ?_)⟩
      · refine ⟨fun σ' H'' => σ' = [some (.ref d), some (.ref p), some (.int ((m - 1 : Nat) : Int)), some (.ref c), none, none, none, none] ∧ Same H4 H'' ∧ m - 1 ≤ 24, fun σ' H'' hh => ⟨m - 1, by omega, hh⟩, ?_⟩
        refine ⟨_, rfl, _, _, rfl, rfl, ?_, s5.trans s6, by omega⟩
        rw [show ((m - 1 : Nat) : Int) = (m : Int) - 1 by omega]
        rfl
      · have cu : ¬ _ := fun z => cu (decide_eq_true z)
        refine ⟨m, rfl, s5.trans s6, hm, fun k hk => ?_⟩
        have := hm2 (cnt M k : Int) (by
          unfold rowOf
          exact List.mem_map.mpr ⟨k, List.mem_range.mpr (by omega), rfl⟩)
        omega
    · have ct : ¬ _ := fun z => ct (decide_eq_true z)
      refine ⟨m, rfl, s5, hm, fun k hk => ?_⟩
      obtain rfl : k = 0 := by omega
      rw [cnt_zero hM.pos]
      decide
  rintro σ5 H5 ⟨n, rfl, s5, hn, h60⟩
  have c60 := h60 n (Nat.le_refl _)
  have s35 := s4.trans s5
  refine ⟨_, rfl, _, rfl, p, M, n, rfl, tupSame s35 ha, hM, by omega, by omega, fun H6 du xs s6 _ hdu tvd => ?_⟩
  refine ⟨_, rfl, _, rfl, p, M, n, rfl, tupSame (s35.trans s6) ha, hM, by omega, by omega, fun H7 wo ys s7 hwo tvw => ?_⟩
  refine ⟨_, rfl, du, xs, rfl, .inl ⟨SqL.of (s7 _ _ hdu), fun tu htu => ?_⟩⟩
  have s8 := Same.new (o := .tup xs) htu
  have shp : Shp 2 (.tuple ((wds M n).map dI)) := Shp.tup (f := dI) (fun l => shp_dI l) _
  refine ⟨.tuple ((wds M n).map dI), .tuple ((wds M n).map dI), .tup (tupSame s8 hwo) (dp_tups (tv_mono tvw s8)), .tup (SqT.of upd_same) (dp_tups (tv_mono tvd (s7.trans s8))), shp.shaped (by decide), shp.shaped (by decide), _, rfl, ?_⟩
  rw [eqv_self shp (by decide)]
  have s38 := s35.trans (s6.trans (s7.trans s8))
  refine iteF ⟨_, rfl, _, rfl, p, M, n, rfl, tupSame s38 ha, hM, by omega, fun H9 s9 => ?_⟩
  have lxs : xs.length = cnt M n := by rw [tv_len tvd, wds_len M n hM.pos]
  refine ⟨_, rfl, du, xs, rfl, .inl (SqL.of ((s7.trans (s8.trans s9)) _ _ hdu)), rfl, _, rfl, ite2 (fun cx => ?_) (fun _ => ?_)⟩
  · rw [lxs] at cx
    simp at cx
  have s39 := s38.trans s9
  have ub := upto_bound hM.pos n h60
  have ub2 : (n + 1) * 60 ≤ 1500 := by omega
  refine ⟨_, rfl, _, rfl, p, M, n, rfl, tupSame s39 ha, hM, by omega, by omega, fun H10 zs s10 tv10 pt hpt => ⟨(by show 0 ≤ sizeLine; decide), fun ps hps => ⟨_, _, rfl, ?_⟩⟩⟩
  have s11 := Same.new (o := .lst zs) hpt
  have sb := s39.trans (s10.trans s11)
  have hpt' : upd H10 pt (.lst zs) pt = some (.lst zs) := upd_same
  have tvb := tv_mono tv10 s11
  have hcb : upd H10 pt (.lst zs) c = some (.lst (iV (rowOf 40 (nI (cnt M))))) := by
    refine (s5.trans (s6.trans (s7.trans (s8.trans (s9.trans (s10.trans s11)))))) _ _ ?_
    exact hc
  generalize upd H10 pt (.lst zs) = Hb at *
  have s12 := Same.new (o := .lst []) hps
  refine ⟨_, rfl, _, _, rfl, rfl, _, rfl, by omega, by omega, for_it (walk_range (lo := 0) (n := ((n : Int) + 1).toNat)) (fun i σ H' => ∃ (o7 : Option V) (us : List V), σ = [some (.ref d), some (.ref p), some (.int (n : Int)), some (.ref c), some (.ref du), some (.ref pt), some (.ref ps), o7] ∧ Same Hb H' ∧ H' ps = some (.lst us) ∧ TupsV K H' us (upto M i))
    ⟨_, [], rfl, s12, upd_same, .nil⟩ (fun _ _ _ _ _ => trivial) (fun i x σ H11 H12 hi q y => ?_) fun σ H11 q => ?_⟩
  · obtain ⟨o7, us, rfl, s13, hus, tvu⟩ := q
    obtain ⟨rfl, rfl⟩ := y
    have hi2 : i ≤ n := by omega
    have ci := h60 i hi2
    have mono := upto_mono M (show i + 1 ≤ n + 1 by omega)
    refine ⟨_, rfl, .inl ⟨rfl, _, SqL.of hus⟩, _, rfl, _, rfl, p, M, i, by show [V.ref p, .int (0 + (i : Int))] = _; rw [Int.zero_add], tupSame (sb.trans s13) ha, hM, by omega, by omega, fun H14 e ws s14 _ he tve => ?_⟩
    have l1 := tv_len tvu
    have l2 := tv_len tve
    rw [upto_succ, List.length_append, ← l1, ← l2] at mono
    have hus' := s14 _ _ hus
    refine ⟨ps, e, us, ws, rfl, rfl, hus', he, Nat.le_of_lt (big5000 (by omega)), _, us ++ ws, rfl, Same.back (s13.trans s14) hps, upd_same, ?_⟩
    rw [upto_succ]
    exact tv_append (tv_put hus' (tv_mono tvu s14)) (tv_put hus' tve)
  · obtain ⟨o7, us, rfl, s13, hus, tvu⟩ := q
    rw [show ((n : Int) + 1).toNat = n + 1 by omega] at tvu
    have shl : Shp 2 (.list ((upto M (n + 1)).map dI)) := Shp.lst (f := dI) (fun l => shp_dI l) _
    refine ⟨_, rfl, _, rfl, .list ((upto M (n + 1)).map dI), .list ((upto M (n + 1)).map dI), .lst (SqL.of (s13 _ _ hpt')) (dp_tups (tv_mono tvb s13)), .lst (SqL.of hus) (dp_tups tvu), shl.shaped (by decide), shl.shaped (by decide), _, rfl, ?_⟩
    rw [eqv_self shl (by decide)]
    refine iteT ⟨_, rfl, pt, zs, rfl, .inl (SqL.of (s13 _ _ hpt')), _, rfl, _, rfl, _, _, rfl, rfl, _, rfl, c, _, rfl, SqL.of (s13 _ _ hcb), fun q hq => ?_⟩
    rw [cut_row (by omega)]
    refine ⟨q, rowOf n (nI (cnt M)), rfl, SqL.of upd_same, rfl, ?_⟩
    rw [dInt, sum_row hM.pos, ← tv_len tvb, decide_eq_true rfl]
    exact fin _ (sb.trans (s13.trans (Same.new hq)))
end
end K5
namespace K5
open PySem PySem.Spec PyProof.Rows L2 RZ
theorem par_mem {r : Int} : ∀ {L : List Int} {k : Int} {i : Nat}, k + (i : Int) ∈ par r k L ↔ ∃ d, L[i]? = some d ∧ d % 2 = r
  | [], k, i => by
    refine ⟨fun h => absurd h List.not_mem_nil, fun ⟨d, h, _⟩ => ?_⟩
    cases h
  | d :: L, k, i => by
    have ge : ∀ {L : List Int} {k x : Int}, x ∈ par r k L → k ≤ x := by
      intro L
      induction L with
      | nil => intro k x h; exact absurd h List.not_mem_nil
      | cons d L ih =>
        intro k x h
        have h : x ∈ (if d % 2 = r then k :: par r (k + 1) L else par r (k + 1) L) := h
        split at h
        · rcases List.mem_cons.mp h with z | z
          · omega
          · have := ih z
            omega
        · have := ih h
          omega
    have e : par r k (d :: L) = if d % 2 = r then k :: par r (k + 1) L else par r (k + 1) L := rfl
    rw [e]
    cases i with
    | zero =>
      have n : ¬ (k + ((0 : Nat) : Int) ∈ par r (k + 1) L) := fun h => by
        have := ge h
        omega
      by_cases c : d % 2 = r
      · rw [if_pos c]
        refine ⟨fun _ => ⟨d, rfl, c⟩, fun _ => ?_⟩
        rw [show k + ((0 : Nat) : Int) = k by omega]
        exact List.mem_cons_self
      · rw [if_neg c]
        refine ⟨fun h => absurd h n, fun ⟨d', h1, h2⟩ => ?_⟩
        cases h1
        exact absurd h2 c
    | succ i =>
      have ih := par_mem (r := r) (L := L) (k := k + 1) (i := i)
      rw [show k + 1 + (i : Int) = k + ((i + 1 : Nat) : Int) by omega] at ih
      by_cases c : d % 2 = r
      · rw [if_pos c, List.mem_cons]
        refine ⟨fun h => ?_, fun h => .inr (ih.mpr h)⟩
        rcases h with z | z
        · omega
        · exact ih.mp z
      · rw [if_neg c]
        exact ih
theorem not_evens {L : List Int} : ∀ n, n ≤ L.length → (((List.range n).filter fun i : Nat => !(par 0 0 L).contains (i : Int)).map fun i : Nat => (i : Int)) = par 1 0 (L.take n)
  | 0, _ => by
    rw [List.take_zero]
    rfl
  | n + 1, h => by
    have ih := not_evens (L := L) n (by omega)
    have hg : L[n]? = some L[n] := List.getElem?_eq_getElem (by omega)
    rw [take_more hg, par_append, List.length_take, Nat.min_eq_left (by omega), Int.zero_add, List.range_succ, List.filter_append, List.map_append, ih]
    congr 1
    have m := par_mem (r := 0) (L := L) (k := 0) (i := n)
    rw [Int.zero_add] at m
    rw [List.filter_cons, List.filter_nil]
    show _ = (if L[n] % 2 = 1 then (n : Int) :: par 1 ((n : Int) + 1) [] else par 1 ((n : Int) + 1) [])
    by_cases c : L[n] % 2 = 0
    · have q : (par 0 0 L).contains (n : Int) = true := List.contains_iff_mem.mpr (m.mpr ⟨_, hg, c⟩)
      rw [q, if_neg (by decide), if_neg (show ¬ L[n] % 2 = 1 by omega)]
      rfl
    · have q : (par 0 0 L).contains (n : Int) = false := by
        rw [Bool.eq_false_iff]
        intro z
        obtain ⟨d, h1, h2⟩ := m.mp (List.contains_iff_mem.mp z)
        rw [hg] at h1
        cases h1
        exact c h2
      rw [q, if_pos (by decide), if_pos (show L[n] % 2 = 1 by omega)]
      rfl
theorem mul_tup {K : PySem.W.Frag} {H : Hp} {l : Addr} {n : Nat} {x : Int} {Q : VK} (hT : SqT K H l [.int x]) (h2 : n ≤ 1000) (h : ∀ H' p, Same H H' → SqT K H' p (iV (List.replicate n x)) → Q (.ref p) H') : rMulT K (.ref l) (.int (n : Int)) H Q := by
  refine ⟨l, n, [.int x], rfl, rfl, hT, (by intro z; cases z), by omega, by omega, (by show 1 ≤ 1000; decide), fun e1 => ?_, fun _ q hq => ?_⟩
  · obtain rfl : n = 1 := by omega
    exact h H l (Same.refl _) hT
  · refine h _ q (Same.new hq) ?_
    have e : (List.replicate (n : Int).toNat [V.int x]).flatten = iV (List.replicate n x) := by
      rw [Int.toNat_natCast, List.flatten_replicate_singleton]
      exact List.map_replicate.symm
    rw [e]
    exact SqT.of upd_same
abbrev nCo : List Str := ["dice", "letters", "degree", "evens", "others", "odds", "top", "index", "here"]
theorem scCo : FnScope nCo ["dice"] (defScope sCounts) := ⟨rfl, rfl, rfl, by decide +kernel, rfl, by decide +kernel, by decide +kernel⟩
section
variable {P : Program} {w : World} {K : PySem.W.Frag} {mg : Str → Option Value} {base : Heap} {fT fR fS fO fC fE fD fW : Addr} {dT dR dS dO dC dE dD dW : FuncData}
theorem ok_counts {f : Addr} {fd : FuncData} (F : Fun K "_law_counts_right" "_law_counts_right" sCounts f fd) (T : Txt K mg) (gT : mg "_law_wd_letters" = some (.ref fT)) (kT : PySem.W.keepIn K (.ref fT) = true) (bT : Binds K dT ["dice", "size"] [])
    (FT : FnOk P w K mg base CX0 3 fT dT ["dice", "size"] (spLets K)) (gR : mg "_law_roll" = some (.ref fR)) (kR : PySem.W.keepIn K (.ref fR) = true) (bR : Binds K dR ["dice", "total"] []) (FR : FnOk P w K mg base CX0 1 fR dR ["dice", "total"] spRoll)
    (gS : mg "_law_by_series" = some (.ref fS)) (kS : PySem.W.keepIn K (.ref fS) = true) (bS : Binds K dS ["letters", "most"] []) (FS : FnOk P w K mg base CX0 1 fS dS ["letters", "most"] (spSer K))
    (gO : mg "words_of" = some (.ref fO)) (kO : PySem.W.keepIn K (.ref fO) = true) (bO : Binds K dO ["letters", "degree"] []) (FO : FnOk P w K mg base CX0 6 fO dO ["letters", "degree"] (spWords K))
    (gC : mg "word_count" = some (.ref fC)) (kC : PySem.W.keepIn K (.ref fC) = true) (bC : Binds K dC ["letters", "degree"] []) (FC : FnOk P w K mg base CX0 6 fC dC ["letters", "degree"] (spCount K))
    (gE : mg "even_letters" = some (.ref fE)) (kE : PySem.W.keepIn K (.ref fE) = true) (bE : Binds K dE ["letters"] []) (FE : FnOk P w K mg base CX0 6 fE dE ["letters"] (spPar K 0))
    (gD : mg "odd_letters" = some (.ref fD)) (kD : PySem.W.keepIn K (.ref fD) = true) (bD : Binds K dD ["letters"] []) (FD : FnOk P w K mg base CX0 6 fD dD ["letters"] (spPar K 1))
    (gW : mg "top_word" = some (.ref fW)) (kW : PySem.W.keepIn K (.ref fW) = true) (bW : Binds K dW ["letters"] []) (FW : FnOk P w K mg base CX0 6 fW dW ["letters"] (spTop K)) : FnOk P w K mg base CX0 7 f fd ["dice"] spGood := by
  refine F.ok scCo (fun vs H Q E h => ?_) (fun cdv A outer s H vs Q E hr h => ?_)
  · obtain ⟨d, L, rfl, _⟩ := h; rfl
  obtain ⟨d, L, rfl, hd, hL, k⟩ := h
  have hr1 : Room 1 _ := hr.mono (by decide)
  have hr3 : Room 3 _ := hr.mono (by decide)
  refine ⟨_, pss_cons (ps_par (i := 1) (j := 2) rfl scCo.nd rfl rfl (by decide) rfl rfl (pa_cons (pe_call FT hr3 (by rfl) gT kT bT .nil pass0 (pa_cons (pv 0) (pa_cons pe_int pa_nil))) (pa_cons (pe_call FR hr1 (by rfl) gR kR bR .nil pass0 (pa_cons (pv 0) (pa_cons pe_int pa_nil))) pa_nil)) (by rfl))
    (pss_cons (ps_if (pt_cmpR op_ne (pe_call FC hr (by rfl) gC kC bC .nil pass0 (pa_cons (pv 1) (pa_cons (pv 2) pa_nil))) (pe_ix ix_list (pe_call FS hr1 (by rfl) gS kS bS .nil pass0 (pa_cons (pv 1) (pa_cons (pv 2) pa_nil))) (pv 2) (fun _ _ => rfl)) (nomark _)) (pss_one (ps_ret pe_bl)) pss_nil)
    (pss_cons (ps_set (i := 3) scCo.nd rfl (.inr rfl) (pe_callTy call_tuple_of (by rfl) T.tuple bootTuple (pa_cons (pe_lc (own := [("index", 7), ("here", 8)]) (g := gTup K 2 (gCons (gName 7) (gCons (gName 8) gNil))) rfl scCo.nd (pi_enumT (by rfl) T.enumerate (pa_cons (pv 1) pa_nil))
      (blkOk_by (N := nCo) (sc := defScope sCounts) (by decide +kernel)) (fun _ _ _ _ _ => pg_tup (by rfl) (pgs_cons (pg_name (i := 7) scCo.nd rfl (.inl rfl)) (pgs_cons (pg_name (i := 8) scCo.nd rfl (.inl rfl)) pgs_nil))) (fun _ _ _ _ _ => pts_one (pt_cmpR op_eq (pe_op op_mod (pv 8) pe_int) pe_int (nomark _)))
      (fun _ _ _ _ _ => pv 7)) pa_nil)))
    (pss_cons (ps_set (i := 4) scCo.nd rfl (.inl rfl) (pe_callTy call_tuple_of (by rfl) T.tuple bootTuple (pa_cons (pe_lc (tt := tTest (tOp (rIn K true) (tVar 7) (tVar 3))) (te := tVar 7) (own := [("index", 7)]) (g := gName 7) rfl scCo.nd (pi_range1 rfl T.range (pa_cons (pe_callB call_len_seq (by rfl) T.len PySem.boot_len (pa_cons (pv 1) pa_nil)) pa_nil))
      (blkOk_by (N := nCo) (sc := defScope sCounts) (by decide +kernel)) (fun _ _ _ _ _ => pg_name (i := 7) scCo.nd rfl (.inl rfl)) (fun _ _ _ _ _ => pts_one (pt_cmpR op_notIn_seq (pv 7) (pv 3) (by rfl)))
      (fun _ _ _ _ _ => pv 7)) pa_nil)))
    (pss_cons (ps_if (PW.pt (pw_or (pt_cmpR (op_neD hr.units) (pe_call FE hr (by rfl) gE kE bE .nil pass0 (pa_cons (pv 1) pa_nil)) (pv 3) (nomark _)) (pw_or1 (pt_cmpR (op_neD hr.units) (pe_call FD hr (by rfl) gD kD bD .nil pass0 (pa_cons (pv 1) pa_nil)) (pv 4) (nomark _))))) (pss_one (ps_ret pe_bl)) pss_nil)
    (pss_cons (ps_set (i := 5) scCo.nd rfl (.inl rfl) (pe_callTy call_tuple_of (by rfl) T.tuple bootTuple (pa_cons (pe_lc (own := [("here", 8)]) (g := gName 8) rfl scCo.nd (pi_tup (pv 1))
      (blkOk_by (N := nCo) (sc := defScope sCounts) (by decide +kernel)) (fun _ _ _ _ _ => pg_name (i := 8) scCo.nd rfl (.inl rfl)) (fun _ _ _ _ _ => pts_one (pt_cmpR op_eq (pe_op op_mod (pv 8) pe_int) pe_int (nomark _)))
      (fun _ _ _ _ _ => pv 8)) pa_nil)))
    (pss_cons (ps_if (pt_cmpR (op_neD hr.units) (pe_call FW hr (by rfl) gW kW bW .nil pass0 (pa_cons (pv 5) pa_nil)) (pe_op op_mulT (pe_tup (pa_cons pe_int pa_nil)) (pe_callB call_len_seq (by rfl) T.len PySem.boot_len (pa_cons (pv 5) pa_nil))) (nomark _)) (pss_one (ps_ret pe_bl)) pss_nil)
    (pss_cons (ps_set (i := 6) scCo.nd rfl (.inl rfl) (pe_callB (cr_sumT rfl) (by rfl) T.sum bootSum (pa_cons (pv 5) pa_nil)))
    (pss_one (ps_ret (pe_or (pe_cmpR op_gt (pv 6) pe_int (nomark _)) (pe_one (pe_and (pe_cmpR op_eq (pe_call FC hr (by rfl) gC kC bC .nil pass0 (pa_cons (pv 5) (pa_cons (pv 6) pa_nil))) pe_int (nomark _)) (pe_and (pe_cmpR (op_eqD hr.units) (pe_call FO hr (by rfl) gO kO bO .nil pass0 (pa_cons (pv 5) (pa_cons (pv 6) pa_nil))) (pe_tup (pa_cons (pe_call FW hr (by rfl) gW kW bW .nil pass0 (pa_cons (pv 5) pa_nil)) pa_nil)) (nomark _))
      (pe_one (pe_or (pe_cmpR op_gt (pv 6) pe_int (nomark _)) (pe_one (pe_cmpR op_eq (pe_call FC hr (by rfl) gC kC bC .nil pass0 (pa_cons (pv 5) (pa_cons (pe_op op_add (pv 6) pe_int) pa_nil))) pe_int (nomark _)))))))))))))))))), ?_⟩
  refine ⟨_, rfl, d, 24, L, rfl, by decide, by decide, hd, hL, fun H1 p L1 M hL1 hd1 hp1 B1 hM hlen => ?_⟩
  refine ⟨_, rfl, d, 81, L1, rfl, by decide, by decide, hd1, hL1, fun r L3 r0 r1 hL3 => ?_⟩
  have B3 : But d H (upd H1 d (.lst L3)) := B1.trans But.dice
  have hd3 : upd H1 d (.lst L3) d = some (.lst L3) := upd_same
  have ha : SqT K (upd H1 d (.lst L3)) p (iV M) := But.dice.tup hd1 (SqT.of hp1)
  generalize upd H1 d (.lst L3) = H3 at *
  obtain ⟨r, rfl⟩ : ∃ r' : Nat, r = (r' : Int) := ⟨r.toNat, by omega⟩
  have fin : ∀ H', Same H3 H' → Q (.bl true) H' := fun H' s' => k H' L3 (B3.trans (But.of s')) (s' _ _ hd3) hL3
  have h24 := hM.len
  have lM : (iV M).length = M.length := List.length_map _
  refine ⟨_, _, rfl, ?_⟩
  refine ⟨_, rfl, _, rfl, p, M, r, rfl, ha, hM, by omega, fun H4 s4 => ?_⟩
  refine ⟨_, rfl, _, rfl, p, M, r, rfl, tupSame s4 ha, hM, by omega, fun H5 c s5 hc => ?_⟩
  refine ⟨_, rfl, c, _, _, _, rfl, rfl, SqL.of hc, atI_nat (rowOf_get (Nat.le_refl _)), rfl, _, rfl, ite2 (fun cx => ?_) (fun _ => ?_)⟩
  · unfold nI at cx
    simp at cx
  have t5 := s4.trans s5
  refine ⟨_, rfl, p, _, rfl, tupSame t5 ha, fun D hD => lc_par (r := 0) hD (tupSame t5 ha) (by omega) (fun _ _ => rfl) (fun n e H6 Q6 q => ?_) (fun n e H6 Q6 q => ?_) fun H6 s6 hD6 => ?_⟩
  · refine ⟨_, rfl, _, _, rfl, rfl, (by show (0 : Int) < 2; decide), rfl, _, rfl, ?_⟩
    rw [dInt]
    exact q
  · exact ⟨_, rfl, q⟩
  refine ⟨D, _, rfl, .inl ⟨SqL.of hD6, fun ev hev => ?_⟩⟩
  have s7 := Same.new (o := .tup (iV (par 0 0 M))) hev
  have t7 := t5.trans (s6.trans s7)
  have hev7 : SqT K (upd H6 ev (.tup (iV (par 0 0 M)))) ev (iV (par 0 0 M)) := SqT.of upd_same
  generalize upd H6 ev (.tup (iV (par 0 0 M))) = H7 at *
  refine ⟨_, rfl, p, _, rfl, .inr (tupSame t7 ha), _, rfl, by omega, by omega, fun D2 hD2 => lc_rangeP (N := ((iV M).length : Int).toNat) (fun i => !(par 0 0 M).contains (i : Int)) hD2 (by omega) (fun _ => rfl) (fun n H8 Q8 hn s8 q => ?_) (fun n H8 Q8 hn s8 q => ?_) fun H8 s8 hD8 => ?_⟩
  · refine ⟨_, rfl, _, rfl, ev, _, rfl, .inr (tupSame s8 hev7), rfl, flat_ints, _, rfl, ?_⟩
    show Q8 (!inV (.int (0 + (n : Int))) (iV (par 0 0 M))) H8
    rw [inV_ints, Int.zero_add]
    exact q H8 (Same.refl _)
  · refine ⟨_, rfl, ?_⟩
    rw [Int.zero_add]
    exact q
  have eo : (((List.range M.length).filter fun i : Nat => !(par 0 0 M).contains (i : Int)).map fun n : Nat => V.int (n : Int)) = iV (par 1 0 M) := by
    have e := not_evens (L := M) M.length (Nat.le_refl _)
    rw [List.take_length] at e
    rw [← e, iV, List.map_map]
    rfl
  rw [show ((iV M).length : Int).toNat = M.length by omega, eo] at hD8
  refine ⟨D2, _, rfl, .inl ⟨SqL.of hD8, fun od hod => ?_⟩⟩
  have s9 := Same.new (o := .tup (iV (par 1 0 M))) hod
  have t9 := t7.trans (s8.trans s9)
  have hev9 := tupSame (s8.trans s9) hev7
  have hod9 : SqT K (upd H8 od (.tup (iV (par 1 0 M)))) od (iV (par 1 0 M)) := SqT.of upd_same
  generalize upd H8 od (.tup (iV (par 1 0 M))) = H9 at *
  have sh1 := shp_dI
  refine ⟨_, rfl, p, M, rfl, tupSame t9 ha, hM, fun H10 e1 s10 he1 => ?_⟩
  refine ⟨_, rfl, dI (par 0 0 M), dI (par 0 0 M), .tup he1 (dp_ints _), .tup (tupSame s10 hev9) (dp_ints _), (sh1 _).shaped (by decide), (sh1 _).shaped (by decide), _, rfl, ?_⟩
  rw [eqv_self (sh1 _) (by decide)]
  refine iteF ⟨_, rfl, p, M, rfl, tupSame (t9.trans s10) ha, hM, fun H11 e2 s11 he2 => ?_⟩
  refine ⟨_, rfl, dI (par 1 0 M), dI (par 1 0 M), .tup he2 (dp_ints _), .tup (tupSame (s10.trans s11) hod9) (dp_ints _), (sh1 _).shaped (by decide), (sh1 _).shaped (by decide), _, rfl, ?_⟩
  rw [eqv_self (sh1 _) (by decide)]
  have t11 := t9.trans (s10.trans s11)
  refine iteF ⟨_, rfl, p, rfl, ⟨_, tupSame t11 ha⟩, fun D3 hD3 => lc_ints (K := K) (a := p) (L := M) V.int (fun e => decide (e % 2 = 1)) hD3 (tupSame t11 ha) (by omega) (fun _ => rfl) (fun e H12 Q12 hm s12 q => ?_) (fun e H12 Q12 hm _ s12 q => ?_) fun H12 s12 hD12 => ?_⟩
  · refine ⟨_, rfl, _, _, rfl, rfl, (by show (0 : Int) < 2; decide), rfl, _, rfl, ?_⟩
    rw [dInt]
    exact q H12 (Same.refl _)
  · exact ⟨_, rfl, q H12 (Same.refl _)⟩
  have hO : Lt (M.filter fun e => decide (e % 2 = 1)) := ⟨Nat.le_trans (List.length_filter_le _ _) hM.len, fun e he => hM.lo e (List.mem_filter.mp he).1, fun e he => hM.hi e (List.mem_filter.mp he).1⟩
  have oO : ∀ e ∈ M.filter fun e => decide (e % 2 = 1), e % 2 = 1 := fun e he => of_decide_eq_true (List.mem_filter.mp he).2
  generalize (M.filter fun e => decide (e % 2 = 1)) = O at *
  refine ⟨D3, _, rfl, .inl ⟨SqL.of hD12, fun oo hoo => ?_⟩⟩
  have s13 := Same.new (o := .tup (List.map V.int O)) hoo
  have t13 := t11.trans (s12.trans s13)
  have hO13 : SqT K (upd H12 oo (.tup (List.map V.int O))) oo (iV O) := SqT.of upd_same
  generalize upd H12 oo (.tup (List.map V.int O)) = H13 at *
  have l24 := hO.len
  have lO : (iV O).length = O.length := List.length_map _
  refine ⟨_, rfl, oo, O, rfl, hO13, hO, oO, fun H14 w1 s14 hw1 => ?_⟩
  refine ⟨(by show 1 ≤ sizeLine; decide), fun u1 hu1 => ?_⟩
  have s15 := Same.new (o := .tup [.int 1]) hu1
  refine ⟨_, rfl, oo, _, rfl, .inr (tupSame (s14.trans s15) hO13), ?_⟩
  rw [lO]
  refine mul_tup (SqT.of upd_same) (by omega) fun H16 w2 s16 hw2 => ?_
  refine ⟨dI (List.replicate O.length 1), dI (List.replicate O.length 1), .tup (tupSame (s15.trans s16) hw1) (dp_ints _), .tup hw2 (dp_ints _), (sh1 _).shaped (by decide), (sh1 _).shaped (by decide), _, rfl, ?_⟩
  rw [eqv_self (sh1 _) (by decide)]
  have t16 := s14.trans (s15.trans s16)
  have tf := t13.trans t16
  have hO16 := tupSame t16 hO13
  have pO := hO.pos
  have oO' : ∀ h ∈ O, (h.toNat) % 2 = 1 := fun h hh => by
    have a := oO h hh
    have b := hO.lo h hh
    omega
  have es := sn_sum pO
  refine iteF ⟨_, rfl, oo, O, rfl, hO16, ?_⟩
  rw [← es]
  refine ⟨_, rfl, _, _, rfl, rfl, _, rfl, ite2 (fun cg => fin _ tf) (fun cg => ?_)⟩
  have cg : ¬ _ := fun z => cg (decide_eq_true z)
  have sn80 : sn O ≤ 80 := by omega
  refine ⟨_, rfl, _, rfl, oo, O, sn O, rfl, hO16, hO, sn80, fun H17 s17 => ⟨rfl, _, rfl, ?_⟩⟩
  rw [cnt_top pO oO', show decide (V.int ((1 : Nat) : Int) = V.int 1) = true from rfl]
  refine iteT ⟨_, rfl, _, rfl, oo, O, sn O, rfl, tupSame s17 hO16, hO, sn80, by rw [cnt_top pO oO']; decide, fun H18 a18 xs s18 ha18 tv18 => ?_⟩
  rw [wds_top pO oO'] at tv18
  refine ⟨_, rfl, oo, O, rfl, tupSame (s17.trans s18) hO16, hO, oO, fun H19 w3 s19 hw3 => ⟨(by show 1 ≤ sizeLine; decide), fun w4 hw4 => ?_⟩⟩
  have s20 := Same.new (o := .tup [.ref w3]) hw4
  have sh2 : Shp 2 (.tuple ([List.replicate O.length (1 : Int)].map dI)) := Shp.tup (f := dI) (fun l => shp_dI l) _
  refine ⟨.tuple ([List.replicate O.length 1].map dI), .tuple ([List.replicate O.length 1].map dI), .tup (tupSame (s19.trans s20) ha18) (dp_tups (tv_mono tv18 (s19.trans s20))), .tup (SqT.of upd_same) (.cons (.tup (tupSame s20 hw3) (dp_ints _)) .nil), sh2.shaped (by decide), sh2.shaped (by decide), _, rfl, ?_⟩
  rw [eqv_self sh2 (by decide)]
  have t20 := s17.trans (s18.trans (s19.trans s20))
  refine iteT ⟨_, rfl, _, _, rfl, rfl, _, rfl, ite2 (fun ch => fin _ (tf.trans t20)) (fun ch => ?_)⟩
  have ch : ¬ _ := fun z => ch (decide_eq_true z)
  refine ⟨_, rfl, _, rfl, _, _, rfl, rfl, oo, O, sn O + 1, rfl, tupSame t20 hO16, hO, by omega, fun H21 s21 => ⟨rfl, ?_⟩⟩
  rw [cnt_high oO' _ (Nat.lt_succ_self _)]
  exact fin _ (tf.trans (t20.trans s21))
end
end K5
namespace K5
open PySem PySem.Spec PyProof.Rows L2 RZ
def cf : List Int → Nat → Nat
  | [], d => if d = 0 then 1 else 0
  | h :: L, d => if h.toNat % 2 = 1 then cf L d + (if h.toNat ≤ d then cf L (d - h.toNat) else 0) else ((List.range (d / h.toNat + 1)).map fun e => cf L (d - e * h.toNat)).sum
theorem cf_cnt : ∀ {L : List Int}, Pos1 L → cnt L = cf L
  | [], _ => rfl
  | h :: L, hp => by
    have ih := cf_cnt (L := L) fun y hy => hp y (List.mem_cons_of_mem _ hy)
    have h1 := hp h List.mem_cons_self
    funext d
    rw [cnt_cons, ih]
    unfold op cf
    by_cases c : h.toNat % 2 = 1
    · rw [if_pos c, if_pos c]
      rfl
    · rw [if_neg c, if_neg c]
      exact (sum_even h.toNat (by omega) (cf L) d).symm
theorem w1 : wds [2, 3, 3] 6 = [[0, 1, 1], [3, 0, 0]] := by decide +kernel
theorem w2 : wds [2, 3, 3] 1 = [] := by decide +kernel
theorem w3 : wds [] 0 = [[]] := by decide +kernel
theorem w5 : wds (List.replicate 24 40) 39 = [] := by decide +kernel
theorem w6 : (wds [2, 3, 3] 8).length = 2 := by decide +kernel
theorem w7 : cf [2, 2, 2, 3, 3, 3] 80 = 3084 := by decide +kernel
theorem w8 : (wds (List.replicate 24 1) 2).length = 276 := by decide +kernel
theorem w9 : upto [2, 3] 6 = [[0, 0], [1, 0], [0, 1], [2, 0], [1, 1]] := by decide +kernel
end K5
namespace K5
open PySem PySem.Spec PyProof.Rows L2 RZ
theorem lt (L : List Int) (h : L.length ≤ 24 ∧ (∀ d ∈ L, 1 ≤ d) ∧ (∀ d ∈ L, d ≤ 40)) : Lt L := ⟨h.1, h.2.1, h.2.2⟩
def BV (K : PySem.W.Frag) (H : Hp) (v : V) (ls : List (List Int)) : Prop := ∃ p ys, v = .ref p ∧ SqT K H p ys ∧ TupsV K H ys ls
theorem BV.mono {K : PySem.W.Frag} {H H' : Hp} {v : V} {ls : List (List Int)} (h : BV K H v ls) (s : Same H H') : BV K H' v ls := by
  obtain ⟨p, ys, e, h1, h2⟩ := h
  exact ⟨p, ys, e, tupSame s h1, tv_mono h2 s⟩
theorem BV.dp {K : PySem.W.Frag} {H : Hp} {v : V} {ls : List (List Int)} (h : BV K H v ls) : Dp K H v (.tuple (ls.map dI)) := by
  obtain ⟨p, ys, rfl, h1, h2⟩ := h
  exact .tup h1 (dp_tups h2)
def IV (K : PySem.W.Frag) (H : Hp) (v : V) (l : List Int) : Prop := ∃ p, v = .ref p ∧ SqT K H p (iV l)
theorem IV.mono {K : PySem.W.Frag} {H H' : Hp} {v : V} {l : List Int} (h : IV K H v l) (s : Same H H') : IV K H' v l := by
  obtain ⟨p, e, h1⟩ := h
  exact ⟨p, e, tupSame s h1⟩
theorem IV.dp {K : PySem.W.Frag} {H : Hp} {v : V} {l : List Int} (h : IV K H v l) : Dp K H v (dI l) := by
  obtain ⟨p, rfl, h1⟩ := h
  exact .tup h1 (dp_ints l)
theorem shp_lots (ls : List (List Int)) : Shp 2 (.tuple (ls.map dI)) := .tup shp_dI ls
theorem Shp.le {n m : Nat} {d : PyData} (h : Shp n d) (hm : n ≤ m) : Shp m d := ⟨h.can, Nat.le_trans h.dep hm⟩
def spLaw (K : PySem.W.Frag) : Sp := fun vs H Q _ => ∃ (a : Addr) (ns : List Int), vs = [.ref a] ∧ SqL K H a (ns.map V.int) ∧ ns.length ≤ 1000 ∧ ∀ H', Q (.bl true) H'
theorem scLaw : FnScope ["script", "spot", "dice", "turn", "three", "told"] ["script"] (defScope sLaw) := ⟨rfl, rfl, rfl, by decide +kernel, rfl, by decide +kernel, by decide +kernel⟩
section
variable {P : Program} {w : World} {K : PySem.W.Frag} {mg : Str → Option Value} {base : Heap} {fD fA fB fO fC fE fF fT fG : Addr} {dD dA dB dO dC dE dF dT dG : FuncData}
theorem ok_law {f : Addr} {fd : FuncData} (F : Fun K "law" "law" sLaw f fd) (T : Txt K mg) (gD : mg "_law_dice" = some (.ref fD)) (kD : PySem.W.keepIn K (.ref fD) = true) (bD : Binds K dD ["script", "spot"] []) (FD : FnOk P w K mg base CX0 1 fD dD ["script", "spot"] (spDice K))
    (gA : mg "_law_lists_right" = some (.ref fA)) (kA : PySem.W.keepIn K (.ref fA) = true) (bA : Binds K dA ["dice"] []) (FA : FnOk P w K mg base CX0 10 fA dA ["dice"] spGood)
    (gB : mg "_law_counts_right" = some (.ref fB)) (kB : PySem.W.keepIn K (.ref fB) = true) (bB : Binds K dB ["dice"] []) (FB : FnOk P w K mg base CX0 7 fB dB ["dice"] spGood)
    (gO : mg "words_of" = some (.ref fO)) (kO : PySem.W.keepIn K (.ref fO) = true) (bO : Binds K dO ["letters", "degree"] []) (FO : FnOk P w K mg base CX0 6 fO dO ["letters", "degree"] (spWords K))
    (gC : mg "word_count" = some (.ref fC)) (kC : PySem.W.keepIn K (.ref fC) = true) (bC : Binds K dC ["letters", "degree"] []) (FC : FnOk P w K mg base CX0 6 fC dC ["letters", "degree"] (spCount K))
    (gE : mg "even_letters" = some (.ref fE)) (kE : PySem.W.keepIn K (.ref fE) = true) (bE : Binds K dE ["letters"] []) (FE : FnOk P w K mg base CX0 6 fE dE ["letters"] (spPar K 0))
    (gF : mg "odd_letters" = some (.ref fF)) (kF : PySem.W.keepIn K (.ref fF) = true) (bF : Binds K dF ["letters"] []) (FF : FnOk P w K mg base CX0 6 fF dF ["letters"] (spPar K 1))
    (gT : mg "top_word" = some (.ref fT)) (kT : PySem.W.keepIn K (.ref fT) = true) (bT : Binds K dT ["letters"] []) (FT : FnOk P w K mg base CX0 6 fT dT ["letters"] (spTop K))
    (gG : mg "each_word" = some (.ref fG)) (kG : PySem.W.keepIn K (.ref fG) = true) (bG : Binds K dG ["letters", "most"] []) (FG : GFn P w K mg base 6 fG dG ["letters", "most"] (spEach K)) : FnOk P w K mg base CX0 11 f fd ["script"] (spLaw K) := by
  refine F.ok scLaw (fun vs H Q E h => ?_) (fun cdv A outer s H vs Q E hr h => ?_)
  · obtain ⟨a, ns, rfl, _⟩ := h; rfl
  obtain ⟨a, ns, rfl, hS, ln, k⟩ := h
  have hr1 : Room 1 _ := hr.mono (by decide)
  have hr6 : Room 6 _ := hr.mono (by decide)
  have hr7 : Room 7 _ := hr.mono (by decide)
  have hr9 : Room 9 _ := hr.mono (by decide)
  refine ⟨_, pss_cons (ps_for PassesOwn.never rfl (pi_range1 rfl T.range (pa_cons (pe_callB (call_max2 rfl) (by rfl) T.max bootMax (pa_cons pe_int (pa_cons (pe_callB (call_min2 rfl) (by rfl) T.min bootMin (pa_cons pe_int (pa_cons (pe_callB call_len_seq (by rfl) T.len PySem.boot_len (pa_cons (pv 0) pa_nil)) pa_nil))) pa_nil))) pa_nil))
      (pg_name (i := 1) scLaw.nd rfl (.inl rfl))
      (pss_cons (ps_set (i := 2) scLaw.nd rfl (.inl rfl) (pe_call FD hr1 (by rfl) gD kD bD .nil pass0 (pa_cons (pv 0) (pa_cons (pv 1) pa_nil))))
      (pss_one (ps_for PassesOwn.never rfl (pi_range1 rfl T.range (pa_cons pe_int pa_nil)) (pg_name (i := 3) scLaw.nd rfl (.inl rfl))
        (pss_one (ps_if (PW.pt (pw_or (pt_not (pt_val (pe_call FA hr (by rfl) gA kA bA .nil pass0 (pa_cons (pv 2) pa_nil)))) (pw_or1 (pt_not (pt_val (pe_call FB hr7 (by rfl) gB kB bB .nil pass0 (pa_cons (pv 2) pa_nil))))))) (pss_one (ps_ret pe_bl)) pss_nil))))))
    (pss_cons (ps_set (i := 4) scLaw.nd rfl (.inl rfl) (pe_tup (pa_cons pe_int (pa_cons pe_int (pa_cons pe_int pa_nil)))))
    (pss_cons (ps_set (i := 5) scLaw.nd rfl (.inl rfl) (pe_lst (pa_cons (pe_call FO hr6 (by rfl) gO kO bO .nil pass0 (pa_cons (pv 4) (pa_cons pe_int pa_nil)))
        (pa_cons (pe_call FO hr6 (by rfl) gO kO bO .nil pass0 (pa_cons (pv 4) (pa_cons pe_int pa_nil)))
        (pa_cons (pe_call FO hr6 (by rfl) gO kO bO .nil pass0 (pa_cons (pe_tup pa_nil) (pa_cons pe_int pa_nil)))
        (pa_cons (pe_call FO hr6 (by rfl) gO kO bO .nil pass0 (pa_cons (pe_op op_mulT (pe_tup (pa_cons pe_int pa_nil)) pe_int) (pa_cons pe_int pa_nil)))
        (pa_cons (pe_call FO hr6 (by rfl) gO kO bO .nil pass0 (pa_cons (pe_op op_mulT (pe_tup (pa_cons pe_int pa_nil)) pe_int) (pa_cons pe_int pa_nil))) pa_nil)))))))
    (pss_cons (ps_if (PW.pt (pw_or (pt_cmpR (op_neD hr.units) (pv 5) (pe_lst (pa_cons (pe_tup (pa_cons (pe_tup (pa_cons pe_int (pa_cons pe_int (pa_cons pe_int pa_nil)))) (pa_cons (pe_tup (pa_cons pe_int (pa_cons pe_int (pa_cons pe_int pa_nil)))) pa_nil)))
          (pa_cons (pe_tup pa_nil) (pa_cons (pe_tup (pa_cons (pe_tup pa_nil) pa_nil)) (pa_cons (pe_tup pa_nil) (pa_cons (pe_tup pa_nil) pa_nil)))))) (nomark _))
        (pw_or1 (pt_cmpR (op_neD hr.units) (pe_lst (pa_cons (pe_call FC hr6 (by rfl) gC kC bC .nil pass0 (pa_cons (pv 4) (pa_cons pe_int pa_nil))) (pa_cons (pe_call FC hr6 (by rfl) gC kC bC .nil pass0 (pa_cons (pe_tup (pa_cons pe_int (pa_cons pe_int (pa_cons pe_int (pa_cons pe_int (pa_cons pe_int (pa_cons pe_int pa_nil))))))) (pa_cons pe_int pa_nil))) pa_nil)))
          (pe_lst (pa_cons pe_int (pa_cons pe_int pa_nil))) (nomark _))))) (pss_one (ps_ret pe_bl)) pss_nil)
    (pss_cons (ps_set (i := 5) scLaw.nd rfl (.inl rfl) (pe_lst (pa_cons (pe_call FE hr6 (by rfl) gE kE bE .nil pass0 (pa_cons (pv 4) pa_nil)) (pa_cons (pe_call FF hr6 (by rfl) gF kF bF .nil pass0 (pa_cons (pv 4) pa_nil))
        (pa_cons (pe_call FT hr6 (by rfl) gT kT bT .nil pass0 (pa_cons (pe_tup (pa_cons pe_int (pa_cons pe_int pa_nil))) pa_nil)) (pa_cons (pe_call FT hr6 (by rfl) gT kT bT .nil pass0 (pa_cons (pe_tup pa_nil) pa_nil))
        (pa_cons (pe_listG (k := 6) (E := E0) (pgen_call FG hr6 (by rfl) gG kG bG .nil (pa_cons (pe_tup (pa_cons pe_int (pa_cons pe_int pa_nil))) (pa_cons pe_int pa_nil))) passL (fun _ _ _ h => h.elim) hr9 (by rfl) T.list bootList)
        (pa_cons (pe_callB call_len_seq (by rfl) T.len PySem.boot_len (pa_cons (pe_call FO hr6 (by rfl) gO kO bO .nil pass0 (pa_cons (pe_op op_mulT (pe_tup (pa_cons pe_int pa_nil)) pe_int) (pa_cons pe_int pa_nil))) pa_nil)) pa_nil))))))))
    (pss_one (ps_ret (pe_cmpR (op_eqD hr.units) (pv 5) (pe_lst (pa_cons (pe_tup (pa_cons pe_int pa_nil)) (pa_cons (pe_tup (pa_cons pe_int (pa_cons pe_int pa_nil))) (pa_cons (pe_tup (pa_cons pe_int (pa_cons pe_int pa_nil))) (pa_cons (pe_tup pa_nil)
        (pa_cons (pe_lst (pa_cons (pe_tup (pa_cons pe_int (pa_cons pe_int pa_nil))) (pa_cons (pe_tup (pa_cons pe_int (pa_cons pe_int pa_nil))) (pa_cons (pe_tup (pa_cons pe_int (pa_cons pe_int pa_nil))) (pa_cons (pe_tup (pa_cons pe_int (pa_cons pe_int pa_nil))) (pa_cons (pe_tup (pa_cons pe_int (pa_cons pe_int pa_nil))) pa_nil)))))) (pa_cons pe_int pa_nil))))))) (nomark _)))))))), ?_⟩
  refine ⟨_, rfl, a, _, rfl, .inl hS, _, _, rfl, _, _, rfl, _, rfl, ?_, ?_, ?_⟩
  · split <;> split <;> omega
  · split <;> split <;> omega
  refine for_range (lo := 0) (fun _ σ' H' => ∃ o1 o2 o3 : Option V, σ' = [some (.ref a), o1, o2, o3, none, none] ∧ SqL K H' a (ns.map V.int)) ⟨none, none, none, rfl, hS⟩ ?_ ?_
  · rintro i σ' H' _ ⟨o1, o2, o3, rfl, hs⟩
    refine ⟨_, rfl, _, rfl, a, _, ns, rfl, hs, by omega, fun L p hL hp => ?_⟩
    refine ⟨2, rfl, by decide, by decide, for_range (lo := 0) (fun _ σ' H2 => ∃ (o3 : Option V) (L' : List V), σ' = [some (.ref a), some (.int (0 + (i : Int))), some (.ref p), o3, none, none] ∧ H2 p = some (.lst L') ∧ DiceL L' ∧ But p (upd H' p (.lst L)) H2) ⟨o3, L, rfl, upd_same, hL, But.refl _ _⟩ ?_ ?_⟩
    · rintro j σ2 H2 _ ⟨o3, L', rfl, h2, hL', B⟩
      refine ⟨_, rfl, p, L', rfl, h2, hL', fun H3 L3 B3 h3 hL3 => ⟨_, rfl, iteF ⟨_, rfl, p, L3, rfl, h3, hL3, fun H4 L4 B4 h4 hL4 => ⟨_, rfl, iteF ⟨_, L4, rfl, h4, hL4, B.trans (B3.trans B4)⟩⟩⟩⟩⟩
    · rintro σ2 H2 ⟨o3, L', rfl, h2, hL', B⟩
      exact ⟨_, _, _, rfl, seqBut hs hp B⟩
  rintro σ' H0 ⟨o1, o2, o3, rfl, hs⟩
  have lt3 : Lt [2, 3, 3] := lt _ (by decide)
  have lt0 : Lt [] := lt _ (by decide)
  have ltA : Lt (List.replicate 24 2) := lt _ (by decide)
  have ltB : Lt (List.replicate 24 40) := lt _ (by decide)
  have ltC : Lt (List.replicate 24 1) := lt _ (by decide)
  have lt6 : Lt [2, 2, 2, 3, 3, 3] := lt _ (by decide)
  have lt2 : Lt [2, 3] := lt _ (by decide)
  have lt5 : Lt [3, 5] := lt _ (by decide)
  have w4 : wds (List.replicate 24 2) 79 = [] := wds_evens ltA.pos (by decide) (by decide)
  refine ⟨(by show 3 ≤ sizeLine; decide), fun th hth => ?_⟩
  have eth := Same.new (o := .tup [.int 2, .int 3, .int 3]) hth
  have gth : upd H0 th (.tup [.int 2, .int 3, .int 3]) th = some (.tup [.int 2, .int 3, .int 3]) := upd_same
  generalize upd H0 th (.tup [.int 2, .int 3, .int 3]) = G0 at *
  have Ith : IV K G0 (.ref th) [2, 3, 3] := ⟨th, rfl, SqT.of gth⟩
  skip
  refine ⟨_, rfl, th, [2, 3, 3], 6, rfl, (by obtain ⟨_, z, q⟩ := Ith; cases z; exact q), lt3, by decide, by rw [← wds_len _ _ lt3.pos, w1]; decide, fun J1 p1 yp1 sp1 hp1 vp1 => ?_⟩
  rw [w1] at vp1
  have Bp1 : BV K J1 (.ref p1) [[0, 1, 1], [3, 0, 0]] := ⟨p1, yp1, rfl, hp1, vp1⟩
  replace Ith := Ith.mono sp1
  refine ⟨_, rfl, th, [2, 3, 3], 1, rfl, (by obtain ⟨_, z, q⟩ := Ith; cases z; exact q), lt3, by decide, by rw [← wds_len _ _ lt3.pos, w2]; decide, fun J2 p2 yp2 sp2 hp2 vp2 => ?_⟩
  rw [w2] at vp2
  have Bp2 : BV K J2 (.ref p2) [] := ⟨p2, yp2, rfl, hp2, vp2⟩
  replace Ith := Ith.mono sp2
  replace Bp1 := Bp1.mono sp2
  refine ⟨(by show 0 ≤ sizeLine; decide), fun t3 ht3 => ?_⟩
  have et3 := Same.new (o := .tup []) ht3
  have gt3 : upd J2 t3 (.tup []) t3 = some (.tup []) := upd_same
  generalize upd J2 t3 (.tup []) = G3 at *
  replace Ith := Ith.mono et3
  replace Bp1 := Bp1.mono et3
  replace Bp2 := Bp2.mono et3
  have It3 : IV K G3 (.ref t3) [] := ⟨t3, rfl, SqT.of gt3⟩
  refine ⟨t3, [], 0, rfl, (by obtain ⟨_, z, q⟩ := It3; cases z; exact q), lt0, by decide, by rw [← wds_len _ _ lt0.pos, w3]; decide, fun J3 p3 yp3 sp3 hp3 vp3 => ?_⟩
  rw [w3] at vp3
  have Bp3 : BV K J3 (.ref p3) [[]] := ⟨p3, yp3, rfl, hp3, vp3⟩
  replace Ith := Ith.mono sp3
  replace Bp1 := Bp1.mono sp3
  replace Bp2 := Bp2.mono sp3
  replace It3 := It3.mono sp3
  refine ⟨(by show 1 ≤ sizeLine; decide), fun u4 hu4 => ?_⟩
  have eu4 := Same.new (o := .tup [.int 2]) hu4
  have gu4 : upd J3 u4 (.tup [.int 2]) u4 = some (.tup [.int 2]) := upd_same
  generalize upd J3 u4 (.tup [.int 2]) = G4 at *
  replace Ith := Ith.mono eu4
  replace Bp1 := Bp1.mono eu4
  replace Bp2 := Bp2.mono eu4
  replace It3 := It3.mono eu4
  replace Bp3 := Bp3.mono eu4
  have Iu4 : IV K G4 (.ref u4) [2] := ⟨u4, rfl, SqT.of gu4⟩
  refine ⟨u4, 24, [.int 2], rfl, rfl, (by obtain ⟨_, z, q⟩ := Iu4; cases z; exact q), (by intro z; cases z), by decide, by decide, by decide, fun e1 => absurd e1 (by decide), fun _ m4 hm4 => ?_⟩
  have sm4 := Same.new (o := .tup (List.replicate (24 : Int).toNat [V.int 2]).flatten) hm4
  have gm4 : upd G4 m4 (.tup (List.replicate (24 : Int).toNat [V.int 2]).flatten) m4 = some (.tup (iV (List.replicate 24 2))) := upd_same
  generalize upd G4 m4 (.tup (List.replicate (24 : Int).toNat [V.int 2]).flatten) = G4b at *
  have Im4 : IV K G4b (.ref m4) (List.replicate 24 2) := ⟨m4, rfl, SqT.of gm4⟩
  replace Ith := Ith.mono sm4
  replace Bp1 := Bp1.mono sm4
  replace Bp2 := Bp2.mono sm4
  replace It3 := It3.mono sm4
  replace Bp3 := Bp3.mono sm4
  replace Iu4 := Iu4.mono sm4
  refine ⟨m4, (List.replicate 24 2), 79, rfl, (by obtain ⟨_, z, q⟩ := Im4; cases z; exact q), ltA, by decide, by rw [← wds_len _ _ ltA.pos, w4]; decide, fun J4 p4 yp4 sp4 hp4 vp4 => ?_⟩
  rw [w4] at vp4
  have Bp4 : BV K J4 (.ref p4) [] := ⟨p4, yp4, rfl, hp4, vp4⟩
  replace Ith := Ith.mono sp4
  replace Bp1 := Bp1.mono sp4
  replace Bp2 := Bp2.mono sp4
  replace It3 := It3.mono sp4
  replace Bp3 := Bp3.mono sp4
  replace Iu4 := Iu4.mono sp4
  replace Im4 := Im4.mono sp4
  refine ⟨(by show 1 ≤ sizeLine; decide), fun u5 hu5 => ?_⟩
  have eu5 := Same.new (o := .tup [.int 40]) hu5
  have gu5 : upd J4 u5 (.tup [.int 40]) u5 = some (.tup [.int 40]) := upd_same
  generalize upd J4 u5 (.tup [.int 40]) = G5 at *
  replace Ith := Ith.mono eu5
  replace Bp1 := Bp1.mono eu5
  replace Bp2 := Bp2.mono eu5
  replace It3 := It3.mono eu5
  replace Bp3 := Bp3.mono eu5
  replace Iu4 := Iu4.mono eu5
  replace Im4 := Im4.mono eu5
  replace Bp4 := Bp4.mono eu5
  have Iu5 : IV K G5 (.ref u5) [40] := ⟨u5, rfl, SqT.of gu5⟩
  refine ⟨u5, 24, [.int 40], rfl, rfl, (by obtain ⟨_, z, q⟩ := Iu5; cases z; exact q), (by intro z; cases z), by decide, by decide, by decide, fun e1 => absurd e1 (by decide), fun _ m5 hm5 => ?_⟩
  have sm5 := Same.new (o := .tup (List.replicate (24 : Int).toNat [V.int 40]).flatten) hm5
  have gm5 : upd G5 m5 (.tup (List.replicate (24 : Int).toNat [V.int 40]).flatten) m5 = some (.tup (iV (List.replicate 24 40))) := upd_same
  generalize upd G5 m5 (.tup (List.replicate (24 : Int).toNat [V.int 40]).flatten) = G5b at *
  have Im5 : IV K G5b (.ref m5) (List.replicate 24 40) := ⟨m5, rfl, SqT.of gm5⟩
  replace Ith := Ith.mono sm5
  replace Bp1 := Bp1.mono sm5
  replace Bp2 := Bp2.mono sm5
  replace It3 := It3.mono sm5
  replace Bp3 := Bp3.mono sm5
  replace Iu4 := Iu4.mono sm5
  replace Im4 := Im4.mono sm5
  replace Bp4 := Bp4.mono sm5
  replace Iu5 := Iu5.mono sm5
  refine ⟨m5, (List.replicate 24 40), 39, rfl, (by obtain ⟨_, z, q⟩ := Im5; cases z; exact q), ltB, by decide, by rw [← wds_len _ _ ltB.pos, w5]; decide, fun J5 p5 yp5 sp5 hp5 vp5 => ?_⟩
  rw [w5] at vp5
  have Bp5 : BV K J5 (.ref p5) [] := ⟨p5, yp5, rfl, hp5, vp5⟩
  replace Ith := Ith.mono sp5
  replace Bp1 := Bp1.mono sp5
  replace Bp2 := Bp2.mono sp5
  replace It3 := It3.mono sp5
  replace Bp3 := Bp3.mono sp5
  replace Iu4 := Iu4.mono sp5
  replace Im4 := Im4.mono sp5
  replace Bp4 := Bp4.mono sp5
  replace Iu5 := Iu5.mono sp5
  replace Im5 := Im5.mono sp5
  refine ⟨(by show 5 ≤ sizeLine; decide), fun q1 hq1 => ?_⟩
  have eq1 := Same.new (o := .lst [.ref p1, .ref p2, .ref p3, .ref p4, .ref p5]) hq1
  have gq1 : upd J5 q1 (.lst [.ref p1, .ref p2, .ref p3, .ref p4, .ref p5]) q1 = some (.lst [.ref p1, .ref p2, .ref p3, .ref p4, .ref p5]) := upd_same
  generalize upd J5 q1 (.lst [.ref p1, .ref p2, .ref p3, .ref p4, .ref p5]) = G6 at *
  replace Ith := Ith.mono eq1
  replace Bp1 := Bp1.mono eq1
  replace Bp2 := Bp2.mono eq1
  replace It3 := It3.mono eq1
  replace Bp3 := Bp3.mono eq1
  replace Iu4 := Iu4.mono eq1
  replace Im4 := Im4.mono eq1
  replace Bp4 := Bp4.mono eq1
  replace Iu5 := Iu5.mono eq1
  replace Im5 := Im5.mono eq1
  replace Bp5 := Bp5.mono eq1
  refine ⟨_, rfl, ?_⟩
  refine ⟨(by show 3 ≤ sizeLine; decide), fun c1 hc1 => ?_⟩
  have ec1 := Same.new (o := .tup [.int 0, .int 1, .int 1]) hc1
  have gc1 : upd G6 c1 (.tup [.int 0, .int 1, .int 1]) c1 = some (.tup [.int 0, .int 1, .int 1]) := upd_same
  generalize upd G6 c1 (.tup [.int 0, .int 1, .int 1]) = M1 at *
  replace Ith := Ith.mono ec1
  replace Bp1 := Bp1.mono ec1
  replace Bp2 := Bp2.mono ec1
  replace It3 := It3.mono ec1
  replace Bp3 := Bp3.mono ec1
  replace Iu4 := Iu4.mono ec1
  replace Im4 := Im4.mono ec1
  replace Bp4 := Bp4.mono ec1
  replace Iu5 := Iu5.mono ec1
  replace Im5 := Im5.mono ec1
  replace Bp5 := Bp5.mono ec1
  have Ic1 : IV K M1 (.ref c1) [0, 1, 1] := ⟨c1, rfl, SqT.of gc1⟩
  refine ⟨(by show 3 ≤ sizeLine; decide), fun c2 hc2 => ?_⟩
  have ec2 := Same.new (o := .tup [.int 3, .int 0, .int 0]) hc2
  have gc2 : upd M1 c2 (.tup [.int 3, .int 0, .int 0]) c2 = some (.tup [.int 3, .int 0, .int 0]) := upd_same
  generalize upd M1 c2 (.tup [.int 3, .int 0, .int 0]) = M2 at *
  replace Ith := Ith.mono ec2
  replace Bp1 := Bp1.mono ec2
  replace Bp2 := Bp2.mono ec2
  replace It3 := It3.mono ec2
  replace Bp3 := Bp3.mono ec2
  replace Iu4 := Iu4.mono ec2
  replace Im4 := Im4.mono ec2
  replace Bp4 := Bp4.mono ec2
  replace Iu5 := Iu5.mono ec2
  replace Im5 := Im5.mono ec2
  replace Bp5 := Bp5.mono ec2
  replace Ic1 := Ic1.mono ec2
  have Ic2 : IV K M2 (.ref c2) [3, 0, 0] := ⟨c2, rfl, SqT.of gc2⟩
  refine ⟨(by show 2 ≤ sizeLine; decide), fun c3 hc3 => ?_⟩
  have ec3 := Same.new (o := .tup [.ref c1, .ref c2]) hc3
  have gc3 : upd M2 c3 (.tup [.ref c1, .ref c2]) c3 = some (.tup [.ref c1, .ref c2]) := upd_same
  generalize upd M2 c3 (.tup [.ref c1, .ref c2]) = M3 at *
  replace Ith := Ith.mono ec3
  replace Bp1 := Bp1.mono ec3
  replace Bp2 := Bp2.mono ec3
  replace It3 := It3.mono ec3
  replace Bp3 := Bp3.mono ec3
  replace Iu4 := Iu4.mono ec3
  replace Im4 := Im4.mono ec3
  replace Bp4 := Bp4.mono ec3
  replace Iu5 := Iu5.mono ec3
  replace Im5 := Im5.mono ec3
  replace Bp5 := Bp5.mono ec3
  replace Ic1 := Ic1.mono ec3
  replace Ic2 := Ic2.mono ec3
  have Bc3 : BV K M3 (.ref c3) [[0, 1, 1], [3, 0, 0]] := ⟨c3, _, rfl, SqT.of gc3, .cons Ic1 (.cons Ic2 (.nil))⟩
  refine ⟨(by show 0 ≤ sizeLine; decide), fun c4 hc4 => ?_⟩
  have ec4 := Same.new (o := .tup []) hc4
  have gc4 : upd M3 c4 (.tup []) c4 = some (.tup []) := upd_same
  generalize upd M3 c4 (.tup []) = M4 at *
  replace Ith := Ith.mono ec4
  replace Bp1 := Bp1.mono ec4
  replace Bp2 := Bp2.mono ec4
  replace It3 := It3.mono ec4
  replace Bp3 := Bp3.mono ec4
  replace Iu4 := Iu4.mono ec4
  replace Im4 := Im4.mono ec4
  replace Bp4 := Bp4.mono ec4
  replace Iu5 := Iu5.mono ec4
  replace Im5 := Im5.mono ec4
  replace Bp5 := Bp5.mono ec4
  replace Ic1 := Ic1.mono ec4
  replace Ic2 := Ic2.mono ec4
  replace Bc3 := Bc3.mono ec4
  have Bc4 : BV K M4 (.ref c4) [] := ⟨c4, _, rfl, SqT.of gc4, .nil⟩
  refine ⟨(by show 0 ≤ sizeLine; decide), fun c5 hc5 => ?_⟩
  have ec5 := Same.new (o := .tup []) hc5
  have gc5 : upd M4 c5 (.tup []) c5 = some (.tup []) := upd_same
  generalize upd M4 c5 (.tup []) = M5 at *
  replace Ith := Ith.mono ec5
  replace Bp1 := Bp1.mono ec5
  replace Bp2 := Bp2.mono ec5
  replace It3 := It3.mono ec5
  replace Bp3 := Bp3.mono ec5
  replace Iu4 := Iu4.mono ec5
  replace Im4 := Im4.mono ec5
  replace Bp4 := Bp4.mono ec5
  replace Iu5 := Iu5.mono ec5
  replace Im5 := Im5.mono ec5
  replace Bp5 := Bp5.mono ec5
  replace Ic1 := Ic1.mono ec5
  replace Ic2 := Ic2.mono ec5
  replace Bc3 := Bc3.mono ec5
  replace Bc4 := Bc4.mono ec5
  have Ic5 : IV K M5 (.ref c5) [] := ⟨c5, rfl, SqT.of gc5⟩
  refine ⟨(by show 1 ≤ sizeLine; decide), fun c6 hc6 => ?_⟩
  have ec6 := Same.new (o := .tup [.ref c5]) hc6
  have gc6 : upd M5 c6 (.tup [.ref c5]) c6 = some (.tup [.ref c5]) := upd_same
  generalize upd M5 c6 (.tup [.ref c5]) = M6 at *
  replace Ith := Ith.mono ec6
  replace Bp1 := Bp1.mono ec6
  replace Bp2 := Bp2.mono ec6
  replace It3 := It3.mono ec6
  replace Bp3 := Bp3.mono ec6
  replace Iu4 := Iu4.mono ec6
  replace Im4 := Im4.mono ec6
  replace Bp4 := Bp4.mono ec6
  replace Iu5 := Iu5.mono ec6
  replace Im5 := Im5.mono ec6
  replace Bp5 := Bp5.mono ec6
  replace Ic1 := Ic1.mono ec6
  replace Ic2 := Ic2.mono ec6
  replace Bc3 := Bc3.mono ec6
  replace Bc4 := Bc4.mono ec6
  replace Ic5 := Ic5.mono ec6
  have Bc6 : BV K M6 (.ref c6) [[]] := ⟨c6, _, rfl, SqT.of gc6, .cons Ic5 (.nil)⟩
  refine ⟨(by show 0 ≤ sizeLine; decide), fun c7 hc7 => ?_⟩
  have ec7 := Same.new (o := .tup []) hc7
  have gc7 : upd M6 c7 (.tup []) c7 = some (.tup []) := upd_same
  generalize upd M6 c7 (.tup []) = M7 at *
  replace Ith := Ith.mono ec7
  replace Bp1 := Bp1.mono ec7
  replace Bp2 := Bp2.mono ec7
  replace It3 := It3.mono ec7
  replace Bp3 := Bp3.mono ec7
  replace Iu4 := Iu4.mono ec7
  replace Im4 := Im4.mono ec7
  replace Bp4 := Bp4.mono ec7
  replace Iu5 := Iu5.mono ec7
  replace Im5 := Im5.mono ec7
  replace Bp5 := Bp5.mono ec7
  replace Ic1 := Ic1.mono ec7
  replace Ic2 := Ic2.mono ec7
  replace Bc3 := Bc3.mono ec7
  replace Bc4 := Bc4.mono ec7
  replace Ic5 := Ic5.mono ec7
  replace Bc6 := Bc6.mono ec7
  have Bc7 : BV K M7 (.ref c7) [] := ⟨c7, _, rfl, SqT.of gc7, .nil⟩
  refine ⟨(by show 0 ≤ sizeLine; decide), fun c8 hc8 => ?_⟩
  have ec8 := Same.new (o := .tup []) hc8
  have gc8 : upd M7 c8 (.tup []) c8 = some (.tup []) := upd_same
  generalize upd M7 c8 (.tup []) = M8 at *
  replace Ith := Ith.mono ec8
  replace Bp1 := Bp1.mono ec8
  replace Bp2 := Bp2.mono ec8
  replace It3 := It3.mono ec8
  replace Bp3 := Bp3.mono ec8
  replace Iu4 := Iu4.mono ec8
  replace Im4 := Im4.mono ec8
  replace Bp4 := Bp4.mono ec8
  replace Iu5 := Iu5.mono ec8
  replace Im5 := Im5.mono ec8
  replace Bp5 := Bp5.mono ec8
  replace Ic1 := Ic1.mono ec8
  replace Ic2 := Ic2.mono ec8
  replace Bc3 := Bc3.mono ec8
  replace Bc4 := Bc4.mono ec8
  replace Ic5 := Ic5.mono ec8
  replace Bc6 := Bc6.mono ec8
  replace Bc7 := Bc7.mono ec8
  have Bc8 : BV K M8 (.ref c8) [] := ⟨c8, _, rfl, SqT.of gc8, .nil⟩
  have gq1' := gq1
  refine ⟨(by show 5 ≤ sizeLine; decide), fun q2 hq2 => ?_⟩
  have eq2 := Same.new (o := .lst [.ref c3, .ref c4, .ref c6, .ref c7, .ref c8]) hq2
  have gq2 : upd M8 q2 (.lst [.ref c3, .ref c4, .ref c6, .ref c7, .ref c8]) q2 = some (.lst [.ref c3, .ref c4, .ref c6, .ref c7, .ref c8]) := upd_same
  generalize upd M8 q2 (.lst [.ref c3, .ref c4, .ref c6, .ref c7, .ref c8]) = M9 at *
  replace Ith := Ith.mono eq2
  replace Bp1 := Bp1.mono eq2
  replace Bp2 := Bp2.mono eq2
  replace It3 := It3.mono eq2
  replace Bp3 := Bp3.mono eq2
  replace Iu4 := Iu4.mono eq2
  replace Im4 := Im4.mono eq2
  replace Bp4 := Bp4.mono eq2
  replace Iu5 := Iu5.mono eq2
  replace Im5 := Im5.mono eq2
  replace Bp5 := Bp5.mono eq2
  replace Ic1 := Ic1.mono eq2
  replace Ic2 := Ic2.mono eq2
  replace Bc3 := Bc3.mono eq2
  replace Bc4 := Bc4.mono eq2
  replace Ic5 := Ic5.mono eq2
  replace Bc6 := Bc6.mono eq2
  replace Bc7 := Bc7.mono eq2
  replace Bc8 := Bc8.mono eq2
  have sq : Same G6 M9 := ec1.trans (ec2.trans (ec3.trans (ec4.trans (ec5.trans (ec6.trans (ec7.trans (ec8.trans eq2)))))))
  have dt : DpAll K M9 [.ref p1, .ref p2, .ref p3, .ref p4, .ref p5] ([[[0, 1, 1], [3, 0, 0]], [], [[]], [], []].map fun ls : List (List Int) => .tuple (ls.map dI)) := .cons Bp1.dp (.cons Bp2.dp (.cons Bp3.dp (.cons Bp4.dp (.cons Bp5.dp .nil))))
  have dc : DpAll K M9 [.ref c3, .ref c4, .ref c6, .ref c7, .ref c8] ([[[0, 1, 1], [3, 0, 0]], [], [[]], [], []].map fun ls : List (List Int) => .tuple (ls.map dI)) := .cons Bc3.dp (.cons Bc4.dp (.cons Bc6.dp (.cons Bc7.dp (.cons Bc8.dp .nil))))
  refine ⟨.list _, .list _, .lst (SqL.of (sq _ _ gq1)) dt, .lst (SqL.of gq2) dc, (Shp.lst shp_lots _).shaped (by decide), (Shp.lst shp_lots _).shaped (by decide), _, rfl, ?_⟩
  rw [eqv_self (Shp.lst shp_lots _) (by decide)]
  refine iteF ?_
  refine ⟨_, rfl, th, [2, 3, 3], 8, rfl, (by obtain ⟨_, z, q⟩ := Ith; cases z; exact q), lt3, by decide, fun N1 s21 => ?_⟩
  rw [← wds_len _ _ lt3.pos, w6]
  replace Ith := Ith.mono s21
  refine ⟨(by show 6 ≤ sizeLine; decide), fun t6 ht6 => ?_⟩
  have et6 := Same.new (o := .tup [.int 2, .int 2, .int 2, .int 3, .int 3, .int 3]) ht6
  have gt6 : upd N1 t6 (.tup [.int 2, .int 2, .int 2, .int 3, .int 3, .int 3]) t6 = some (.tup [.int 2, .int 2, .int 2, .int 3, .int 3, .int 3]) := upd_same
  generalize upd N1 t6 (.tup [.int 2, .int 2, .int 2, .int 3, .int 3, .int 3]) = G7 at *
  replace Ith := Ith.mono et6
  have It6 : IV K G7 (.ref t6) [2, 2, 2, 3, 3, 3] := ⟨t6, rfl, SqT.of gt6⟩
  refine ⟨t6, [2, 2, 2, 3, 3, 3], 80, rfl, (by obtain ⟨_, z, q⟩ := It6; cases z; exact q), lt6, by decide, fun N2 s22 => ?_⟩
  rw [cf_cnt lt6.pos, w7]
  replace Ith := Ith.mono s22
  replace It6 := It6.mono s22
  refine ⟨(by show 2 ≤ sizeLine; decide), fun q3 hq3 => ?_⟩
  have eq3 := Same.new (o := .lst [.int ((2 : Nat) : Int), .int ((3084 : Nat) : Int)]) hq3
  have gq3 : upd N2 q3 (.lst [.int ((2 : Nat) : Int), .int ((3084 : Nat) : Int)]) q3 = some (.lst [.int ((2 : Nat) : Int), .int ((3084 : Nat) : Int)]) := upd_same
  generalize upd N2 q3 (.lst [.int ((2 : Nat) : Int), .int ((3084 : Nat) : Int)]) = G8 at *
  replace Ith := Ith.mono eq3
  replace It6 := It6.mono eq3
  refine ⟨(by show 2 ≤ sizeLine; decide), fun q4 hq4 => ?_⟩
  have eq4 := Same.new (o := .lst [.int 2, .int 3084]) hq4
  have gq4 : upd G8 q4 (.lst [.int 2, .int 3084]) q4 = some (.lst [.int 2, .int 3084]) := upd_same
  generalize upd G8 q4 (.lst [.int 2, .int 3084]) = G9 at *
  replace Ith := Ith.mono eq4
  replace It6 := It6.mono eq4
  refine ⟨.list ([2, 3084].map PyData.int), .list ([2, 3084].map PyData.int), .lst (SqL.of (eq4 _ _ gq3)) (dp_ints [2, 3084]), .lst (SqL.of gq4) (dp_ints [2, 3084]), (Shp.lst Shp.int _).shaped (by decide), (Shp.lst Shp.int _).shaped (by decide), _, rfl, ?_⟩
  rw [eqv_self (Shp.lst Shp.int _) (by decide)]
  refine iteF ?_
  refine ⟨_, rfl, th, [2, 3, 3], rfl, (by obtain ⟨_, z, q⟩ := Ith; cases z; exact q), lt3, fun R1 r1 sr1 hr1' => ?_⟩
  have Ir1 : IV K R1 (.ref r1) [0] := ⟨r1, rfl, hr1'⟩
  replace Ith := Ith.mono sr1
  refine ⟨_, rfl, th, [2, 3, 3], rfl, (by obtain ⟨_, z, q⟩ := Ith; cases z; exact q), lt3, fun R2 r2 sr2 hr2' => ?_⟩
  have Ir2 : IV K R2 (.ref r2) [1, 2] := ⟨r2, rfl, hr2'⟩
  replace Ith := Ith.mono sr2
  replace Ir1 := Ir1.mono sr2
  refine ⟨(by show 2 ≤ sizeLine; decide), fun t7 ht7 => ?_⟩
  have et7 := Same.new (o := .tup [.int 3, .int 5]) ht7
  have gt7 : upd R2 t7 (.tup [.int 3, .int 5]) t7 = some (.tup [.int 3, .int 5]) := upd_same
  generalize upd R2 t7 (.tup [.int 3, .int 5]) = G10 at *
  replace Ith := Ith.mono et7
  replace Ir1 := Ir1.mono et7
  replace Ir2 := Ir2.mono et7
  have It7 : IV K G10 (.ref t7) [3, 5] := ⟨t7, rfl, SqT.of gt7⟩
  refine ⟨t7, [3, 5], rfl, (by obtain ⟨_, z, q⟩ := It7; cases z; exact q), lt5, by decide, fun R3 r3 sr3 hr3' => ?_⟩
  have Ir3 : IV K R3 (.ref r3) [1, 1] := ⟨r3, rfl, hr3'⟩
  replace Ith := Ith.mono sr3
  replace Ir1 := Ir1.mono sr3
  replace Ir2 := Ir2.mono sr3
  replace It7 := It7.mono sr3
  refine ⟨(by show 0 ≤ sizeLine; decide), fun t8 ht8 => ?_⟩
  have et8 := Same.new (o := .tup []) ht8
  have gt8 : upd R3 t8 (.tup []) t8 = some (.tup []) := upd_same
  generalize upd R3 t8 (.tup []) = G11 at *
  replace Ith := Ith.mono et8
  replace Ir1 := Ir1.mono et8
  replace Ir2 := Ir2.mono et8
  replace It7 := It7.mono et8
  replace Ir3 := Ir3.mono et8
  have It8 : IV K G11 (.ref t8) [] := ⟨t8, rfl, SqT.of gt8⟩
  refine ⟨t8, [], rfl, (by obtain ⟨_, z, q⟩ := It8; cases z; exact q), lt0, by decide, fun R4 r4 sr4 hr4' => ?_⟩
  have Ir4 : IV K R4 (.ref r4) [] := ⟨r4, rfl, hr4'⟩
  replace Ith := Ith.mono sr4
  replace Ir1 := Ir1.mono sr4
  replace Ir2 := Ir2.mono sr4
  replace It7 := It7.mono sr4
  replace Ir3 := Ir3.mono sr4
  replace It8 := It8.mono sr4
  refine ⟨(by show 2 ≤ sizeLine; decide), fun t9 ht9 => ?_⟩
  have et9 := Same.new (o := .tup [.int 2, .int 3]) ht9
  have gt9 : upd R4 t9 (.tup [.int 2, .int 3]) t9 = some (.tup [.int 2, .int 3]) := upd_same
  generalize upd R4 t9 (.tup [.int 2, .int 3]) = G12 at *
  replace Ith := Ith.mono et9
  replace Ir1 := Ir1.mono et9
  replace Ir2 := Ir2.mono et9
  replace It7 := It7.mono et9
  replace Ir3 := Ir3.mono et9
  replace It8 := It8.mono et9
  replace Ir4 := Ir4.mono et9
  have It9 : IV K G12 (.ref t9) [2, 3] := ⟨t9, rfl, SqT.of gt9⟩
  refine ⟨t9, [2, 3], 5, rfl, (by obtain ⟨_, z, q⟩ := It9; cases z; exact q), lt2, by decide, by rw [w9]; decide, fun R5 ys5 sr5 tv5 => ?_⟩
  rw [w9] at tv5
  replace Ith := Ith.mono sr5
  replace Ir1 := Ir1.mono sr5
  replace Ir2 := Ir2.mono sr5
  replace It7 := It7.mono sr5
  replace Ir3 := Ir3.mono sr5
  replace It8 := It8.mono sr5
  replace Ir4 := Ir4.mono sr5
  replace It9 := It9.mono sr5
  refine fun pt hpt => ?_
  have ept := Same.new (o := .lst ys5) hpt
  have gpt : upd R5 pt (.lst ys5) pt = some (.lst ys5) := upd_same
  replace tv5 := tv_mono tv5 ept
  generalize upd R5 pt (.lst ys5) = G13 at *
  replace Ith := Ith.mono ept
  replace Ir1 := Ir1.mono ept
  replace Ir2 := Ir2.mono ept
  replace It7 := It7.mono ept
  replace Ir3 := Ir3.mono ept
  replace It8 := It8.mono ept
  replace Ir4 := Ir4.mono ept
  replace It9 := It9.mono ept
  refine ⟨(by show 1 ≤ sizeLine; decide), fun u9 hu9 => ?_⟩
  have eu9 := Same.new (o := .tup [.int 1]) hu9
  have gu9 : upd G13 u9 (.tup [.int 1]) u9 = some (.tup [.int 1]) := upd_same
  generalize upd G13 u9 (.tup [.int 1]) = G14 at *
  replace Ith := Ith.mono eu9
  replace Ir1 := Ir1.mono eu9
  replace Ir2 := Ir2.mono eu9
  replace It7 := It7.mono eu9
  replace Ir3 := Ir3.mono eu9
  replace It8 := It8.mono eu9
  replace Ir4 := Ir4.mono eu9
  replace It9 := It9.mono eu9
  have Iu9 : IV K G14 (.ref u9) [1] := ⟨u9, rfl, SqT.of gu9⟩
  refine ⟨u9, 24, [.int 1], rfl, rfl, (by obtain ⟨_, z, q⟩ := Iu9; cases z; exact q), (by intro z; cases z), by decide, by decide, by decide, fun e1 => absurd e1 (by decide), fun _ m9 hm9 => ?_⟩
  have sm9 := Same.new (o := .tup (List.replicate (24 : Int).toNat [V.int 1]).flatten) hm9
  have gm9 : upd G14 m9 (.tup (List.replicate (24 : Int).toNat [V.int 1]).flatten) m9 = some (.tup (iV (List.replicate 24 1))) := upd_same
  generalize upd G14 m9 (.tup (List.replicate (24 : Int).toNat [V.int 1]).flatten) = G14b at *
  have Im9 : IV K G14b (.ref m9) (List.replicate 24 1) := ⟨m9, rfl, SqT.of gm9⟩
  replace Ith := Ith.mono sm9
  replace Ir1 := Ir1.mono sm9
  replace Ir2 := Ir2.mono sm9
  replace It7 := It7.mono sm9
  replace Ir3 := Ir3.mono sm9
  replace It8 := It8.mono sm9
  replace Ir4 := Ir4.mono sm9
  replace It9 := It9.mono sm9
  replace Iu9 := Iu9.mono sm9
  refine ⟨m9, List.replicate 24 1, 2, rfl, (by obtain ⟨_, z, q⟩ := Im9; cases z; exact q), ltC, by decide, by rw [← wds_len _ _ ltC.pos, w8]; decide, fun R6 r6 y6 sr6 hr6' v6 => ?_⟩
  have l6 : y6.length = 276 := by rw [tv_len v6, w8]
  refine ⟨r6, y6, rfl, .inr hr6', ?_⟩
  rw [l6]
  replace Ith := Ith.mono sr6
  replace Ir1 := Ir1.mono sr6
  replace Ir2 := Ir2.mono sr6
  replace It7 := It7.mono sr6
  replace Ir3 := Ir3.mono sr6
  replace It8 := It8.mono sr6
  replace Ir4 := Ir4.mono sr6
  replace It9 := It9.mono sr6
  replace Iu9 := Iu9.mono sr6
  replace Im9 := Im9.mono sr6
  refine ⟨(by show 6 ≤ sizeLine; decide), fun q5 hq5 => ?_⟩
  have eq5 := Same.new (o := .lst [.ref r1, .ref r2, .ref r3, .ref r4, .ref pt, .int ((276 : Nat) : Int)]) hq5
  have gq5 : upd R6 q5 (.lst [.ref r1, .ref r2, .ref r3, .ref r4, .ref pt, .int ((276 : Nat) : Int)]) q5 = some (.lst [.ref r1, .ref r2, .ref r3, .ref r4, .ref pt, .int ((276 : Nat) : Int)]) := upd_same
  generalize upd R6 q5 (.lst [.ref r1, .ref r2, .ref r3, .ref r4, .ref pt, .int ((276 : Nat) : Int)]) = G15 at *
  replace Ir1 := Ir1.mono eq5
  replace Ir2 := Ir2.mono eq5
  replace Ir3 := Ir3.mono eq5
  replace Ir4 := Ir4.mono eq5
  refine ⟨_, rfl, ?_⟩
  refine ⟨(by show 1 ≤ sizeLine; decide), fun d1 hd1 => ?_⟩
  have ed1 := Same.new (o := .tup [.int 0]) hd1
  have gd1 : upd G15 d1 (.tup [.int 0]) d1 = some (.tup [.int 0]) := upd_same
  generalize upd G15 d1 (.tup [.int 0]) = S1 at *
  replace Ir1 := Ir1.mono ed1
  replace Ir2 := Ir2.mono ed1
  replace Ir3 := Ir3.mono ed1
  replace Ir4 := Ir4.mono ed1
  have Id1 : IV K S1 (.ref d1) [0] := ⟨d1, rfl, SqT.of gd1⟩
  refine ⟨(by show 2 ≤ sizeLine; decide), fun d2 hd2 => ?_⟩
  have ed2 := Same.new (o := .tup [.int 1, .int 2]) hd2
  have gd2 : upd S1 d2 (.tup [.int 1, .int 2]) d2 = some (.tup [.int 1, .int 2]) := upd_same
  generalize upd S1 d2 (.tup [.int 1, .int 2]) = S2 at *
  replace Ir1 := Ir1.mono ed2
  replace Ir2 := Ir2.mono ed2
  replace Ir3 := Ir3.mono ed2
  replace Ir4 := Ir4.mono ed2
  replace Id1 := Id1.mono ed2
  have Id2 : IV K S2 (.ref d2) [1, 2] := ⟨d2, rfl, SqT.of gd2⟩
  refine ⟨(by show 2 ≤ sizeLine; decide), fun d3 hd3 => ?_⟩
  have ed3 := Same.new (o := .tup [.int 1, .int 1]) hd3
  have gd3 : upd S2 d3 (.tup [.int 1, .int 1]) d3 = some (.tup [.int 1, .int 1]) := upd_same
  generalize upd S2 d3 (.tup [.int 1, .int 1]) = S3 at *
  replace Ir1 := Ir1.mono ed3
  replace Ir2 := Ir2.mono ed3
  replace Ir3 := Ir3.mono ed3
  replace Ir4 := Ir4.mono ed3
  replace Id1 := Id1.mono ed3
  replace Id2 := Id2.mono ed3
  have Id3 : IV K S3 (.ref d3) [1, 1] := ⟨d3, rfl, SqT.of gd3⟩
  refine ⟨(by show 0 ≤ sizeLine; decide), fun d4 hd4 => ?_⟩
  have ed4 := Same.new (o := .tup []) hd4
  have gd4 : upd S3 d4 (.tup []) d4 = some (.tup []) := upd_same
  generalize upd S3 d4 (.tup []) = S4 at *
  replace Ir1 := Ir1.mono ed4
  replace Ir2 := Ir2.mono ed4
  replace Ir3 := Ir3.mono ed4
  replace Ir4 := Ir4.mono ed4
  replace Id1 := Id1.mono ed4
  replace Id2 := Id2.mono ed4
  replace Id3 := Id3.mono ed4
  have Id4 : IV K S4 (.ref d4) [] := ⟨d4, rfl, SqT.of gd4⟩
  refine ⟨(by show 2 ≤ sizeLine; decide), fun d5 hd5 => ?_⟩
  have ed5 := Same.new (o := .tup [.int 0, .int 0]) hd5
  have gd5 : upd S4 d5 (.tup [.int 0, .int 0]) d5 = some (.tup [.int 0, .int 0]) := upd_same
  generalize upd S4 d5 (.tup [.int 0, .int 0]) = S5 at *
  replace Ir1 := Ir1.mono ed5
  replace Ir2 := Ir2.mono ed5
  replace Ir3 := Ir3.mono ed5
  replace Ir4 := Ir4.mono ed5
  replace Id1 := Id1.mono ed5
  replace Id2 := Id2.mono ed5
  replace Id3 := Id3.mono ed5
  replace Id4 := Id4.mono ed5
  have Id5 : IV K S5 (.ref d5) [0, 0] := ⟨d5, rfl, SqT.of gd5⟩
  refine ⟨(by show 2 ≤ sizeLine; decide), fun d6 hd6 => ?_⟩
  have ed6 := Same.new (o := .tup [.int 1, .int 0]) hd6
  have gd6 : upd S5 d6 (.tup [.int 1, .int 0]) d6 = some (.tup [.int 1, .int 0]) := upd_same
  generalize upd S5 d6 (.tup [.int 1, .int 0]) = S6 at *
  replace Ir1 := Ir1.mono ed6
  replace Ir2 := Ir2.mono ed6
  replace Ir3 := Ir3.mono ed6
  replace Ir4 := Ir4.mono ed6
  replace Id1 := Id1.mono ed6
  replace Id2 := Id2.mono ed6
  replace Id3 := Id3.mono ed6
  replace Id4 := Id4.mono ed6
  replace Id5 := Id5.mono ed6
  have Id6 : IV K S6 (.ref d6) [1, 0] := ⟨d6, rfl, SqT.of gd6⟩
  refine ⟨(by show 2 ≤ sizeLine; decide), fun d7 hd7 => ?_⟩
  have ed7 := Same.new (o := .tup [.int 0, .int 1]) hd7
  have gd7 : upd S6 d7 (.tup [.int 0, .int 1]) d7 = some (.tup [.int 0, .int 1]) := upd_same
  generalize upd S6 d7 (.tup [.int 0, .int 1]) = S7 at *
  replace Ir1 := Ir1.mono ed7
  replace Ir2 := Ir2.mono ed7
  replace Ir3 := Ir3.mono ed7
  replace Ir4 := Ir4.mono ed7
  replace Id1 := Id1.mono ed7
  replace Id2 := Id2.mono ed7
  replace Id3 := Id3.mono ed7
  replace Id4 := Id4.mono ed7
  replace Id5 := Id5.mono ed7
  replace Id6 := Id6.mono ed7
  have Id7 : IV K S7 (.ref d7) [0, 1] := ⟨d7, rfl, SqT.of gd7⟩
  refine ⟨(by show 2 ≤ sizeLine; decide), fun d8 hd8 => ?_⟩
  have ed8 := Same.new (o := .tup [.int 2, .int 0]) hd8
  have gd8 : upd S7 d8 (.tup [.int 2, .int 0]) d8 = some (.tup [.int 2, .int 0]) := upd_same
  generalize upd S7 d8 (.tup [.int 2, .int 0]) = S8 at *
  replace Ir1 := Ir1.mono ed8
  replace Ir2 := Ir2.mono ed8
  replace Ir3 := Ir3.mono ed8
  replace Ir4 := Ir4.mono ed8
  replace Id1 := Id1.mono ed8
  replace Id2 := Id2.mono ed8
  replace Id3 := Id3.mono ed8
  replace Id4 := Id4.mono ed8
  replace Id5 := Id5.mono ed8
  replace Id6 := Id6.mono ed8
  replace Id7 := Id7.mono ed8
  have Id8 : IV K S8 (.ref d8) [2, 0] := ⟨d8, rfl, SqT.of gd8⟩
  refine ⟨(by show 2 ≤ sizeLine; decide), fun d9 hd9 => ?_⟩
  have ed9 := Same.new (o := .tup [.int 1, .int 1]) hd9
  have gd9 : upd S8 d9 (.tup [.int 1, .int 1]) d9 = some (.tup [.int 1, .int 1]) := upd_same
  generalize upd S8 d9 (.tup [.int 1, .int 1]) = S9 at *
  replace Ir1 := Ir1.mono ed9
  replace Ir2 := Ir2.mono ed9
  replace Ir3 := Ir3.mono ed9
  replace Ir4 := Ir4.mono ed9
  replace Id1 := Id1.mono ed9
  replace Id2 := Id2.mono ed9
  replace Id3 := Id3.mono ed9
  replace Id4 := Id4.mono ed9
  replace Id5 := Id5.mono ed9
  replace Id6 := Id6.mono ed9
  replace Id7 := Id7.mono ed9
  replace Id8 := Id8.mono ed9
  have Id9 : IV K S9 (.ref d9) [1, 1] := ⟨d9, rfl, SqT.of gd9⟩
  refine ⟨(by show 5 ≤ sizeLine; decide), fun q6 hq6 => ?_⟩
  have eq6 := Same.new (o := .lst [.ref d5, .ref d6, .ref d7, .ref d8, .ref d9]) hq6
  have gq6 : upd S9 q6 (.lst [.ref d5, .ref d6, .ref d7, .ref d8, .ref d9]) q6 = some (.lst [.ref d5, .ref d6, .ref d7, .ref d8, .ref d9]) := upd_same
  generalize upd S9 q6 (.lst [.ref d5, .ref d6, .ref d7, .ref d8, .ref d9]) = S10 at *
  replace Ir1 := Ir1.mono eq6
  replace Ir2 := Ir2.mono eq6
  replace Ir3 := Ir3.mono eq6
  replace Ir4 := Ir4.mono eq6
  replace Id1 := Id1.mono eq6
  replace Id2 := Id2.mono eq6
  replace Id3 := Id3.mono eq6
  replace Id4 := Id4.mono eq6
  replace Id5 := Id5.mono eq6
  replace Id6 := Id6.mono eq6
  replace Id7 := Id7.mono eq6
  replace Id8 := Id8.mono eq6
  replace Id9 := Id9.mono eq6
  refine ⟨(by show 6 ≤ sizeLine; decide), fun q7 hq7 => ?_⟩
  have eq7 := Same.new (o := .lst [.ref d1, .ref d2, .ref d3, .ref d4, .ref q6, .int 276]) hq7
  have gq7 : upd S10 q7 (.lst [.ref d1, .ref d2, .ref d3, .ref d4, .ref q6, .int 276]) q7 = some (.lst [.ref d1, .ref d2, .ref d3, .ref d4, .ref q6, .int 276]) := upd_same
  generalize upd S10 q7 (.lst [.ref d1, .ref d2, .ref d3, .ref d4, .ref q6, .int 276]) = S11 at *
  replace Ir1 := Ir1.mono eq7
  replace Ir2 := Ir2.mono eq7
  replace Ir3 := Ir3.mono eq7
  replace Ir4 := Ir4.mono eq7
  replace Id1 := Id1.mono eq7
  replace Id2 := Id2.mono eq7
  replace Id3 := Id3.mono eq7
  replace Id4 := Id4.mono eq7
  replace Id5 := Id5.mono eq7
  replace Id6 := Id6.mono eq7
  replace Id7 := Id7.mono eq7
  replace Id8 := Id8.mono eq7
  replace Id9 := Id9.mono eq7
  have sA : Same G15 S11 := ed1.trans (ed2.trans (ed3.trans (ed4.trans (ed5.trans (ed6.trans (ed7.trans (ed8.trans (ed9.trans (eq6.trans eq7)))))))))
  have sB : Same G13 S11 := eu9.trans (sm9.trans (sr6.trans (eq5.trans sA)))
  have shL : Shp 3 (.list ([dI [0], dI [1, 2], dI [1, 1], dI [], .list ([[0, 0], [1, 0], [0, 1], [2, 0], [1, 1]].map dI), .int 276].map id)) := by
    refine ⟨?_, ?_⟩
    · decide +kernel
    · decide +kernel
  have dt2 : DpAll K S11 [.ref r1, .ref r2, .ref r3, .ref r4, .ref pt, .int ((276 : Nat) : Int)] ([dI [0], dI [1, 2], dI [1, 1], dI [], .list ([[0, 0], [1, 0], [0, 1], [2, 0], [1, 1]].map dI), .int 276].map id) := .cons Ir1.dp (.cons Ir2.dp (.cons Ir3.dp (.cons Ir4.dp (.cons (.lst (SqL.of (sB _ _ gpt)) (dp_tups (tv_mono tv5 sB))) (.cons (.int 276) .nil)))))
  have dc2 : DpAll K S11 [.ref d1, .ref d2, .ref d3, .ref d4, .ref q6, .int 276] ([dI [0], dI [1, 2], dI [1, 1], dI [], .list ([[0, 0], [1, 0], [0, 1], [2, 0], [1, 1]].map dI), .int 276].map id) := .cons Id1.dp (.cons Id2.dp (.cons Id3.dp (.cons Id4.dp (.cons (.lst (SqL.of (eq7 _ _ gq6)) (.cons Id5.dp (.cons Id6.dp (.cons Id7.dp (.cons Id8.dp (.cons Id9.dp .nil)))))) (.cons (.int 276) .nil)))))
  refine ⟨.list _, .list _, .lst (SqL.of (sA _ _ gq5)) dt2, .lst (SqL.of gq7) dc2, shL.shaped (by decide), shL.shaped (by decide), ?_⟩
  rw [eqv_self shL (by decide)]
  exact k _
end
end K5
namespace K5
open PySem PySem.Spec PyProof.Rows L2
/-! ### the facts of the written part -/
structure Has (K : PySem.W.Frag) (x : Str) (st : Stmt) (f : Addr) : Prop where
  at' : PySem.W.nsIn K mainGlobals x = some (some (.ref f))
  kp : PySem.W.keepIn K (.ref f) = true
  look : ∃ (oc : Value) (od : Option Addr) (kV doc pm : Value) (an : Option Addr) (cdv ct : Value) (osl : Array (Option Value)),
    K.lookup f = some ⟨oc, od, .func (PySem.W.fnOf x x (defArgs st) (defBody st) (defScope st) .none kV doc pm an cdv ct), osl⟩ ∧ PySem.W.codeIn K cdv x = true
theorem has_of {K : PySem.W.Frag} {x : Str} {st : Stmt} {f : Addr} {oc kV doc pm cdv ct : Value} {od an : Option Addr} {osl : Array (Option Value)} (a : PySem.W.nsIn K mainGlobals x = some (some (.ref f)))
    (l : K.lookup f = some ⟨oc, od, .func (PySem.W.fnOf x x (defArgs st) (defBody st) (defScope st) .none kV doc pm an cdv ct), osl⟩) (c : PySem.W.codeIn K cdv x = true) (k : PySem.W.keepIn K (.ref f) = true) : Has K x st f :=
  ⟨a, k, oc, od, kV, doc, pm, an, cdv, ct, osl, l, c⟩
theorem Has.fn {K : PySem.W.Frag} {x : Str} {st : Stmt} {f : Addr} (F : Has K x st f) : ∃ fd, Fun K x x st f fd := by
  obtain ⟨oc, od, kV, doc, pm, an, cdv, ct, osl, l, c⟩ := F.look
  exact ⟨_, fun_mk (st := st) l c F.kp⟩
theorem all_mk {l : PySem.W.OpenLaw} {w : World} {K : PySem.W.Frag} {h : Heap} {mg : Str → Option Value} {fa : Addr} (X : K.In h) (G : h.Ns mainGlobals mg) (hfa : mg "law" = some (.ref fa))
    {fWh fII fBe fCB fIL fCL fWO fWC fEL fOL fTW fEW fOI fCW fLW fSC fFW fNW fCT fLE fLR fDi fRo fPi fRe fLw fLl fSe fLi fCo f2 : Addr} {oc2 kV2 dc2 pm2 cd2 ct2 : Value} {od2 an2 : Option Addr} {sl2 : Array (Option Value)}
    (z_int : PySem.W.nsIn K mainGlobals "int" = some none)
    (z_bool : PySem.W.nsIn K mainGlobals "bool" = some none)
    (z_tuple : PySem.W.nsIn K mainGlobals "tuple" = some none)
    (z_list : PySem.W.nsIn K mainGlobals "list" = some none)
    (z_isinstance : PySem.W.nsIn K mainGlobals "isinstance" = some none)
    (z_len : PySem.W.nsIn K mainGlobals "len" = some none)
    (z_abs : PySem.W.nsIn K mainGlobals "abs" = some none)
    (z_max : PySem.W.nsIn K mainGlobals "max" = some none)
    (z_min : PySem.W.nsIn K mainGlobals "min" = some none)
    (z_range : PySem.W.nsIn K mainGlobals "range" = some none)
    (z_sum : PySem.W.nsIn K mainGlobals "sum" = some none)
    (z_all : PySem.W.nsIn K mainGlobals "all" = some none)
    (z_enumerate : PySem.W.nsIn K mainGlobals "enumerate" = some none)
    (z_reversed : PySem.W.nsIn K mainGlobals "reversed" = some none)
    (y_0 : ∃ t, mg "_LIMIT" = some (.int (10 ^ 60) t))
    (y_1 : ∃ t, mg "MAX_LETTERS" = some (.int (24) t))
    (y_2 : ∃ t, mg "MAX_LETTER" = some (.int (40) t))
    (y_3 : ∃ t, mg "MAX_DEGREE" = some (.int (80) t))
    (y_4 : ∃ t, mg "MAX_WORDS" = some (.int (400) t))
    (hWh : Has K "is_whole" sIsWhole fWh)
    (hII : Has K "is_integer" sIsInt fII)
    (hBe : Has K "is_between" sBetween fBe)
    (hCB : Has K "check_between" sChkB fCB)
    (hIL : Has K "is_letters" sIsLetters fIL)
    (hCL : Has K "check_letters" sChkL fCL)
    (hWO : Has K "words_of" sWordsOf fWO)
    (hWC : Has K "word_count" sWordCount fWC)
    (hEL : Has K "even_letters" sEvenL fEL)
    (hOL : Has K "odd_letters" sOddL fOL)
    (hTW : Has K "top_word" sTopW fTW)
    (hEW : Has K "each_word" sEach fEW)
    (hOI : Has K "odd_indices" sOdds fOI)
    (hCW : Has K "count_words" sCount fCW)
    (hLW : Has K "listed_words" sListed fLW)
    (hSC : Has K "suffix_counts" sSuffix fSC)
    (hFW : Has K "first_word" sFirst fFW)
    (hNW : Has K "next_word" sNext fNW)
    (hCT : Has K "_counts_with" sCntW fCT)
    (hLE : Has K "_least_exponents" sLeast fLE)
    (hLR : Has K "_least_rise" sRise fLR)
    (hDi : Has K "_law_dice" sDice fDi)
    (hRo : Has K "_law_roll" sRoll fRo)
    (hPi : Has K "_law_pick" sPick fPi)
    (hRe : Has K "_law_reached" sReached fRe)
    (hLw : Has K "_law_words" sLWords fLw)
    (hLl : Has K "_law_wd_letters" sLLet fLl)
    (hSe : Has K "_law_by_series" sSeries fSe)
    (hLi : Has K "_law_lists_right" sLists fLi)
    (hCo : Has K "_law_counts_right" sCounts fCo)
    (a2 : PySem.W.nsIn K mainGlobals "law" = some (some (.ref f2))) (l2 : K.lookup f2 = some ⟨oc2, od2, .func (PySem.W.fnOf "law" "law" (defArgs sLaw) (defBody sLaw) (defScope sLaw) .none kV2 dc2 pm2 an2 cd2 ct2), sl2⟩) (c2 : PySem.W.codeIn K cd2 "law" = true) (k2 : PySem.W.keepIn K (.ref f2) = true) :
    ∃ fd : FuncData, (∀ (s : Shared) (v : Value), BindsTo s fd ⟨[v], []⟩ [("script", v)]) ∧ ∀ base : Heap, K.In base → base.Ns mainGlobals mg → FnOk l.prog w K mg base CX0 11 fa fd ["script"] (spLaw K) := by
  have e := hfa.symm.trans (PySem.W.mg_of X G a2)
  cases e
  have F2 := fun_mk (st := sLaw) l2 c2 k2
  have T : Txt K mg := ⟨PySem.W.mg_none_of X G z_int, PySem.W.mg_none_of X G z_bool, PySem.W.mg_none_of X G z_tuple, PySem.W.mg_none_of X G z_list, PySem.W.mg_none_of X G z_isinstance, PySem.W.mg_none_of X G z_len, PySem.W.mg_none_of X G z_abs, PySem.W.mg_none_of X G z_max, PySem.W.mg_none_of X G z_min, PySem.W.mg_none_of X G z_range, PySem.W.mg_none_of X G z_sum, PySem.W.mg_none_of X G z_all, PySem.W.mg_none_of X G z_enumerate, PySem.W.mg_none_of X G z_reversed, y_0, y_1, y_2, y_3, y_4⟩
  obtain ⟨dWh, FWh⟩ := hWh.fn
  have gWh := PySem.W.mg_of X G hWh.at'
  have kWh := hWh.kp
  have bWh := FWh.binds (ps := ["value"]) fun _ _ _ _ _ _ us hl => match us, hl with | [_], _ => rfl
  obtain ⟨dII, FII⟩ := hII.fn
  have gII := PySem.W.mg_of X G hII.at'
  have kII := hII.kp
  have bII := FII.binds (ps := ["value"]) fun _ _ _ _ _ _ us hl => match us, hl with | [_], _ => rfl
  obtain ⟨dBe, FBe⟩ := hBe.fn
  have gBe := PySem.W.mg_of X G hBe.at'
  have kBe := hBe.kp
  have bBe := FBe.binds (ps := ["value", "least", "most"]) fun _ _ _ _ _ _ us hl => match us, hl with | [_, _, _], _ => rfl
  obtain ⟨dCB, FCB⟩ := hCB.fn
  have gCB := PySem.W.mg_of X G hCB.at'
  have kCB := hCB.kp
  have bCB := FCB.binds (ps := ["value", "least", "most"]) fun _ _ _ _ _ _ us hl => match us, hl with | [_, _, _], _ => rfl
  obtain ⟨dIL, FIL⟩ := hIL.fn
  have gIL := PySem.W.mg_of X G hIL.at'
  have kIL := hIL.kp
  have bIL := FIL.binds (ps := ["value"]) fun _ _ _ _ _ _ us hl => match us, hl with | [_], _ => rfl
  obtain ⟨dCL, FCL⟩ := hCL.fn
  have gCL := PySem.W.mg_of X G hCL.at'
  have kCL := hCL.kp
  have bCL := FCL.binds (ps := ["letters"]) fun _ _ _ _ _ _ us hl => match us, hl with | [_], _ => rfl
  obtain ⟨dWO, FWO⟩ := hWO.fn
  have gWO := PySem.W.mg_of X G hWO.at'
  have kWO := hWO.kp
  have bWO := FWO.binds (ps := ["letters", "degree"]) fun _ _ _ _ _ _ us hl => match us, hl with | [_, _], _ => rfl
  obtain ⟨dWC, FWC⟩ := hWC.fn
  have gWC := PySem.W.mg_of X G hWC.at'
  have kWC := hWC.kp
  have bWC := FWC.binds (ps := ["letters", "degree"]) fun _ _ _ _ _ _ us hl => match us, hl with | [_, _], _ => rfl
  obtain ⟨dEL, FEL⟩ := hEL.fn
  have gEL := PySem.W.mg_of X G hEL.at'
  have kEL := hEL.kp
  have bEL := FEL.binds (ps := ["letters"]) fun _ _ _ _ _ _ us hl => match us, hl with | [_], _ => rfl
  obtain ⟨dOL, FOL⟩ := hOL.fn
  have gOL := PySem.W.mg_of X G hOL.at'
  have kOL := hOL.kp
  have bOL := FOL.binds (ps := ["letters"]) fun _ _ _ _ _ _ us hl => match us, hl with | [_], _ => rfl
  obtain ⟨dTW, FTW⟩ := hTW.fn
  have gTW := PySem.W.mg_of X G hTW.at'
  have kTW := hTW.kp
  have bTW := FTW.binds (ps := ["letters"]) fun _ _ _ _ _ _ us hl => match us, hl with | [_], _ => rfl
  obtain ⟨dEW, FEW⟩ := hEW.fn
  have gEW := PySem.W.mg_of X G hEW.at'
  have kEW := hEW.kp
  have bEW := FEW.binds (ps := ["letters", "most"]) fun _ _ _ _ _ _ us hl => match us, hl with | [_, _], _ => rfl
  obtain ⟨dOI, FOI⟩ := hOI.fn
  have gOI := PySem.W.mg_of X G hOI.at'
  have kOI := hOI.kp
  have bOI := FOI.binds (ps := ["letters"]) fun _ _ _ _ _ _ us hl => match us, hl with | [_], _ => rfl
  obtain ⟨dCW, FCW⟩ := hCW.fn
  have gCW := PySem.W.mg_of X G hCW.at'
  have kCW := hCW.kp
  have bCW := FCW.binds (ps := ["letters", "degree"]) fun _ _ _ _ _ _ us hl => match us, hl with | [_, _], _ => rfl
  obtain ⟨dLW, FLW⟩ := hLW.fn
  have gLW := PySem.W.mg_of X G hLW.at'
  have kLW := hLW.kp
  have bLW := FLW.binds (ps := ["letters", "degree"]) fun _ _ _ _ _ _ us hl => match us, hl with | [_, _], _ => rfl
  obtain ⟨dSC, FSC⟩ := hSC.fn
  have gSC := PySem.W.mg_of X G hSC.at'
  have kSC := hSC.kp
  have bSC := FSC.binds (ps := ["letters", "most"]) fun _ _ _ _ _ _ us hl => match us, hl with | [_, _], _ => rfl
  obtain ⟨dFW, FFW⟩ := hFW.fn
  have gFW := PySem.W.mg_of X G hFW.at'
  have kFW := hFW.kp
  have bFW := FFW.binds (ps := ["letters", "counts", "degree"]) fun _ _ _ _ _ _ us hl => match us, hl with | [_, _, _], _ => rfl
  obtain ⟨dNW, FNW⟩ := hNW.fn
  have gNW := PySem.W.mg_of X G hNW.at'
  have kNW := hNW.kp
  have bNW := FNW.binds (ps := ["letters", "counts", "word"]) fun _ _ _ _ _ _ us hl => match us, hl with | [_, _, _], _ => rfl
  obtain ⟨dCT, FCT⟩ := hCT.fn
  have gCT := PySem.W.mg_of X G hCT.at'
  have kCT := hCT.kp
  have bCT := FCT.binds (ps := ["row", "letter"]) fun _ _ _ _ _ _ us hl => match us, hl with | [_, _], _ => rfl
  obtain ⟨dLE, FLE⟩ := hLE.fn
  have gLE := PySem.W.mg_of X G hLE.at'
  have kLE := hLE.kp
  have bLE := FLE.binds (ps := ["letters", "counts", "start", "rest"]) fun _ _ _ _ _ _ us hl => match us, hl with | [_, _, _, _], _ => rfl
  obtain ⟨dLR, FLR⟩ := hLR.fn
  have gLR := PySem.W.mg_of X G hLR.at'
  have kLR := hLR.kp
  have bLR := FLR.binds (ps := ["letter", "counts", "exponent", "rest"]) fun _ _ _ _ _ _ us hl => match us, hl with | [_, _, _, _], _ => rfl
  obtain ⟨dDi, FDi⟩ := hDi.fn
  have gDi := PySem.W.mg_of X G hDi.at'
  have kDi := hDi.kp
  have bDi := FDi.binds (ps := ["script", "spot"]) fun _ _ _ _ _ _ us hl => match us, hl with | [_, _], _ => rfl
  obtain ⟨dRo, FRo⟩ := hRo.fn
  have gRo := PySem.W.mg_of X G hRo.at'
  have kRo := hRo.kp
  have bRo := FRo.binds (ps := ["dice", "total"]) fun _ _ _ _ _ _ us hl => match us, hl with | [_, _], _ => rfl
  obtain ⟨dPi, FPi⟩ := hPi.fn
  have gPi := PySem.W.mg_of X G hPi.at'
  have kPi := hPi.kp
  have bPi := FPi.binds (ps := ["dice", "items"]) fun _ _ _ _ _ _ us hl => match us, hl with | [_, _], _ => rfl
  obtain ⟨dRe, FRe⟩ := hRe.fn
  have gRe := PySem.W.mg_of X G hRe.at'
  have kRe := hRe.kp
  have bRe := FRe.binds (ps := ["letters", "degree"]) fun _ _ _ _ _ _ us hl => match us, hl with | [_, _], _ => rfl
  obtain ⟨dLw, FLw⟩ := hLw.fn
  have gLw := PySem.W.mg_of X G hLw.at'
  have kLw := hLw.kp
  have bLw := FLw.binds (ps := ["letters", "degree"]) fun _ _ _ _ _ _ us hl => match us, hl with | [_, _], _ => rfl
  obtain ⟨dLl, FLl⟩ := hLl.fn
  have gLl := PySem.W.mg_of X G hLl.at'
  have kLl := hLl.kp
  have bLl := FLl.binds (ps := ["dice", "size"]) fun _ _ _ _ _ _ us hl => match us, hl with | [_, _], _ => rfl
  obtain ⟨dSe, FSe⟩ := hSe.fn
  have gSe := PySem.W.mg_of X G hSe.at'
  have kSe := hSe.kp
  have bSe := FSe.binds (ps := ["letters", "most"]) fun _ _ _ _ _ _ us hl => match us, hl with | [_, _], _ => rfl
  obtain ⟨dLi, FLi⟩ := hLi.fn
  have gLi := PySem.W.mg_of X G hLi.at'
  have kLi := hLi.kp
  have bLi := FLi.binds (ps := ["dice"]) fun _ _ _ _ _ _ us hl => match us, hl with | [_], _ => rfl
  obtain ⟨dCo, FCo⟩ := hCo.fn
  have gCo := PySem.W.mg_of X G hCo.at'
  have kCo := hCo.kp
  have bCo := FCo.binds (ps := ["dice"]) fun _ _ _ _ _ _ us hl => match us, hl with | [_], _ => rfl
  refine ⟨PySem.W.fnOf "law" "law" (defArgs sLaw) (defBody sLaw) (defScope sLaw) .none kV2 dc2 pm2 an2 cd2 ct2, fun s v => .of_eq rfl, fun base _ _ => ?_⟩
  have qWh := ok_iswhole (P := l.prog) (w := w) (base := base) FWh T 
  have qII := ok_isint FII T gWh kWh bWh qWh
  have qBe := ok_betw FBe gII kII bII qII
  have qCB := ok_chkb FCB gBe kBe bBe qBe
  have qIL := ok_isletters FIL T gBe kBe bBe qBe
  have qCL := ok_chkl FCL gIL kIL bIL qIL
  have qOI := ok_odds (P := l.prog) (w := w) (base := base) FOI T 
  have qEL := ok_evenl FEL T gCL kCL bCL qCL
  have qOL := ok_oddl FOL gCL kCL bCL qCL gOI kOI bOI qOI
  have qTW := ok_topw FTW T gCL kCL bCL qCL gOI kOI bOI qOI
  have qCT := ok_cntw (P := l.prog) (w := w) (base := base) FCT T 
  have qSC := ok_suf FSC T gCT kCT bCT qCT
  have qLE := ok_least (P := l.prog) (w := w) (base := base) FLE T 
  have qFW := ok_first FFW T gLE kLE bLE qLE
  have qLR := ok_rise (P := l.prog) (w := w) (base := base) FLR T 
  have qNW := ok_next FNW T gLR kLR bLR qLR gLE kLE bLE qLE
  have qCW := ok_count FCW gSC kSC bSC qSC
  have qLW := ok_listed FLW gSC kSC bSC qSC gFW kFW bFW qFW gNW kNW bNW qNW
  have qWC := ok_wcount FWC T gCL kCL bCL qCL gCB kCB bCB qCB gCW kCW bCW qCW
  have qWO := ok_words FWO T gCL kCL bCL qCL gCB kCB bCB qCB gCW kCW bCW qCW gLW kLW bLW qLW
  have qEW := ok_each FEW T gCL kCL bCL qCL gCB kCB bCB qCB gSC kSC bSC qSC gFW kFW bFW qFW gNW kNW bNW qNW
  have qRo := ok_roll (P := l.prog) (w := w) (base := base) FRo T 
  have qDi := ok_dice (P := l.prog) (w := w) (base := base) FDi T 
  have qPi := ok_pick FPi T gRo kRo bRo qRo
  have qLl := ok_lets FLl T gPi kPi bPi qPi gRo kRo bRo qRo
  have qRe := ok_reach (P := l.prog) (w := w) (base := base) FRe T 
  have qLw := ok_lwords FLw T gRe kRe bRe qRe
  have qSe := ok_series (P := l.prog) (w := w) (base := base) FSe T 
  have qLi := ok_lists FLi T gLl kLl bLl qLl gRo kRo bRo qRo gPi kPi bPi qPi gSe kSe bSe qSe gLw kLw bLw qLw gWO kWO bWO qWO gWC kWC bWC qWC gEW kEW bEW qEW
  have qCo := ok_counts FCo T gLl kLl bLl qLl gRo kRo bRo qRo gSe kSe bSe qSe gWO kWO bWO qWO gWC kWC bWC qWC gEL kEL bEL qEL gOL kOL bOL qOL gTW kTW bTW qTW
  exact ok_law F2 T gDi kDi bDi qDi gLi kLi bLi qLi gCo kCo bCo qCo gWO kWO bWO qWO gWC kWC bWC qWC gEL kEL bEL qEL gOL kOL bOL qOL gTW kTW bTW qTW gEW kEW bEW qEW
end K5
open PySem PySem.W PyProof.Rows
set_option maxRecDepth 100000 in
set_option maxHeartbeats 0 in
theorem PySem.Challenge.cw_stepletters_k04_whole_words_listed_and_c_holds : PySem.Challenge.rw_stepletters_k04_whole_words_listed_and_c.Holds := by
  w_on; o_law; k_head; (case hw => w_witness2)
  k_fill
  refine L2.walk_of (l := PySem.Challenge.rw_stepletters_k04_whole_words_listed_and_c) (n := 63) (k := 11) (x := "script") (CX := fun _ => L2.CX0) (sp := fun w => K5.spLaw _) rfl (by decide) rfl ⟨rfl, by decide, by decide⟩ (fun w h Y => PySem.W.kIn_of Y) ?F (fun _ _ a ns hl _ hS => ⟨a, ns, rfl, hS, by omega, fun _ => rfl⟩) (fun _ _ _ _ _ h => h)
  case F =>
    intro w mg fa h KX G hmg
    refine' K5.all_mk KX G hmg ?z_int ?z_bool ?z_tuple ?z_list ?z_isinstance ?z_len ?z_abs ?z_max ?z_min ?z_range ?z_sum ?z_all ?z_enumerate ?z_reversed ?y_0 ?y_1 ?y_2 ?y_3 ?y_4 ?hWh ?hII ?hBe ?hCB ?hIL ?hCL ?hWO ?hWC ?hEL ?hOL ?hTW ?hEW ?hOI ?hCW ?hLW ?hSC ?hFW ?hNW ?hCT ?hLE ?hLR ?hDi ?hRo ?hPi ?hRe ?hLw ?hLl ?hSe ?hLi ?hCo ?a2 ?l2 ?c2 ?k2
    (case z_int => k_is)
    (case z_bool => k_is)
    (case z_tuple => k_is)
    (case z_list => k_is)
    (case z_isinstance => k_is)
    (case z_len => k_is)
    (case z_abs => k_is)
    (case z_max => k_is)
    (case z_min => k_is)
    (case z_range => k_is)
    (case z_sum => k_is)
    (case z_all => k_is)
    (case z_enumerate => k_is)
    (case z_reversed => k_is)
    (case y_0 => exact ⟨_, PySem.W.mg_of KX G (by k_is)⟩)
    (case y_1 => exact ⟨_, PySem.W.mg_of KX G (by k_is)⟩)
    (case y_2 => exact ⟨_, PySem.W.mg_of KX G (by k_is)⟩)
    (case y_3 => exact ⟨_, PySem.W.mg_of KX G (by k_is)⟩)
    (case y_4 => exact ⟨_, PySem.W.mg_of KX G (by k_is)⟩)
    (case hWh => refine' K5.has_of ?a ?l ?c ?k; (case a => k_is); (case l => k_is); (case c => k_is); (case k => k_is))
    (case hII => refine' K5.has_of ?a ?l ?c ?k; (case a => k_is); (case l => k_is); (case c => k_is); (case k => k_is))
    (case hBe => refine' K5.has_of ?a ?l ?c ?k; (case a => k_is); (case l => k_is); (case c => k_is); (case k => k_is))
    (case hCB => refine' K5.has_of ?a ?l ?c ?k; (case a => k_is); (case l => k_is); (case c => k_is); (case k => k_is))
    (case hIL => refine' K5.has_of ?a ?l ?c ?k; (case a => k_is); (case l => k_is); (case c => k_is); (case k => k_is))
    (case hCL => refine' K5.has_of ?a ?l ?c ?k; (case a => k_is); (case l => k_is); (case c => k_is); (case k => k_is))
    (case hWO => refine' K5.has_of ?a ?l ?c ?k; (case a => k_is); (case l => k_is); (case c => k_is); (case k => k_is))
    (case hWC => refine' K5.has_of ?a ?l ?c ?k; (case a => k_is); (case l => k_is); (case c => k_is); (case k => k_is))
    (case hEL => refine' K5.has_of ?a ?l ?c ?k; (case a => k_is); (case l => k_is); (case c => k_is); (case k => k_is))
    (case hOL => refine' K5.has_of ?a ?l ?c ?k; (case a => k_is); (case l => k_is); (case c => k_is); (case k => k_is))
    (case hTW => refine' K5.has_of ?a ?l ?c ?k; (case a => k_is); (case l => k_is); (case c => k_is); (case k => k_is))
    (case hEW => refine' K5.has_of ?a ?l ?c ?k; (case a => k_is); (case l => k_is); (case c => k_is); (case k => k_is))
    (case hOI => refine' K5.has_of ?a ?l ?c ?k; (case a => k_is); (case l => k_is); (case c => k_is); (case k => k_is))
    (case hCW => refine' K5.has_of ?a ?l ?c ?k; (case a => k_is); (case l => k_is); (case c => k_is); (case k => k_is))
    (case hLW => refine' K5.has_of ?a ?l ?c ?k; (case a => k_is); (case l => k_is); (case c => k_is); (case k => k_is))
    (case hSC => refine' K5.has_of ?a ?l ?c ?k; (case a => k_is); (case l => k_is); (case c => k_is); (case k => k_is))
    (case hFW => refine' K5.has_of ?a ?l ?c ?k; (case a => k_is); (case l => k_is); (case c => k_is); (case k => k_is))
    (case hNW => refine' K5.has_of ?a ?l ?c ?k; (case a => k_is); (case l => k_is); (case c => k_is); (case k => k_is))
    (case hCT => refine' K5.has_of ?a ?l ?c ?k; (case a => k_is); (case l => k_is); (case c => k_is); (case k => k_is))
    (case hLE => refine' K5.has_of ?a ?l ?c ?k; (case a => k_is); (case l => k_is); (case c => k_is); (case k => k_is))
    (case hLR => refine' K5.has_of ?a ?l ?c ?k; (case a => k_is); (case l => k_is); (case c => k_is); (case k => k_is))
    (case hDi => refine' K5.has_of ?a ?l ?c ?k; (case a => k_is); (case l => k_is); (case c => k_is); (case k => k_is))
    (case hRo => refine' K5.has_of ?a ?l ?c ?k; (case a => k_is); (case l => k_is); (case c => k_is); (case k => k_is))
    (case hPi => refine' K5.has_of ?a ?l ?c ?k; (case a => k_is); (case l => k_is); (case c => k_is); (case k => k_is))
    (case hRe => refine' K5.has_of ?a ?l ?c ?k; (case a => k_is); (case l => k_is); (case c => k_is); (case k => k_is))
    (case hLw => refine' K5.has_of ?a ?l ?c ?k; (case a => k_is); (case l => k_is); (case c => k_is); (case k => k_is))
    (case hLl => refine' K5.has_of ?a ?l ?c ?k; (case a => k_is); (case l => k_is); (case c => k_is); (case k => k_is))
    (case hSe => refine' K5.has_of ?a ?l ?c ?k; (case a => k_is); (case l => k_is); (case c => k_is); (case k => k_is))
    (case hLi => refine' K5.has_of ?a ?l ?c ?k; (case a => k_is); (case l => k_is); (case c => k_is); (case k => k_is))
    (case hCo => refine' K5.has_of ?a ?l ?c ?k; (case a => k_is); (case l => k_is); (case c => k_is); (case k => k_is))
    (case a2 => k_is)
    (case l2 => k_is)
    (case c2 => k_is)
    (case k2 => k_is)
