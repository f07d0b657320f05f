import PyProof.Rows.All
import Wide.All
import OpenK.AllK
import Wide.FinOn
import PyProof.EqAt
import PyProof.EqKinds
import PyProof.TupleCall
import HandS.ForMost
import HandS.ForExc
import HandS.Wide
import HandS.Gcd
import HandS.FStr
import HandS.IsInst
import HandS.Lambda
import HandS.EndTab
import HandS.CallLocal
import HandS.CallSlots
import HandS.RaiseMore
import PySem.Challenge.RW_stepletters_k34_whole_lots_that_bar
import HandS.Zip
import HandS.NoneIn
import HandS.TupAny
import HandS.TupMul
import HandS.Walk
import HandS.Rev
import HandS.Style
import HandS.Steps
import HandS.SetFor
import HandS.TupLe
import KE.GoesMore
import KE.KTupSum
import HandS.SortOrd
import HandS.SortRule
import HandS.SortInts
import HandS.Deep
import HandS.Conv
set_option Elab.async false
set_option linter.all false
set_option maxRecDepth 100000
set_option maxHeartbeats 4000000
set_option exponentiation.threshold 5000
namespace K4
/-! ### lists of ints in the order of tuples -/
def ltL : List Int → List Int → Bool
  | [], [] => false
  | [], _ :: _ => true
  | _ :: _, [] => false
  | a :: l, b :: m => if a = b then ltL l m else decide (a < b)
theorem ltL_asym : ∀ x y : List Int, ltL x y = true → ltL y x = false
  | [], [], h => by cases h
  | [], _ :: _, _ => rfl
  | _ :: _, [], h => by cases h
  | a :: l, b :: m, h => by
    unfold ltL at h ⊢
    by_cases e : a = b
    · rw [if_pos e] at h
      rw [if_pos e.symm]
      exact ltL_asym l m h
    · rw [if_neg e, decide_eq_true_eq] at h
      rw [if_neg (fun q => e q.symm), decide_eq_false_iff_not]
      omega
theorem ltL_tr : ∀ x y z : List Int, ltL y x = false → ltL z y = false → ltL z x = false
  | [], [], [], _, _ => rfl
  | [], [], _ :: _, _, _ => rfl
  | [], _ :: _, _ :: _, _, _ => rfl
  | [], _ :: _, [], _, h => by cases h
  | _ :: _, [], _, h, _ => by cases h
  | _ :: _, _ :: _, [], _, h => by cases h
  | a :: x, b :: y, c :: z, h1, h2 => by
    unfold ltL at h1 h2 ⊢
    by_cases e : b = a
    · rw [if_pos e] at h1
      by_cases f : c = b
      · rw [if_pos f] at h2
        rw [if_pos (f.trans e)]
        exact ltL_tr x y z h1 h2
      · rw [if_neg f, decide_eq_false_iff_not] at h2
        rw [if_neg (fun q => f (q.trans e.symm)), decide_eq_false_iff_not]
        omega
    · rw [if_neg e, decide_eq_false_iff_not] at h1
      by_cases f : c = b
      · rw [if_neg (fun q => e (f.symm.trans q)), decide_eq_false_iff_not]
        omega
      · rw [if_neg f, decide_eq_false_iff_not] at h2
        rw [if_neg (by omega), decide_eq_false_iff_not]
        omega
theorem ltL_anti : ∀ x y : List Int, ltL x y = false → ltL y x = false → x = y
  | [], [], _, _ => rfl
  | [], _ :: _, h, _ => by cases h
  | _ :: _, [], _, h => by cases h
  | a :: x, b :: y, h1, h2 => by
    unfold ltL at h1 h2
    by_cases e : a = b
    · rw [if_pos e] at h1
      rw [if_pos e.symm] at h2
      rw [e, ltL_anti x y h1 h2]
    · rw [if_neg e, decide_eq_false_iff_not] at h1
      rw [if_neg (fun q => e q.symm), decide_eq_false_iff_not] at h2
      omega
abbrev SrL (l : List (List Int)) : Prop := l.Pairwise fun x y => ltL y x = false
theorem srl_uniq : ∀ {l m : List (List Int)}, SrL l → SrL m → l.Perm m → l = m
  | [], m, _, _, h => (List.Perm.eq_nil h.symm).symm
  | x :: l, [], _, _, h => absurd h.length_eq (by simp)
  | x :: l, y :: m, hl, hm, h => by
    have e : x = y := by
      rcases List.mem_cons.mp (h.mem_iff.mp (List.mem_cons_self (a := x) (l := l))) with q | q
      · exact q
      · rcases List.mem_cons.mp (h.mem_iff.mpr (List.mem_cons_self (a := y) (l := m))) with r | r
        · exact r.symm
        · exact ltL_anti x y ((List.pairwise_cons.mp hm).1 x q) ((List.pairwise_cons.mp hl).1 y r)
    subst e
    rw [srl_uniq (List.pairwise_cons.mp hl).2 (List.pairwise_cons.mp hm).2 h.cons_inv]
def ins (x : List Int) : List (List Int) → List (List Int)
  | [] => [x]
  | y :: l => if ltL y x = true then y :: ins x l else x :: y :: l
def srt (l : List (List Int)) : List (List Int) := l.foldr ins []
theorem ins_perm (x : List Int) : ∀ l, (ins x l).Perm (x :: l)
  | [] => List.Perm.refl _
  | y :: l => by
    unfold ins
    split
    · exact ((ins_perm x l).cons y).trans (List.Perm.swap x y l)
    · exact List.Perm.refl _
theorem srt_perm : ∀ l, (srt l).Perm l
  | [] => List.Perm.refl _
  | x :: l => (ins_perm x (srt l)).trans ((srt_perm l).cons x)
theorem ins_sr (x : List Int) : ∀ {l}, SrL l → SrL (ins x l)
  | [], _ => List.pairwise_singleton _ _
  | y :: l, h => by
    obtain ⟨h1, h2⟩ := List.pairwise_cons.mp h
    unfold ins
    split
    · rename_i c
      refine List.pairwise_cons.mpr ⟨fun z hz => ?_, ins_sr x h2⟩
      rcases List.mem_cons.mp ((ins_perm x l).mem_iff.mp hz) with e | e
      · rw [e]
        exact ltL_asym _ _ c
      · exact h1 z e
    · rename_i c
      have c' : ltL y x = false := by cases q : ltL y x <;> simp_all
      refine List.pairwise_cons.mpr ⟨fun z hz => ?_, h⟩
      rcases List.mem_cons.mp hz with e | e
      · rw [e]
        exact c'
      · exact ltL_tr x y z c' (h1 z e)
theorem srt_sr : ∀ l, SrL (srt l)
  | [] => List.Pairwise.nil
  | x :: l => ins_sr x (srt_sr l)
theorem srt_uniq {l m : List (List Int)} (h1 : SrL m) (h2 : m.Perm l) : m = srt l := srl_uniq h1 (srt_sr l) (h2.trans (srt_perm l).symm)
theorem srt_nil_cons (t : List (List Int)) : srt ([] :: t) = [] :: srt t := by
  show ins [] (srt t) = _
  cases srt t with
  | nil => rfl
  | cons y l =>
    unfold ins
    rw [if_neg]
    cases y <;> (intro h; cases h)
/-! ### ascending lists of indices -/
structure Asc (n : Int) (L : List Int) : Prop where
  up : L.Pairwise (· < ·)
  inn : ∀ i ∈ L, 0 ≤ i ∧ i < n
theorem asc_uniq : ∀ {L M : List Int}, L.Pairwise (· < ·) → M.Pairwise (· < ·) → (∀ i, i ∈ L ↔ i ∈ M) → L = M
  | [], [], _, _, _ => rfl
  | [], b :: M, _, _, h => absurd ((h b).mpr List.mem_cons_self) List.not_mem_nil
  | a :: L, [], _, _, h => absurd ((h a).mp List.mem_cons_self) List.not_mem_nil
  | a :: L, b :: M, hl, hm, h => by
    obtain ⟨l1, l2⟩ := List.pairwise_cons.mp hl
    obtain ⟨m1, m2⟩ := List.pairwise_cons.mp hm
    have e : a = b := by
      rcases List.mem_cons.mp ((h a).mp List.mem_cons_self) with q | q
      · exact q
      · rcases List.mem_cons.mp ((h b).mpr List.mem_cons_self) with r | r
        · exact r.symm
        · have := m1 a q
          have := l1 b r
          omega
    subst e
    rw [asc_uniq l2 m2 fun i => ⟨fun hi => ?_, fun hi => ?_⟩]
    · have := l1 i hi
      rcases List.mem_cons.mp ((h i).mp (List.mem_cons_of_mem _ hi)) with q | q
      · omega
      · exact q
    · have := m1 i hi
      rcases List.mem_cons.mp ((h i).mpr (List.mem_cons_of_mem _ hi)) with q | q
      · omega
      · exact q
def pow : Nat → List (List Int)
  | 0 => [[]]
  | n + 1 => pow n ++ (pow n).map (· ++ [(n : Int)])
theorem Asc.nil (n : Int) : Asc n [] := ⟨List.Pairwise.nil, fun _ h => absurd h List.not_mem_nil⟩
theorem Asc.more {n m : Int} {L : List Int} (h : Asc n L) (k : n ≤ m) : Asc m L := ⟨h.up, fun i hi => by have := h.inn i hi; omega⟩
theorem Asc.snoc {n : Nat} {L : List Int} (h : Asc n L) : Asc (n + 1 : Nat) (L ++ [(n : Int)]) := by
  refine ⟨List.pairwise_append.mpr ⟨h.up, List.pairwise_singleton _ _, fun a ha b hb => ?_⟩, fun i hi => ?_⟩
  · rw [List.mem_singleton.mp hb]
    exact (h.inn a ha).2
  · rcases List.mem_append.mp hi with q | q
    · have := h.inn i q
      omega
    · rw [List.mem_singleton.mp q]
      omega
theorem mem_pow : ∀ {n : Nat} {L : List Int}, L ∈ pow n ↔ Asc n L
  | 0, L => by
    refine ⟨fun h => ?_, fun h => ?_⟩
    · rw [List.mem_singleton.mp h]
      exact Asc.nil _
    · cases L with
      | nil => exact List.mem_cons_self
      | cons a L =>
        have := h.inn a List.mem_cons_self
        omega
  | n + 1, L => by
    show L ∈ pow n ++ (pow n).map (· ++ [(n : Int)]) ↔ _
    rw [List.mem_append, List.mem_map]
    refine ⟨fun h => ?_, fun h => ?_⟩
    · rcases h with h | ⟨M, h, rfl⟩
      · exact (mem_pow.mp h).more (by omega)
      · exact (mem_pow.mp h).snoc
    · by_cases c : ∃ M, L = M ++ [(n : Int)]
      · obtain ⟨M, rfl⟩ := c
        obtain ⟨u1, _, u3⟩ := List.pairwise_append.mp h.up
        refine .inr ⟨M, mem_pow.mpr ⟨u1, fun i hi => ?_⟩, rfl⟩
        have h1 := h.inn i (List.mem_append_left _ hi)
        have h2 : i < (n : Int) := u3 i hi (n : Int) List.mem_cons_self
        exact ⟨h1.1, h2⟩
      · refine .inl (mem_pow.mpr ⟨h.up, fun i hi => ?_⟩)
        have h1 := h.inn i hi
        refine ⟨h1.1, ?_⟩
        by_cases e : i = (n : Int)
        · exfalso
          subst e
          obtain ⟨A, B, rfl⟩ := List.append_of_mem hi
          cases B with
          | nil => exact c ⟨A, rfl⟩
          | cons b B =>
            have h2 := (List.pairwise_append.mp h.up).2.1
            have h3 : (n : Int) < b := (List.pairwise_cons.mp h2).1 b List.mem_cons_self
            have h4 := h.inn b (by simp)
            omega
        · omega
theorem pow_nodup : ∀ n, (pow n).Nodup
  | 0 => by
    show List.Pairwise _ [[]]
    exact List.pairwise_singleton _ _
  | n + 1 => by
    refine List.nodup_append.mpr ⟨pow_nodup n, ?_, fun x hx y hy e => ?_⟩
    · refine List.pairwise_map.mpr ((pow_nodup n).imp fun {a b} h q => h ?_)
      exact (List.append_inj q (by have := congrArg List.length q; simp at this; exact this)).1
    · obtain ⟨M, _, rfl⟩ := List.mem_map.mp hy
      have h1 := (mem_pow.mp hx).inn (n : Int) (by rw [e]; simp)
      omega
theorem pow_cons : ∀ n, pow n = [] :: (pow n).tail
  | 0 => rfl
  | n + 1 => by
    show pow n ++ _ = [] :: (pow n ++ _).tail
    rw [pow_cons n]
    rfl
theorem pow_len : ∀ n, (pow n).length = 2 ^ n
  | 0 => rfl
  | n + 1 => by
    show (pow n ++ _).length = _
    rw [List.length_append, List.length_map, pow_len n, Nat.pow_succ]
    omega
def lotsOf (n : Nat) : List (List Int) := srt (pow n).tail
theorem srt_pow (n : Nat) : srt (pow n) = [] :: lotsOf n := by
  rw [pow_cons n, srt_nil_cons]
  rfl
theorem mem_lots {n : Nat} {L : List Int} : L ∈ lotsOf n ↔ L ≠ [] ∧ Asc n L := by
  have nd := pow_nodup n
  have e := pow_cons n
  unfold lotsOf
  rw [(srt_perm _).mem_iff, ← mem_pow]
  refine ⟨fun h => ⟨fun q => ?_, ?_⟩, fun h => ?_⟩
  · rw [e] at nd
    subst q
    exact (List.nodup_cons.mp nd).1 h
  · rw [e]
    exact List.mem_cons_of_mem _ h
  · have h2 := h.2
    rw [e] at h2
    rcases List.mem_cons.mp h2 with q | q
    · exact absurd q h.1
    · exact q
theorem lots_nodup (n : Nat) : (lotsOf n).Nodup := by
  have nd := pow_nodup n
  rw [pow_cons n] at nd
  exact (srt_perm _).nodup_iff.mpr (List.nodup_cons.mp nd).2
theorem lots_sr (n : Nat) : SrL (lotsOf n) := srt_sr _
/-! ### sums of at least two -/
def stp (D : List Int) (t : List Bool) (k : Nat) : Bool := D.any fun d => decide (d < (k : Int)) && t.getD ((k : Int) - d).toNat false
def tab (D : List Int) : Nat → List Bool
  | 0 => []
  | n + 1 => tab D n ++ [D.contains (n : Int) || stp D (tab D n) n]
def made (D : List Int) (k : Nat) : Bool := stp D (tab D k) k
def rch (D : List Int) (k : Nat) : Bool := D.contains (k : Int) || made D k
theorem tab_len (D : List Int) : ∀ n, (tab D n).length = n
  | 0 => rfl
  | n + 1 => by
    show (tab D n ++ _).length = _
    rw [List.length_append, tab_len D n]
    rfl
theorem tab_get (D : List Int) : ∀ {n j : Nat}, j < n → (tab D n)[j]? = some (rch D j)
  | n + 1, j, h => by
    show (tab D n ++ _)[j]? = _
    by_cases c : j < n
    · rw [List.getElem?_append_left (by rw [tab_len]; exact c)]
      exact tab_get D c
    · have e : j = n := by omega
      subst e
      rw [List.getElem?_append_right (by rw [tab_len]; omega), tab_len, Nat.sub_self]
      rfl
theorem tab_getD (D : List Int) {n j : Nat} (h : j < n) : (tab D n).getD j false = rch D j := by
  rw [List.getD_eq_getElem?_getD, tab_get D h]
  rfl
theorem made_iff {D : List Int} {k : Nat} (h1 : ∀ d ∈ D, 1 ≤ d) : made D k = true ↔ ∃ d ∈ D, d < (k : Int) ∧ rch D ((k : Int) - d).toNat = true := by
  unfold made stp
  rw [List.any_eq_true]
  refine ⟨fun ⟨d, hd, h⟩ => ?_, fun ⟨d, hd, h2, h⟩ => ⟨d, hd, ?_⟩⟩
  · rw [Bool.and_eq_true, decide_eq_true_eq] at h
    have := h1 d hd
    rw [tab_getD D (by omega)] at h
    exact ⟨d, hd, h.1, h.2⟩
  · have := h1 d hd
    rw [Bool.and_eq_true, decide_eq_true_eq, tab_getD D (by omega)]
    exact ⟨h2, h⟩
theorem tab_mem {D D' : List Int} (h : ∀ d, d ∈ D ↔ d ∈ D') : ∀ n, tab D n = tab D' n
  | 0 => rfl
  | n + 1 => by
    have e1 : D.contains (n : Int) = D'.contains (n : Int) := by
      rw [Bool.eq_iff_iff, List.contains_iff_mem, List.contains_iff_mem]
      exact h _
    have e2 : stp D (tab D' n) n = stp D' (tab D' n) n := by
      unfold stp
      rw [Bool.eq_iff_iff, List.any_eq_true, List.any_eq_true]
      exact ⟨fun ⟨d, hd, q⟩ => ⟨d, (h d).mp hd, q⟩, fun ⟨d, hd, q⟩ => ⟨d, (h d).mpr hd, q⟩⟩
    show tab D n ++ _ = tab D' n ++ _
    rw [tab_mem h n, e1, e2]
theorem made_mem {D D' : List Int} (h : ∀ d, d ∈ D ↔ d ∈ D') (k : Nat) : made D k = made D' k := by
  unfold made
  rw [tab_mem h]
  unfold stp
  rw [Bool.eq_iff_iff, List.any_eq_true, List.any_eq_true]
  exact ⟨fun ⟨d, hd, q⟩ => ⟨d, (h d).mp hd, q⟩, fun ⟨d, hd, q⟩ => ⟨d, (h d).mpr hd, q⟩⟩
theorem rch_ge {D : List Int} {x : Int} (h1 : ∀ d ∈ D, 1 ≤ d) (hx : ∀ d ∈ D, x ≤ d) : ∀ (n k : Nat), k < n → rch D k = true → x ≤ k
  | n + 1, k, hk, h => by
    unfold rch at h
    rw [Bool.or_eq_true, List.contains_iff_mem, made_iff h1] at h
    rcases h with h | ⟨d, hd, h2, h3⟩
    · exact hx _ h
    · have a := h1 d hd
      have b := hx d hd
      have c := rch_ge h1 hx n _ (by omega) h3
      by_cases z : 0 ≤ x <;> omega
theorem made_ge {D : List Int} {x : Int} {k : Nat} (h1 : ∀ d ∈ D, 1 ≤ d) (hx : ∀ d ∈ D, x ≤ d) (h : made D k = true) : 2 * x ≤ k := by
  obtain ⟨d, hd, h2, h3⟩ := (made_iff h1).mp h
  have a := h1 d hd
  have b := hx d hd
  have c := rch_ge h1 hx _ _ (Nat.lt_succ_self _) h3
  omega
theorem made_zero {D : List Int} (h1 : ∀ d ∈ D, 1 ≤ d) : made D 0 = false := by
  cases e : made D 0 with
  | false => rfl
  | true =>
    obtain ⟨d, hd, h2, _⟩ := (made_iff h1).mp e
    have := h1 d hd
    omega
/-- what the law's table holds -/
def val (D : List Int) (k : Nat) : Int := if made D k = true then 2 else if D.contains (k : Int) = true then 1 else 0
theorem val_two {D : List Int} {k : Nat} : decide (val D k = 2) = made D k := by
  unfold val
  cases made D k with
  | true => rfl
  | false =>
    rw [if_neg Bool.false_ne_true]
    split <;> rfl
theorem val_pos {D : List Int} {k : Nat} : decide (0 < val D k) = rch D k := by
  unfold val rch
  cases made D k with
  | true =>
    rw [Bool.or_true]
    rfl
  | false =>
    rw [if_neg Bool.false_ne_true, Bool.or_false]
    cases D.contains (k : Int) <;> rfl
/-! ### lots that bar -/
def pick (E l : List Int) : List Int := l.map fun i => E.getD i.toNat 0
def bars (E O l : List Int) : Bool := decide ((O.filter fun o => made (pick E l) (o + 1).toNat).length < l.length)
def barring (E O : List Int) : List (List Int) := (lotsOf E.length).filter (bars E O)
theorem mem_barring {E O l : List Int} : l ∈ barring E O ↔ (l ≠ [] ∧ Asc E.length l) ∧ bars E O l = true := by
  unfold barring
  rw [List.mem_filter, mem_lots]
theorem barring_more {E O l : List Int} {z : Int} (h : l ∈ barring E (O ++ [z])) : l ∈ barring E O := by
  rw [mem_barring] at h ⊢
  refine ⟨h.1, ?_⟩
  have h2 := h.2
  unfold bars at h2 ⊢
  rw [decide_eq_true_eq, List.filter_append, List.length_append] at h2
  rw [decide_eq_true_eq]
  omega
/-! ### what follows from no lot that bars -/
theorem filter_mono {p q : Int → Bool} : ∀ (l : List Int), (∀ x ∈ l, p x = true → q x = true) → (l.filter p).length ≤ (l.filter q).length
  | [], _ => Nat.le_refl _
  | x :: l, h => by
    have ih := filter_mono l fun y hy => h y (List.mem_cons_of_mem _ hy)
    have hx := h x List.mem_cons_self
    rw [List.filter_cons, List.filter_cons]
    cases hp : p x with
    | true =>
      rw [hx hp, if_pos rfl, if_pos rfl, List.length_cons, List.length_cons]
      omega
    | false =>
      rw [if_neg Bool.false_ne_true]
      split
      · rw [List.length_cons]
        omega
      · exact ih
/-- the indices of the ones from x on -/
def upper (E : List Int) (x : Int) : List Int := ((List.range E.length).filter fun j : Nat => decide (x ≤ E.getD j 0)).map fun j : Nat => (j : Int)
theorem upper_asc (E : List Int) (x : Int) : Asc E.length (upper E x) := by
  refine ⟨List.pairwise_map.mpr (((List.pairwise_lt_range).sublist List.filter_sublist).imp fun h => by omega), fun i hi => ?_⟩
  obtain ⟨j, hj, rfl⟩ := List.mem_map.mp hi
  have := List.mem_range.mp (List.mem_filter.mp hj).1
  omega
theorem upper_len (E : List Int) (x : Int) : (upper E x).length = (E.filter fun e => decide (x ≤ e)).length := by
  unfold upper
  rw [List.length_map]
  have e : E = (List.range E.length).map fun j => E.getD j 0 := by
    refine List.ext_getElem (by simp) fun i h1 h2 => ?_
    rw [List.getElem_map, List.getElem_range, List.getD_eq_getElem?_getD, List.getElem?_eq_getElem h1]
    rfl
  have e2 : (E.filter fun e => decide (x ≤ e)) = (((List.range E.length).map fun j => E.getD j 0).filter fun e => decide (x ≤ e)) := by rw [← e]
  rw [e2, List.filter_map, List.length_map]
  rfl
theorem upper_pick {E : List Int} {x d : Int} (h : d ∈ pick E (upper E x)) : x ≤ d ∧ d ∈ E := by
  obtain ⟨i, hi, rfl⟩ := List.mem_map.mp h
  obtain ⟨j, hj, rfl⟩ := List.mem_map.mp hi
  obtain ⟨h1, h2⟩ := List.mem_filter.mp hj
  have h3 := List.mem_range.mp h1
  refine ⟨of_decide_eq_true h2, ?_⟩
  show E.getD j 0 ∈ E
  rw [List.getD_eq_getElem?_getD, List.getElem?_eq_getElem h3]
  exact List.getElem_mem _
/-- as many odd ones reach twice x, less 1, as even ones reach x -/
theorem needs_count {E O : List Int} (h1 : ∀ e ∈ E, 1 ≤ e) (ho : ∀ o ∈ O, 0 ≤ o) (hb : barring E O = []) (x : Int) :
    (E.filter fun e => decide (x ≤ e)).length ≤ (O.filter fun o => decide (2 * x ≤ o + 1)).length := by
  rw [← upper_len]
  by_cases c : upper E x = []
  · rw [c]
    exact Nat.zero_le _
  have h : ¬ bars E O (upper E x) = true := fun q => by
    have m := mem_barring.mpr ⟨⟨c, upper_asc E x⟩, q⟩
    rw [hb] at m
    exact absurd m List.not_mem_nil
  unfold bars at h
  rw [decide_eq_true_eq] at h
  refine Nat.le_trans (Nat.le_of_not_lt h) (filter_mono O fun o hm q => ?_)
  have g := made_ge (x := x) (fun d hd => h1 d (upper_pick hd).2) (fun d hd => (upper_pick hd).1) q
  have := ho o hm
  rw [decide_eq_true_eq]
  omega
theorem filter_len_perm {l m : List Int} (h : l.Perm m) (p : Int → Bool) : (l.filter p).length = (m.filter p).length := (h.filter p).length_eq
/-- in a falling list the first n + 1 ones are from its n-th one on -/
theorem fall_count {p : Int → Bool} : ∀ {l : List Int} {n : Nat} {x : Int}, l.Pairwise (fun a b => b ≤ a) → l[n]? = some x → (∀ y, x ≤ y → p y = true) → n + 1 ≤ (l.filter p).length
  | y :: l, 0, x, _, h, hp => by
    cases h
    rw [List.filter_cons, if_pos (hp y (Int.le_refl _)), List.length_cons]
    omega
  | y :: l, n + 1, x, hs, h, hp => by
    obtain ⟨s1, s2⟩ := List.pairwise_cons.mp hs
    have h' : l[n]? = some x := h
    have ih := fall_count s2 h' hp
    have := s1 x (List.mem_of_getElem? h')
    rw [List.filter_cons, if_pos (hp y this), List.length_cons]
    omega
/-- if the n-th one fails, and all below with it, at most n ones hold -/
theorem fall_few {p : Int → Bool} : ∀ {l : List Int} {n : Nat} {x : Int}, l.Pairwise (fun a b => b ≤ a) → l[n]? = some x → (∀ y, y ≤ x → p y = false) → (l.filter p).length ≤ n
  | y :: l, 0, x, hs, h, hp => by
    obtain ⟨s1, s2⟩ := List.pairwise_cons.mp hs
    cases h
    have e : (y :: l).filter p = [] := List.filter_eq_nil_iff.mpr fun a ha q => by
      rcases List.mem_cons.mp ha with e | e
      · rw [e, hp y (Int.le_refl _)] at q
        cases q
      · rw [hp a (s1 a e)] at q
        cases q
    rw [e]
    exact Nat.le_refl _
  | y :: l, n + 1, x, hs, h, hp => by
    obtain ⟨s1, s2⟩ := List.pairwise_cons.mp hs
    have ih := fall_few s2 (show l[n]? = some x from h) hp
    rw [List.filter_cons]
    split
    · rw [List.length_cons]
      omega
    · omega
theorem needs_pairs {E O F G : List Int} (h1 : ∀ e ∈ E, 1 ≤ e) (ho : ∀ o ∈ O, 0 ≤ o) (hb : barring E O = []) (hF : F.Perm E) (hG : G.Perm O) (sF : F.Pairwise (fun a b => b ≤ a)) (sG : G.Pairwise (fun a b => b ≤ a))
    {n : Nat} {f g : Int} (hf : F[n]? = some f) (hg : G[n]? = some g) : 2 * f ≤ g + 1 := by
  have a := needs_count h1 ho hb f
  rw [← filter_len_perm hF, ← filter_len_perm hG] at a
  have b := fall_count (p := fun e => decide (f ≤ e)) sF hf fun y hy => decide_eq_true hy
  by_cases c : 2 * f ≤ g + 1
  · exact c
  · have d := fall_few (p := fun o => decide (2 * f ≤ o + 1)) sG hg fun y hy => decide_eq_false (by omega)
    omega
theorem filter_all {p : Int → Bool} {l : List Int} (h : ∀ x ∈ l, p x = true) : (l.filter p).length = l.length := by
  rw [List.filter_eq_self.mpr h]
theorem needs_len {E O : List Int} (h1 : ∀ e ∈ E, 1 ≤ e) (ho : ∀ o ∈ O, 0 ≤ o) (hb : barring E O = []) : E.length ≤ O.length := by
  have a := needs_count h1 ho hb 1
  rw [filter_all fun x hx => decide_eq_true (h1 x hx)] at a
  exact Nat.le_trans a (List.length_filter_le _ _)
theorem sum_two : ∀ {F G : List Int}, F.length ≤ G.length → (∀ (n : Nat) (f g : Int), F[n]? = some f → G[n]? = some g → 2 * f ≤ g + 1) → (∀ g ∈ G, 0 ≤ g) → 2 * F.sum ≤ G.sum + F.length
  | [], [], _, _, _ => by simp
  | [], g :: G, _, _, h => by
    have ih := sum_two (F := []) (G := G) (Nat.zero_le _) (fun n f g' a => by simp at a) (fun x hx => h x (List.mem_cons_of_mem _ hx))
    have := h g List.mem_cons_self
    simp only [List.sum_nil, List.sum_cons, List.length_nil] at ih ⊢
    omega
  | f :: F, [], h, _, _ => absurd h (by simp)
  | f :: F, g :: G, h, hp, hn => by
    have ih := sum_two (F := F) (G := G) (by simp at h; exact h) (fun n a b x y => hp (n + 1) a b x y) (fun x hx => hn x (List.mem_cons_of_mem _ hx))
    have := hp 0 f g rfl rfl
    simp only [List.sum_cons, List.length_cons] at ih ⊢
    omega
theorem sum_perm {l m : List Int} (h : l.Perm m) : l.sum = m.sum := by
  induction h with
  | nil => rfl
  | cons x _ ih => rw [List.sum_cons, List.sum_cons, ih]
  | swap x y l => simp only [List.sum_cons]; omega
  | trans _ _ a b => exact a.trans b
/-! ### other names for the indices -/
def insI (x : Int) : List Int → List Int
  | [] => [x]
  | y :: l => if y < x then y :: insI x l else x :: y :: l
def sortI (l : List Int) : List Int := l.foldr insI []
theorem insI_perm (x : Int) : ∀ l, (insI x l).Perm (x :: l)
  | [] => List.Perm.refl _
  | y :: l => by
    unfold insI
    split
    · exact ((insI_perm x l).cons y).trans (List.Perm.swap x y l)
    · exact List.Perm.refl _
theorem sortI_perm : ∀ l, (sortI l).Perm l
  | [] => List.Perm.refl _
  | x :: l => (insI_perm x (sortI l)).trans ((sortI_perm l).cons x)
theorem insI_le (x : Int) : ∀ {l : List Int}, l.Pairwise (· ≤ ·) → (insI x l).Pairwise (· ≤ ·)
  | [], _ => List.pairwise_singleton _ _
  | y :: l, h => by
    obtain ⟨h1, h2⟩ := List.pairwise_cons.mp h
    unfold insI
    split
    · rename_i c
      refine List.pairwise_cons.mpr ⟨fun z hz => ?_, insI_le x h2⟩
      rcases List.mem_cons.mp ((insI_perm x l).mem_iff.mp hz) with e | e
      · rw [e]
        omega
      · exact h1 z e
    · refine List.pairwise_cons.mpr ⟨fun z hz => ?_, h⟩
      rcases List.mem_cons.mp hz with e | e
      · rw [e]
        omega
      · have := h1 z e
        omega
theorem sortI_le : ∀ l : List Int, (sortI l).Pairwise (· ≤ ·)
  | [] => List.Pairwise.nil
  | x :: l => insI_le x (sortI_le l)
theorem le_uniq : ∀ {l m : List Int}, l.Pairwise (· ≤ ·) → m.Pairwise (· ≤ ·) → l.Perm m → l = m
  | [], m, _, _, h => (List.Perm.eq_nil h.symm).symm
  | x :: l, [], _, _, h => absurd h.length_eq (by simp)
  | x :: l, y :: m, hl, hm, h => by
    have e : x = y := by
      rcases List.mem_cons.mp (h.mem_iff.mp (List.mem_cons_self (a := x) (l := l))) with q | q
      · exact q
      · rcases List.mem_cons.mp (h.mem_iff.mpr (List.mem_cons_self (a := y) (l := m))) with r | r
        · exact r.symm
        · have := (List.pairwise_cons.mp hm).1 x q
          have := (List.pairwise_cons.mp hl).1 y r
          omega
    subst e
    rw [le_uniq (List.pairwise_cons.mp hl).2 (List.pairwise_cons.mp hm).2 h.cons_inv]
theorem sortI_uniq {l m : List Int} (h1 : m.Pairwise (· ≤ ·)) (h2 : m.Perm l) : m = sortI l := le_uniq h1 (sortI_le l) (h2.trans (sortI_perm l).symm)
theorem lt_of_le_nodup {l : List Int} (h1 : l.Pairwise (· ≤ ·)) (h2 : l.Nodup) : l.Pairwise (· < ·) := by
  have h := List.pairwise_and_iff.mpr ⟨h1, h2⟩
  exact h.imp fun {a b} ⟨x, y⟩ => by
    have y' : a ≠ b := y
    omega
def nms (N : List Int) (i : Int) : Int := N.getD i.toNat 0
def renamed (N : List Int) (lots : List (List Int)) : List (List Int) := srt (lots.map fun l => sortI (l.map (nms N)))
def backOf (E N : List Int) : List Int := (List.range E.length).map fun j : Nat => E.getD (N.idxOf (j : Int)) 0
structure Nm (p : Nat) (N : List Int) : Prop where
  perm : N.Perm ((List.range p).map fun j : Nat => (j : Int))
section
variable {p : Nat} {N : List Int}
theorem Nm.len (h : Nm p N) : N.length = p := by
  rw [h.perm.length_eq, List.length_map, List.length_range]
theorem Nm.nodup (h : Nm p N) : N.Nodup := by
  refine h.perm.nodup_iff.mpr (List.pairwise_map.mpr (List.nodup_range.imp fun {a b} q e => q ?_))
  omega
theorem Nm.mem (h : Nm p N) {j : Int} : j ∈ N ↔ 0 ≤ j ∧ j < p := by
  rw [h.perm.mem_iff, List.mem_map]
  refine ⟨fun ⟨k, hk, e⟩ => ?_, fun h => ⟨j.toNat, ?_, ?_⟩⟩
  · have := List.mem_range.mp hk
    omega
  · rw [List.mem_range]
    omega
  · omega
theorem Nm.get (h : Nm p N) {i : Int} (h0 : 0 ≤ i) (h1 : i < p) : N[i.toNat]? = some (nms N i) := by
  have hl := h.len
  unfold nms
  rw [List.getD_eq_getElem?_getD, List.getElem?_eq_getElem (by omega)]
  rfl
theorem Nm.inn (h : Nm p N) {i : Int} (h0 : 0 ≤ i) (h1 : i < p) : 0 ≤ nms N i ∧ nms N i < p := h.mem.mp (List.mem_of_getElem? (h.get h0 h1))
theorem Nm.inj (h : Nm p N) {i j : Int} (h0 : 0 ≤ i) (h1 : i < p) (k0 : 0 ≤ j) (k1 : j < p) (e : nms N i = nms N j) : i = j := by
  have a := h.get h0 h1
  have b := h.get k0 k1
  rw [← e] at b
  have nd := h.nodup
  have hl := h.len
  obtain ⟨a1, a2⟩ := List.getElem?_eq_some_iff.mp a
  obtain ⟨b1, b2⟩ := List.getElem?_eq_some_iff.mp b
  have q : i.toNat = j.toNat := (List.getElem_inj nd).mp (a2.trans b2.symm)
  omega
theorem Nm.idx (h : Nm p N) {j : Int} (k0 : 0 ≤ j) (k1 : j < p) : N.idxOf j < p ∧ N[N.idxOf j]? = some j := by
  have m := h.mem.mpr ⟨k0, k1⟩
  have l := List.idxOf_lt_length_of_mem m
  refine ⟨by rw [← h.len]; exact l, ?_⟩
  rw [List.getElem?_eq_getElem l, List.getElem_idxOf l]
theorem Nm.idx_nms (h : Nm p N) {i : Int} (h0 : 0 ≤ i) (h1 : i < p) : (N.idxOf (nms N i) : Int) = i := by
  have g := h.inn h0 h1
  obtain ⟨a, b⟩ := h.idx g.1 g.2
  refine h.inj (by omega) (by omega) h0 h1 ?_
  have c := h.get (i := (N.idxOf (nms N i) : Int)) (by omega) (by omega)
  rw [show (N.idxOf (nms N i) : Int).toNat = N.idxOf (nms N i) by omega, b] at c
  exact (Option.some.inj c).symm
theorem back_get {E : List Int} (h : Nm E.length N) {i : Int} (h0 : 0 ≤ i) (h1 : i < E.length) : (backOf E N).getD (nms N i).toNat 0 = E.getD i.toNat 0 := by
  have g := h.inn h0 h1
  have e := h.idx_nms h0 h1
  unfold backOf
  rw [List.getD_eq_getElem?_getD, List.getElem?_map, List.getElem?_range (by omega)]
  show E.getD (N.idxOf (((nms N i).toNat : Nat) : Int)) 0 = _
  rw [show (((nms N i).toNat : Nat) : Int) = nms N i by omega, show N.idxOf (nms N i) = i.toNat by omega]
theorem ren_mem {l : List Int} {j : Int} : j ∈ sortI (l.map (nms N)) ↔ ∃ i ∈ l, nms N i = j := by
  rw [(sortI_perm _).mem_iff, List.mem_map]
theorem ren_asc (h : Nm p N) {l : List Int} (a : Asc p l) : Asc p (sortI (l.map (nms N))) := by
  refine ⟨lt_of_le_nodup (sortI_le _) ((sortI_perm _).nodup_iff.mpr ?_), fun j hj => ?_⟩
  · refine List.pairwise_map.mpr (a.up.imp_of_mem fun {x y} hx hy q e => ?_)
    have hx := a.inn x hx
    have hy := a.inn y hy
    have := h.inj hx.1 hx.2 hy.1 hy.2 e
    omega
  · obtain ⟨i, hi, rfl⟩ := ren_mem.mp hj
    have := a.inn i hi
    exact h.inn this.1 this.2
theorem ren_bars {E O G l : List Int} (h : Nm E.length N) (hG : G.Perm O) (a : Asc E.length l) : bars (backOf E N) G (sortI (l.map (nms N))) = bars E O l := by
  have m : ∀ d, d ∈ pick (backOf E N) (sortI (l.map (nms N))) ↔ d ∈ pick E l := fun d => by
    unfold pick
    rw [List.mem_map, List.mem_map]
    refine ⟨fun ⟨j, hj, e⟩ => ?_, fun ⟨i, hi, e⟩ => ⟨nms N i, ren_mem.mpr ⟨i, hi, rfl⟩, ?_⟩⟩
    · obtain ⟨i, hi, rfl⟩ := ren_mem.mp hj
      have := a.inn i hi
      rw [back_get h this.1 this.2] at e
      exact ⟨i, hi, e⟩
    · have := a.inn i hi
      rw [back_get h this.1 this.2]
      exact e
  unfold bars
  rw [filter_len_perm hG, (sortI_perm _).length_eq, List.length_map]
  rw [show (fun o : Int => made (pick (backOf E N) (sortI (l.map (nms N)))) (o + 1).toNat) = fun o : Int => made (pick E l) (o + 1).toNat from funext fun o => made_mem m _]
theorem renamed_eq {E O G : List Int} (h : Nm E.length N) (hG : G.Perm O) : barring (backOf E N) G = renamed N (barring E O) := by
  have bl : (backOf E N).length = E.length := by
    unfold backOf
    rw [List.length_map, List.length_range]
  have inj : ∀ l l', Asc E.length l → Asc E.length l' → sortI (l.map (nms N)) = sortI (l'.map (nms N)) → l = l' := fun l l' a a' e => by
    have half : ∀ l l', Asc E.length l → Asc E.length l' → sortI (l.map (nms N)) = sortI (l'.map (nms N)) → ∀ i, i ∈ l → i ∈ l' := fun l l' a a' e i hi => by
      have m : nms N i ∈ sortI (l'.map (nms N)) := by
        rw [← e]
        exact ren_mem.mpr ⟨i, hi, rfl⟩
      obtain ⟨k, hk, q⟩ := ren_mem.mp m
      have x := a.inn i hi
      have y := a'.inn k hk
      rw [← h.inj y.1 y.2 x.1 x.2 q]
      exact hk
    exact asc_uniq a.up a'.up fun i => ⟨half l l' a a' e i, half l' l a' a e.symm i⟩
  refine srt_uniq ((lots_sr _).sublist List.filter_sublist) ?_
  refine (List.perm_ext_iff_of_nodup (List.Nodup.sublist List.filter_sublist (lots_nodup _)) ?_).mpr fun L => ?_
  · refine List.pairwise_map.mpr (List.Pairwise.imp_of_mem (fun {x y} hx hy q e => q ?_) (List.Nodup.sublist List.filter_sublist (lots_nodup E.length)))
    exact inj x y (mem_barring.mp hx).1.2 (mem_barring.mp hy).1.2 e
  · show L ∈ barring (backOf E N) G ↔ _
    rw [mem_barring, bl, List.mem_map]
    refine ⟨fun ⟨⟨n, a⟩, b⟩ => ?_, fun ⟨l, hl, e⟩ => ?_⟩
    · let l : List Int := ((List.range E.length).filter fun j : Nat => L.contains (nms N (j : Int))).map fun j : Nat => (j : Int)
      have al : Asc E.length l := by
        refine ⟨List.pairwise_map.mpr (((List.pairwise_lt_range).sublist List.filter_sublist).imp fun h => by omega), fun i hi => ?_⟩
        obtain ⟨j, hj, rfl⟩ := List.mem_map.mp hi
        have := List.mem_range.mp (List.mem_filter.mp hj).1
        omega
      have e : sortI (l.map (nms N)) = L := asc_uniq (ren_asc h al).up a.up fun j => by
        rw [ren_mem]
        refine ⟨fun ⟨i, hi, e⟩ => ?_, fun hj => ?_⟩
        · obtain ⟨k, hk, rfl⟩ := List.mem_map.mp hi
          rw [← e]
          exact List.contains_iff_mem.mp (List.mem_filter.mp hk).2
        · have x := a.inn j hj
          obtain ⟨i1, i2⟩ := h.idx x.1 x.2
          have g := h.get (i := (N.idxOf j : Int)) (by omega) (by omega)
          rw [show (N.idxOf j : Int).toNat = N.idxOf j by omega, i2] at g
          have g2 := Option.some.inj g
          refine ⟨(N.idxOf j : Int), List.mem_map.mpr ⟨N.idxOf j, List.mem_filter.mpr ⟨List.mem_range.mpr i1, ?_⟩, rfl⟩, g2.symm⟩
          rw [← g2]
          exact List.contains_iff_mem.mpr hj
      refine ⟨l, mem_barring.mpr ⟨⟨fun q => n ?_, al⟩, ?_⟩, e⟩
      · rw [← e, q]
        rfl
      · rw [← ren_bars h hG al, e]
        exact b
    · subst e
      obtain ⟨⟨n, a⟩, b⟩ := mem_barring.mp hl
      refine ⟨⟨fun q => n ?_, ren_asc h a⟩, by rw [ren_bars h hG a]; exact b⟩
      have := congrArg List.length q
      rw [(sortI_perm _).length_eq, List.length_map] at this
      exact List.eq_nil_of_length_eq_zero this
end
end K4
namespace K4
open PySem PySem.Spec PyProof.Rows L2
/-! ### sorted of tuples of ints, of any lengths -/
section
variable {prog : Program} {w : World} {A : Around} {E : Value → Shared → Prop} {s : Shared}
theorem swo_ltL {α : Type} (k : α → List Int) : SrtO.Swo fun v u => ltL (k v) (k u) := ⟨fun x y h => ltL_asym _ _ h, fun x y z h1 h2 => ltL_tr _ _ _ h1 h2⟩
theorem oneLt_anyI {f : Bool} {a b : Int} {t u : Tok} {Q : Bool → Shared → Prop} (h : Q (decide (a < b)) s) : wpAny (model prog w) A (oneLt' f (.int a t) (.int b u)) Q E s := by
  cases f with
  | true => exact oneLt_int h
  | false => exact PySem.W.kat_one _ _ (PyProof.Rows.lt_int h)
theorem ints_at : ∀ {vs : List Value} {ns : List Int}, IntsAre vs ns → ∀ {j : Nat} (h : j < vs.length), ∃ x t, vs[j] = Value.int x t ∧ ns[j]? = some x
  | _, _, .cons n t r, 0, _ => ⟨n, t, rfl, rfl⟩
  | _, _, .cons n t r, j + 1, h => ints_at r (j := j) (by rw [List.length_cons] at h; omega)
theorem kat_ints {b fin : Bool} {Q : Bool → Shared → Prop} : ∀ {ps qs : List Value} {ns ms : List Int} {i : Nat}, IntsAre ps ns → IntsAre qs ms → fin = decide (ps.length < qs.length) → Q (ltL ns ms) s → PySem.W.KatLex prog w A b fin Q (ps.zip qs) i s
  | _, _, _, _, _, .nil, .nil, hf, h => by
    have e : fin = false := by rw [hf]; rfl
    subst e
    exact PySem.W.kat_nil h
  | _, _, _, _, _, .nil, .cons m u r, hf, h => by
    have e : fin = true := by rw [hf]; exact decide_eq_true (Nat.succ_pos _)
    subst e
    exact PySem.W.kat_nil h
  | _, _, _, _, _, .cons n t l, .nil, hf, h => by
    have e : fin = false := by rw [hf]; rfl
    subst e
    exact PySem.W.kat_nil h
  | _, _, _, _, i, .cons (vs := ps) (ns := ns) n t l, .cons (vs := qs) (ns := ms) m u r, hf, h => by
    have hf' : fin = decide (ps.length < qs.length) := by
      rw [hf]
      exact decide_eq_decide.mpr (by rw [List.length_cons, List.length_cons]; omega)
    have e : ltL (n :: ns) (m :: ms) = if n = m then ltL ns ms else decide (n < m) := rfl
    rw [e] at h
    refine PySem.W.kat_cons (SeqAt.EqAt.int_int n t m u prog w _ _ ?_)
    refine PySem.W.kat_go (fun e1 => ?_) (fun e1 => ?_)
    · have ex : n = m := by simpa using e1
      rw [if_pos ex] at h
      exact PySem.W.kat_yes (kat_ints l r hf' h)
    · have ex : ¬ n = m := by simpa using e1
      rw [if_neg ex] at h
      exact PySem.W.kat_no (oneLt_anyI h)
theorem lexAt_ltL {e r : Nat → Bool} {z : Bool} : ∀ {ns ms : List Int} {i : Nat}, (∀ j a b, ns[j]? = some a → ms[j]? = some b → e (i + j) = decide (a = b) ∧ r (i + j) = decide (a < b)) → z = decide (ns.length < ms.length) → Ob.lexAt e r z i (min ns.length ms.length) = ltL ns ms
  | [], [], i, _, h => by rw [h]; rfl
  | [], m :: ms, i, _, h => by
    rw [h]
    show Ob.lexAt e r _ i (min 0 _) = true
    rw [Nat.zero_min]
    exact decide_eq_true (Nat.succ_pos _)
  | n :: ns, [], i, _, h => by
    rw [h]
    show Ob.lexAt e r _ i (min _ 0) = false
    rw [Nat.min_zero]
    rfl
  | n :: ns, m :: ms, i, hj, h => by
    have e0 := hj 0 n m rfl rfl
    rw [Nat.add_zero] at e0
    have ih := lexAt_ltL (e := e) (r := r) (z := z) (ns := ns) (ms := ms) (i := i + 1) (fun j a b ha hb => by
      have q := hj (j + 1) a b ha hb
      rw [show i + (j + 1) = i + 1 + j by omega] at q
      exact q) (by rw [h]; exact decide_eq_decide.mpr (by rw [List.length_cons, List.length_cons]; omega))
    have em : min (n :: ns).length (m :: ms).length = min ns.length ms.length + 1 := by
      rw [List.length_cons, List.length_cons]
      omega
    rw [em, Ob.lexAt_succ, ih, e0.1, e0.2]
    show _ = if n = m then ltL ns ms else decide (n < m)
    by_cases c : n = m
    · rw [if_pos c, decide_eq_true c, if_pos rfl]
    · rw [if_neg c, decide_eq_false c, if_neg Bool.false_ne_true]
theorem tups_cmp1 {vs : List Value} {k : Value → List Int} (hp : ∀ v ∈ vs, TS.TupInts s.heap v (k v)) : SrtO.Cmp prog w A s (tuples' true) (fun p => p.1 ∈ vs) (SrtO.lt2 fun v u => ltL (k v) (k u)) := by
  intro p q hm hm'
  obtain ⟨a, xs, e, ⟨o, ho, hc, n, hd⟩, hi⟩ := hp _ hm
  obtain ⟨a', xs', e', ⟨o', ho', hc', n', hd'⟩, hi'⟩ := hp _ hm'
  show wpAny (model prog w) A (keyLt' (tuples' true) p.1 q.1) (fun r s' => s' = s ∧ r = ltL (k p.1) (k q.1)) (fun _ _ => False) s
  generalize k p.1 = kp at hi ⊢
  generalize k q.1 = kq at hi' ⊢
  rw [e, e']
  refine PySem.W.kat_lt ho hd ho' hd' ?_
  exact kat_ints hi hi' (by rw [Array.length_toList, Array.length_toList]) ⟨rfl, rfl⟩
theorem tups_cmp0 {vs : List Value} {k : Value → List Int} (hu : A.units + 1 < cLine) (hp : ∀ v ∈ vs, TS.TupInts s.heap v (k v)) : SrtO.Cmp prog w A s oneType' (fun p => p.1 ∈ vs) (SrtO.lt2 fun v u => ltL (k v) (k u)) := by
  intro p q hm hm'
  obtain ⟨a, xs, e, ⟨⟨cls, dd, data, sl⟩, ho, hc, n, hd⟩, hi⟩ := hp _ hm
  obtain ⟨a', xs', e', ⟨⟨cls2, dd2, data2, sl2⟩, ho', hc', n', hd'⟩, hi'⟩ := hp _ hm'
  show wpAny (model prog w) A (keyLt' oneType' p.1 q.1) (fun r s' => s' = s ∧ r = ltL (k p.1) (k q.1)) (fun _ _ => False) s
  generalize k p.1 = kp at hi ⊢
  generalize k q.1 = kq at hi' ⊢
  simp only at hc hd hc' hd'
  subst hc hd hc' hd'
  rw [e, e', keyLt'_oneType, oneLt'_eq]
  simp only [if_true]
  refine wpAny_bind (wpAny_cRoomFor (by omega) ?_)
  have li := hi.length
  have li' := hi'.length
  have g1 : ∀ j (h1 : j < xs.size) (h2 : j < xs'.size), SeqAt.EqAt A.in1 s xs[j] xs'[j] (decide (kp.getD j 0 = kq.getD j 0)) ∧ Ob.RcOp .Lt A.in1 s xs[j] xs'[j] (decide (kp.getD j 0 < kq.getD j 0)) := fun j h1 h2 => by
    obtain ⟨x, t, e1, f1⟩ := ints_at hi (j := j) (by rw [Array.length_toList]; exact h1)
    obtain ⟨y, u, e2, f2⟩ := ints_at hi' (j := j) (by rw [Array.length_toList]; exact h2)
    rw [Array.getElem_toList] at e1 e2
    rw [e1, e2, List.getD_eq_getElem?_getD, List.getD_eq_getElem?_getD, f1, f2]
    exact ⟨SeqAt.EqAt.int_int x t y u, Ob.RcOp.lt_int x y t u⟩
  refine wpAny_bind (wpAny_callSpecialIfBound?_slot ⟨_, ho, rfl⟩ F.slot_tuple_lt (call_meets F.slot_tuple_lt ⟨_, ho, rfl⟩ F.entry_tuple_lt (F.args_tuple_lt_2 _ _) (Ob.tuple_ltAt a a' xs xs' n n' dd dd2 sl sl2 (fun j => decide (kp.getD j 0 = kq.getD j 0)) (fun j => decide (kp.getD j 0 < kq.getD j 0)))
    ⟨ho, ho', fun j h1 h2 => (g1 j h1 h2).1, fun j h1 h2 _ => (g1 j h1 h2).2, ?_⟩))
  have ex : Ob.lexAt (fun j => decide (kp.getD j 0 = kq.getD j 0)) (fun j => decide (kp.getD j 0 < kq.getD j 0)) (decide (xs.size < xs'.size)) 0 (min xs.size xs'.size) = ltL kp kq := by
    rw [Array.length_toList] at li li'
    rw [li, li']
    refine lexAt_ltL (fun j x y hx hy => ?_) rfl
    rw [Nat.zero_add, List.getD_eq_getElem?_getD, List.getD_eq_getElem?_getD, hx, hy]
    exact ⟨rfl, rfl⟩
  rw [ex]
  exact wpAny_truthy_bool ⟨rfl, rfl⟩
theorem kat_tups : ∀ {vs : List Value} {k : Value → List Int}, (∀ v ∈ vs, TS.TupInts s.heap v (k v)) → (∀ v ∈ vs, k v ≠ []) → ∃ fs : List Value, PySem.W.KatTups s.heap vs fs ∧ fs.length = vs.length ∧ ∀ f ∈ fs, ∃ x t, f = Value.int x t
  | [], _, _, _ => ⟨[], .nil, rfl, fun _ h => absurd h List.not_mem_nil⟩
  | v :: vs, k, hp, hn => by
    obtain ⟨fs, h1, h2, h3⟩ := kat_tups (vs := vs) (k := k) (fun u hu => hp u (List.mem_cons_of_mem _ hu)) fun u hu => hn u (List.mem_cons_of_mem _ hu)
    obtain ⟨a, xs, e, ⟨o, ho, hc, n, hd⟩, hi⟩ := hp v List.mem_cons_self
    have hne := hn v List.mem_cons_self
    have hl : 0 < xs.toList.length := by
      rw [hi.length]
      exact List.length_pos_iff.mpr hne
    obtain ⟨x, t, e1, _⟩ := ints_at hi hl
    rw [Array.getElem_toList] at e1
    rw [Array.length_toList] at hl
    refine ⟨Value.int x t :: fs, ?_, by rw [List.length_cons, List.length_cons, h2], fun f hf => ?_⟩
    · rw [e]
      refine .cons ho hc hd ?_ h1
      rw [Array.getElem?_eq_getElem hl, e1]
    · rcases List.mem_cons.mp hf with q | q
      · exact ⟨x, t, q⟩
      · exact h3 f q
theorem firsts_any {M : Model} {A : Around} {E : Value → Shared → Prop} : ∀ {vs : List Value} {Q : List (Option Value) → Shared → Prop}, (∀ v ∈ vs, ∃ ns, TS.TupInts s.heap v ns) → (∀ fs, Q fs s) → wpAny M A (vs.mapM firstOfTuple') Q E s
  | [], _, _, h => by
    rw [List.mapM_nil]
    exact wpAny_pure (h [])
  | v :: vs, Q, hp, h => by
    obtain ⟨ns, a, xs, rfl, ⟨o, ho, hc, n, hd⟩, hi⟩ := hp v List.mem_cons_self
    rw [List.mapM_cons]
    refine wpAny_bind ?_
    rw [PySem.W.kas_first_eq]
    refine wpAny_bind (PySem.W.Looks.here (show PySem.W.Looks M s.heap (typeOf (.ref a)) o.cls from (PySem.W.Looks.ld ho).andThen .now) ?_)
    rw [hc, if_neg (by first | decide | simp)]
    refine wpAny_bind (listItems_at ho hd (wpAny_pure ?_))
    exact wpAny_bind (firsts_any (vs := vs) (Q := fun bs s' => wpAny M A (pure (xs[0]? :: bs)) Q E s') (fun u hu => hp u (List.mem_cons_of_mem _ hu)) fun fs => wpAny_pure (h _))
theorem kind_empty {M : Model} {A : Around} {E : Value → Shared → Prop} {v : Value} {vs : List Value} {Q : SortKind → Shared → Prop} (h0 : TS.TupInts s.heap v []) (hp : ∀ u ∈ vs, ∃ ns, TS.TupInts s.heap u ns) (h : Q oneType' s) : wpAny M A (keyKind' (v :: vs).toArray) Q E s := by
  rw [kat_kind_eq, List.mapM_toArray, map_eq_pure_bind, List.mapM_cons]
  obtain ⟨a, xs, e, ⟨o, ho, hc, n, hd⟩, hi⟩ := id h0
  have hl : xs[0]? = none := by
    have l := hi.length
    rw [Array.length_toList] at l
    rw [Array.getElem?_eq_none]
    rw [l]
    exact Nat.le_refl 0
  have hty : ∀ u ∈ v :: vs, PySem.W.Looks M s.heap (typeOf u) (Value.type "tuple") := fun u hu => by
    have q : ∃ ns, TS.TupInts s.heap u ns := by
      rcases List.mem_cons.mp hu with e | e
      · rw [e]
        exact ⟨_, h0⟩
      · exact hp u e
    obtain ⟨_, b, ys, rfl, ⟨o2, ho2, hc2, _⟩, _⟩ := q
    rw [← hc2]
    exact (PySem.W.Looks.ld ho2).andThen .now
  refine wpAny_bind (wpAny_bind (wpAny_bind ?_))
  rw [PySem.W.kas_first_eq]
  refine wpAny_bind ((hty v List.mem_cons_self).here ?_)
  rw [if_neg (by first | decide | simp), e]
  refine wpAny_bind (listItems_at ho hd (wpAny_pure ?_))
  rw [hl]
  refine wpAny_bind (firsts_any hp fun fs => wpAny_pure (wpAny_pure ?_))
  rw [if_neg (by simp), if_neg (by simp)]
  rw [oneTypeOnly'_eq, List.mapM_toArray, map_eq_pure_bind]
  refine wpAny_bind (wpAny_bind (wpAny_bind (PySem.W.kas_mapM (r := Value.type "tuple") _ (fun u hu Q' hq => (hty u (by rw [e]; exact hu)).here hq) (wpAny_pure ?_))))
  have hall2 : ((List.map (fun _ => Value.type "tuple") (Value.ref a :: vs)).toArray.all fun x => x == Value.type "tuple") = true := by
    simp only [List.all_toArray, List.all_map, List.all_eq_true]
    intro _ _
    rfl
  have h0' : (List.map (fun _ => Value.type "tuple") (Value.ref a :: vs)).toArray[0]? = some (Value.type "tuple") := by simp
  rw [h0']
  simp only [hall2, if_true]
  exact wpAny_pure (wpAny_pure h)
/-- all have items, or the first one has none -/
def HeadOk (k : Value → List Int) (vs : List Value) : Prop := (∀ v ∈ vs, k v ≠ []) ∨ ∃ v r, vs = v :: r ∧ k v = []
theorem tups_sortable {a : Addr} {vs : List Value} {k : Value → List Int} (hu : A.units + 1 < cLine) (h0 : 0 < vs.length) (hp : ∀ v ∈ vs, TS.TupInts s.heap v (k v)) (hk : HeadOk k vs) (ha : ∀ o, s.heap.get? a = some o → o.cls ≠ .type "tuple") : SrtO.SortableO prog w A s a vs fun v u => ltL (k v) (k u) := by
  intro h' keep
  have hp' : ∀ v ∈ vs, TS.TupInts h' v (k v) := fun v hm => (hp v hm).keeps fun b o e c => keep b o (fun z => by subst z; exact ha o e c) e
  rcases hk with hk | ⟨v, r, rfl, hv⟩
  · obtain ⟨fs, h1, h2, h3⟩ := kat_tups (s := { s with heap := h' }) hp' hk
    refine ⟨tuples' true, fun Q E hq => ?_, tups_cmp1 hp'⟩
    refine PySem.W.kat_kind (T := .type "int") h1 (by omega) (fun f hm => ?_) (by rfl) ?_
    · obtain ⟨x, t, rfl⟩ := h3 f hm
      exact PySem.W.Looks.now
    · have e : (Value.type "int" != Value.type "tuple") = true := by first | decide +kernel | rfl | decide
      rw [e]
      exact hq
  · refine ⟨oneType', fun Q E hq => ?_, tups_cmp0 hu hp'⟩
    have hv0 := hp' v List.mem_cons_self
    rw [hv] at hv0
    exact kind_empty (s := { s with heap := h' }) hv0 (fun u hu => ⟨_, hp' u (List.mem_cons_of_mem _ hu)⟩) hq
end
end K4
namespace L2
open PySem PySem.Spec PyProof.Rows
/-- the items are tuples of these ints -/
abbrev TupsV (K : PySem.W.Frag) (H : Hp) (xs : List V) (ls : List (List Int)) : Prop := Paired (fun x l => ∃ t, x = V.ref t ∧ SqT K H t (l.map V.int)) xs ls
theorem TupsV.mem {K : PySem.W.Frag} {H : Hp} {x : V} : ∀ {xs : List V} {ls : List (List Int)}, TupsV K H xs ls → x ∈ xs → ∃ t l, x = V.ref t ∧ l ∈ ls ∧ SqT K H t (l.map V.int)
  | _, _, .cons ⟨t, e, h⟩ r, m => by
    rcases List.mem_cons.mp m with q | q
    · exact ⟨t, _, q.trans e, List.mem_cons_self, h⟩
    · obtain ⟨t', l, e', hl, h'⟩ := TupsV.mem r q
      exact ⟨t', l, e', List.mem_cons_of_mem _ hl, h'⟩
/-- sorted(xs), xs a list of tuples of ints of any lengths: either none is empty or the first one is -/
def rSortedTL (K : PySem.W.Frag) : List V → Hp → VK → Prop := fun vs H Q => ∃ (a : Addr) (xs : List V) (ls : List (List Int)), vs = [V.ref a] ∧ SqL K H a xs ∧ TupsV K H xs ls ∧ ((∀ l ∈ ls, l ≠ []) ∨ ∃ r, ls = [] :: r) ∧
  ∀ ys p, TupsV K H ys (K4.srt ls) → H p = none → Q (.ref p) (upd H p (.lst ys))
section
variable {X : Cx} {pins : List (Addr × Obj)} {σ : St} {H : Hp} {s : Shared}
theorem raw_tup (I : Inv X pins σ H s) {t : Addr} {ns : List Int} (h : SqT X.K H t (ns.map V.int)) : TS.TupInts s.heap (.ref t) ns := by
  obtain ⟨its, rv, hT, _⟩ := I.tuple h
  exact ⟨t, its.toArray, rfl, hT, by simpa using rv.ints⟩
theorem raw_tups (I : Inv X pins σ H s) : ∀ {xs : List V} {ls : List (List Int)} {us : List Value}, TupsV X.K H xs ls → Vals xs us → us.map (TS.intsOf s.heap) = ls ∧ (∀ u ∈ us, TS.TupInts s.heap u (TS.intsOf s.heap u)) ∧ ∀ u ∈ us, ∃ a, u = Value.ref a ∧ SqT X.K H a ((TS.intsOf s.heap u).map V.int)
  | _, _, _, .nil, .nil => ⟨rfl, fun _ h => absurd h List.not_mem_nil, fun _ h => absurd h List.not_mem_nil⟩
  | _, _, _, .cons (b := l) ⟨t, e, h⟩ r, .cons rv rvs => by
    subst e
    obtain ⟨h1, h2, h3⟩ := raw_tups I r rvs
    cases rv
    have ti := raw_tup I h
    have ei := ti.ints
    refine ⟨by rw [List.map_cons, h1, ei], fun u hu => ?_, fun u hu => ?_⟩
    · rcases List.mem_cons.mp hu with q | q
      · rw [q, ei]
        exact ti
      · exact h2 u q
    · rcases List.mem_cons.mp hu with q | q
      · rw [q, ei]
        exact ⟨t, rfl, h⟩
      · exact h3 u q
theorem tups_back {K : PySem.W.Frag} {h : Heap} : ∀ {us : List Value}, (∀ u ∈ us, ∃ a, u = Value.ref a ∧ SqT K H a ((TS.intsOf h u).map V.int)) → TupsV K H (us.map backV) (us.map (TS.intsOf h))
  | [], _ => .nil
  | u :: us, hp => by
    obtain ⟨a, e, hs⟩ := hp u List.mem_cons_self
    refine .cons ⟨a, ?_, hs⟩ (tups_back fun v hv => hp v (List.mem_cons_of_mem _ hv))
    rw [e]
    rfl
theorem cr_sortedTL (hu : X.A.units + 64 < cLine) : CallR X (.builtin "sorted") (rSortedTL X.K) := by
  intro pins s σ H vs us Q I r h
  obtain ⟨a, xs, ls, rfl, hs, hx, hk, q⟩ := h
  obtain ⟨its, rv, hl, hz⟩ := I.list hs
  obtain ⟨u, rfl, ru⟩ := vals1 r
  obtain rfl : u = Value.ref a := ru
  obtain ⟨e1, e2, e3⟩ := raw_tups I hx rv
  have hk' : K4.HeadOk (TS.intsOf s.heap) its := by
    rcases hk with hk | ⟨r, hk⟩
    · refine .inl fun v hv => hk _ ?_
      rw [← e1]
      exact List.mem_map.mpr ⟨v, hv, rfl⟩
    · rw [hk] at e1
      cases its with
      | nil => cases e1
      | cons v its => exact .inr ⟨v, its, rfl, (List.cons.inj e1).1⟩
  refine SrtO.sorted_ord (K4.swo_ltL (TS.intsOf s.heap)) hl.isList (by rw [← rv.length]; exact hz) (fun h2 h₁ a' ha kk => ?_) fun out h1 h2 => ?_
  · refine K4.tups_sortable (s := { s with heap := h₁ }) ?_ (by omega) (fun v hv => (e2 v hv).keeps fun b o e _ => (kk b o e).2) hk' fun o e => ?_
    · show X.A.units + 2 + 1 < cLine
      omega
    · have e' : some o = some (seqObj "list" its.toArray 0) := e.symm.trans ha
      cases e'
      intro c
      exact absurd (Value.type.inj c) (by decide)
  · have h3 : ∀ u ∈ out, ∃ a, u = Value.ref a ∧ SqT X.K H a ((TS.intsOf s.heap u).map V.int) := fun u hu => e3 u (h2.perm.mem_iff.mp hu)
    obtain ⟨ep, he'⟩ := PyProof.Rows.sortedAll_at s.heap its out.toArray
    have hlen : (out.map backV).length ≤ sizeLine := by
      rw [List.length_map, h2.perm.length_eq, ← rv.length]
      exact hz
    have hu2 : out.map (TS.intsOf s.heap) = K4.srt ls := by
      refine K4.srt_uniq (List.pairwise_map.mpr h1) ?_
      rw [← e1]
      exact h2.perm.map _
    have tb := tups_back (K := X.K) (H := H) (h := s.heap) h3
    rw [hu2] at tb
    exact ⟨.ref _, upd H (s.heap.objs.size + 1) (.lst (out.map backV)), I.laid (t' := s.toks) (fun _ _ => PyProof.Rows.sortedAll_old) (Nat.le_succ _) ⟨hlen, out, ep, vals_back fun u hu => (h3 u hu).imp fun _ z => z.1, he'⟩, rfl, q _ _ tb (I.hok.fresh (Nat.le_succ _))⟩
end
end L2
namespace K4
open PySem PySem.Spec PyProof.Rows L2 SrtO
/-! ### sorted of a tuple of ints -/
section
variable {prog : Program} {w : World} {A : Around} {E : Value → Shared → Prop} {s : Shared}
theorem collect_tup {l : Addr} {vs : List Value} {Q : List Value → Shared → Prop} (hl : s.heap.IsTuple l vs.toArray)
    (h : Q vs { s with heap := (s.heap.push (seqObj "list" #[] 0)).update s.heap.objs.size (Obj.mapSeq (· ++ vs.toArray)) }) (hsz : vs.length ≤ sizeLine) :
    wpAny (model prog w) A (collect (.ref l)) Q E s := by
  obtain ⟨o, ho, hc, n, hd⟩ := id hl
  unfold collect
  refine wpAny_bind (wpAny_runValue (codeAny_builtin entry_proto_collect' ?_))
  show wpAny _ _ (do again (.builtin "list.__iadd__" ⟨[← newList [], .ref l], []⟩)) _ _ s
  refine wpAny_bind (wpAny_newList (wpAny_pure ⟨Code.quiet_builtin _ (by decide +kernel), codeAny_builtin entry_list_iadd' ?_⟩))
  show wpAny _ _ (Builtin.List.listExtendWith (.ref s.heap.objs.size) (.ref l) (.ref s.heap.objs.size)) _ _ { s with heap := s.heap.push (seqObj "list" #[] 0) }
  unfold Builtin.List.listExtendWith
  have ho' : (s.heap.push (seqObj "list" #[] 0)).get? l = some o := Heap.get?_push_of_some _ ho
  refine wpAny_bind (wpAny_typeOf (T := "tuple") ⟨o, ho', hc⟩ ?_)
  have ht : (Value.type "tuple" == Value.type "tuple") = true := by rfl
  rw [if_pos (by rw [ht]; simp)]
  refine wpAny_bind (listItems_at ho' hd ?_)
  refine wpAny_bind (listItems_at (xs := #[]) (n := 0) (Heap.get?_push_size _ rfl) rfl ?_)
  rw [if_neg (by simp)]
  refine wpAny_bind (listUpdate_at (xs := #[]) (n := 0) (Heap.get?_push_size _ rfl) rfl ?_ (Nat.zero_le _) (by show (#[] ++ vs.toArray).size ≤ sizeLine + 1; simp only [Array.size_append, List.size_toArray, List.length_nil]; omega))
  refine wpAny_pure ?_
  show wpAny (model prog w) A (do
      let o ← load s.heap.objs.size
      match o.data with
      | .seq xs _ => pure xs.toList
      | _ => unsupported "internal:collect") Q E { s with heap := (s.heap.push (seqObj "list" #[] 0)).update s.heap.objs.size (Obj.mapSeq (· ++ vs.toArray)) }
  refine wpAny_bind (wpAny_load (get?_update_seq (Heap.get?_push_size _ rfl) _) ?_)
  show wpAny _ _ (pure ((#[] : Array Value) ++ vs.toArray).toList) Q E _
  rw [show ((#[] : Array Value) ++ vs.toArray).toList = vs by simp]
  exact wpAny_pure h
theorem sorted_ordT {l : Addr} {vs : List Value} {ltv : Value → Value → Bool} {Q : Value → Shared → Prop} (O : Swo ltv) (hl : s.heap.IsTuple l vs.toArray) (hz : vs.length ≤ sizeLine)
    (hS : 2 ≤ vs.length → ∀ (h₁ : Heap) (a : Addr), h₁.get? a = some (seqObj "list" vs.toArray 0) → (∀ b o, s.heap.get? b = some o → b ≠ a ∧ h₁.get? b = some o) → SortableO prog w A.in1.in1 { s with heap := h₁ } a vs ltv)
    (h : ∀ out : List Value, Srtd ltv out → Stb ltv out vs → Q (.ref (s.heap.objs.size + 1)) { s with heap := sortedAll s.heap vs out.toArray }) :
    wpAny (model prog w) A (call (.builtin "sorted") [.ref l]) Q E s := by
  refine Calls.call_function_entry kind_sorted plain_sorted entry_sorted (args_sorted1 _) ?_
  unfold Builtin.«sorted»
  refine wpAny_bind (m := checkCount "sorted" 1 1 _) (wpAny_pure ?_)
  refine wpAny_bind (collect_tup hl ?_ hz)
  refine wpAny_bind (wpAny_newList ?_ hz)
  have hsz : ((s.heap.push (seqObj "list" #[] 0)).update s.heap.objs.size (Obj.mapSeq (· ++ vs.toArray))).objs.size = s.heap.objs.size + 1 := by
    rw [Heap.size_update, size_push']
  have hoL : (((s.heap.push (seqObj "list" #[] 0)).update s.heap.objs.size (Obj.mapSeq (· ++ vs.toArray))).push (seqObj "list" vs.toArray 0)).get? (s.heap.objs.size + 1) = some (seqObj "list" vs.toArray 0) := by
    rw [← hsz]; exact Heap.get?_push_size _ rfl
  have keep : ∀ b o, s.heap.get? b = some o → b ≠ s.heap.objs.size + 1 ∧ (((s.heap.push (seqObj "list" #[] 0)).update s.heap.objs.size (Obj.mapSeq (· ++ vs.toArray))).push (seqObj "list" vs.toArray 0)).get? b = some o := fun b o q => by
    have hlt : b < s.heap.objs.size := Heap.lt_size q
    refine ⟨Nat.ne_of_lt (Nat.lt_succ_of_lt hlt), Heap.get?_push_of_some _ ?_⟩
    rw [Heap.get?_update_ne _ _ _ _ (Nat.ne_of_lt hlt)]
    exact Heap.get?_push_of_some _ q
  show wpAny _ _ _ _ _ { s with heap := ((s.heap.push (seqObj "list" #[] 0)).update s.heap.objs.size (Obj.mapSeq (· ++ vs.toArray))).push (seqObj "list" vs.toArray 0) }
  rw [hsz]
  refine wpAny_bind (wpAny_holding (wpAny_call_entry slot_list_sort ⟨_, hoL, rfl⟩ entry_list_sort (list_sort_ord O hoL hz (fun h2 => hS h2 _ _ hoL keep) fun out hs hb => ⟨_, rfl, ?_⟩) (args_list_sort _)))
  exact wpAny_pure ⟨_, rfl, h out hs hb⟩
end
end K4
namespace L2
open PySem PySem.Spec PyProof.Rows
/-- sorted(t), t a tuple of ints -/
def rSortedTu (K : PySem.W.Frag) : List V → Hp → VK → Prop := fun vs H Q => ∃ (a : Addr) (ns : List Int), vs = [V.ref a] ∧ SqT K H a (ns.map V.int) ∧
  ∀ (ns' : List Int) (p : Addr), ns'.Perm ns → ns'.Pairwise (· ≤ ·) → H p = none → Q (.ref p) (upd H p (.lst (ns'.map V.int)))
section
variable {X : Cx}
theorem cr_sortedTu : CallR X (.builtin "sorted") (rSortedTu X.K) := by
  intro pins s σ H vs us Q I r h
  obtain ⟨a, ns, rfl, hs, q⟩ := h
  obtain ⟨its, rv, hl, hz⟩ := I.tuple hs
  rw [Vals.ref1 r]
  have hi := rv.ints
  refine K4.sorted_ordT SrtO.swo_int hl (by rw [← rv.length]; exact hz) (fun h2 h₁ a' _ _ => SrtO.ints_sortable hi h2) fun out h1 h2 => ?_
  obtain ⟨k1, k2, k3⟩ := SrtO.ints_out hi h1 h2
  obtain ⟨ep, he'⟩ := PyProof.Rows.sortedAll_at s.heap its out.toArray
  have hlen : ((out.map SrtO.iv).map V.int).length ≤ sizeLine := by
    rw [List.length_map, k2.length_eq]
    rw [List.length_map] at hz
    exact hz
  exact ⟨.ref _, upd H (s.heap.objs.size + 1) (.lst ((out.map SrtO.iv).map V.int)), I.laid (t' := s.toks) (fun _ _ => PyProof.Rows.sortedAll_old) (Nat.le_succ _) ⟨hlen, out, ep, vals_of_ints k1, he'⟩, rfl, q _ _ k2 k3 (I.hok.fresh (Nat.le_succ _))⟩
end
end L2
namespace K4
open PySem PySem.Spec PyProof.Rows L2
/-! ### the text -/
def topS (i : Nat) : Stmt := PySem.Challenge.pw_stepletters_k34_whole_lots_that_bar.main.body.getD i (.Pass ⟨0, 0, 0, 0⟩)
abbrev sIsWhole : Stmt := topS 1
abbrev sIsInt : Stmt := topS 8
abbrev sBetween : Stmt := topS 9
abbrev sChkB : Stmt := topS 10
abbrev sIsMade : Stmt := topS 16
abbrev sBarLots : Stmt := topS 17
abbrev sCanEnd : Stmt := topS 18
abbrev sIsDeg : Stmt := topS 19
abbrev sChkD : Stmt := topS 20
abbrev sSumTwo : Stmt := topS 21
abbrev sBarring : Stmt := topS 22
abbrev sLots : Stmt := topS 23
abbrev sDoesBar : Stmt := topS 24
abbrev sDice : Stmt := topS 26
abbrev sRoll : Stmt := topS 27
abbrev sPick : Stmt := topS 28
abbrev sShuf : Stmt := topS 29
abbrev sLSums : Stmt := topS 30
abbrev sLMade : Stmt := topS 31
abbrev sLLots : Stmt := topS 32
abbrev sLBar : Stmt := topS 33
abbrev sLBarring : Stmt := topS 34
abbrev sLTop : Stmt := topS 35
abbrev sRenamed : Stmt := topS 36
abbrev sNeeds : Stmt := topS 37
abbrev sMadeR : Stmt := topS 38
abbrev sRight : Stmt := topS 39
abbrev sLaw : Stmt := topS 40
/-- what the top has written -/
structure Txt (K : PySem.W.Frag) (mg : Str → Option Value) : Prop where
  int : mg "int" = none
  bool : mg "bool" = none
  tuple : mg "tuple" = none
  list : mg "list" = none
  isi : mg "isinstance" = none
  len : mg "len" = none
  abs : mg "abs" = none
  max : mg "max" = none
  min : mg "min" = none
  range : mg "range" = none
  repr : mg "repr" = none
  sum : mg "sum" = none
  all : mg "all" = none
  any : mg "any" = none
  zip : mg "zip" = none
  sorted : mg "sorted" = none
  cLIMIT : ∃ t, mg "_LIMIT" = some (.int (10 ^ 60) t)
  cMAXLETTER : ∃ t, mg "MAX_LETTER" = some (.int (40) t)
  cMAXEVENS : ∃ t, mg "MAX_EVENS" = some (.int (6) t)
  cMAXODDS : ∃ t, mg "MAX_ODDS" = some (.int (10) t)
  cMOST : ∃ t, mg "_MOST_MADE" = some (.int (1000) t)
/-! ### the dice -/
/-- a list of three ints, the first one at least 0 -/
def DiceL (L : List V) : Prop := ∃ a b c : Int, L = [.int a, .int b, .int c] ∧ 0 ≤ a
def spRoll : Sp := fun vs H Q _ => ∃ (d : Addr) (n : Int) (L : List V), vs = [.ref d, .int n] ∧ 0 < n ∧ n.natAbs < 2 ^ 500 ∧ H d = some (.lst L) ∧ DiceL L ∧
  ∀ (i : Int) (L' : List V), 0 ≤ i → i < n → DiceL L' → Q (.int i) (upd H d (.lst L'))
theorem scRoll : FnScope ["dice", "total", "found", "one", "two"] ["dice", "total"] (defScope sRoll) := ⟨rfl, rfl, rfl, by decide +kernel, rfl, by decide +kernel, by decide +kernel⟩
theorem bootInt : bootBuiltins "int" = some (.type "int") := by decide +kernel
section
variable {P : Program} {w : World} {K : PySem.W.Frag} {mg : Str → Option Value} {base : Heap}
theorem ok_roll {f : Addr} {fd : FuncData} (F : Fun K "_law_roll" "_law_roll" sRoll f fd) (T : Txt K mg) : FnOk P w K mg base CX0 1 f fd ["dice", "total"] spRoll := by
  refine F.ok scRoll (fun vs H Q E h => ?_) (fun cdv A outer s H vs Q E hr h => ?_)
  · obtain ⟨d, n, L, rfl, _⟩ := h; rfl
  obtain ⟨d, n, L, rfl, hn, hb, hd, ⟨a, b, c, rfl, ha⟩, k⟩ := h
  refine ⟨_, pss_cons (ps_if (pt_cmpR op_gt (pe_ix ix_list (pv 0) pe_int (fun _ _ => rfl)) pe_int (nomark _))
      (pss_cons (ps_set (i := 2) scRoll.nd rfl (.inl rfl) (pe_op op_mod (pe_callTy call_int1 (by rfl) T.int bootInt (pa_cons (pe_ix ix_list (pv 0) pe_int (fun _ _ => rfl)) pa_nil)) (pv 1)))
      (pss_cons (ps_asg (pe_op op_fdivW (pe_ix ix_list (pv 0) pe_int (fun _ _ => rfl)) (pv 1)) (pg_sub (pv 0) pe_int set_list))
      (pss_one (ps_ret (pv 2))))) pss_nil)
    (pss_cons (ps_asg (pe_op op_add (pe_ix ix_list (pv 0) pe_int (fun _ _ => rfl)) pe_int) (pg_sub (pv 0) pe_int set_list))
    (pss_cons (ps_set (i := 3) scRoll.nd rfl (.inl rfl) (pe_op op_mod (pe_callTy call_int1 (by rfl) T.int bootInt (pa_cons (pe_op op_add (pe_ix ix_list (pv 0) pe_int (fun _ _ => rfl)) (pe_op op_mul pe_int (pe_ix ix_list (pv 0) pe_int (fun _ _ => rfl)))) pa_nil)) pe_int))
    (pss_cons (ps_set (i := 4) scRoll.nd rfl (.inl rfl) (pe_op op_add (pe_op op_mul (pe_op op_mod (pe_callTy call_int1 (by rfl) T.int bootInt (pa_cons (pe_op op_add (pe_op op_mul (pv 3) (pv 3)) (pe_op op_mul pe_int (pe_ix ix_list (pv 0) pe_int (fun _ _ => rfl)))) pa_nil)) pe_int) pe_int) (pv 3)))
    (pss_one (ps_ret (pe_op op_mod (pe_callTy call_int1 (by rfl) T.int bootInt (pa_cons (pe_op op_fdiv (pv 4) pe_int) pa_nil)) (pv 1))))))), ?_⟩
  have S := SqL.of (K := K) hd
  refine ⟨_, rfl, d, _, _, _, rfl, rfl, S, rfl, _, _, rfl, rfl, _, rfl, ?_⟩
  refine ite2 (fun c0 => ?_) (fun c0 => ?_)
  · refine ⟨_, rfl, d, _, _, _, rfl, rfl, S, rfl, .inl ⟨_, rfl, _, rfl, _, _, rfl, rfl, hn, ?_⟩⟩
    refine ⟨_, rfl, d, _, _, _, rfl, rfl, S, rfl, _, rfl, _, _, rfl, rfl, wide_div hn hb (by decide) (by decide), _, rfl, d, _, _, 0, rfl, rfl, hd, rfl, _, rfl, ?_⟩
    refine k _ _ (Int.emod_nonneg _ (by omega)) (Int.emod_lt_of_pos _ hn) ⟨_, _, _, rfl, ?_⟩
    exact Int.ediv_nonneg ha (by omega)
  · refine ⟨_, rfl, d, _, _, _, rfl, rfl, S, rfl, _, _, rfl, rfl, _, rfl, d, _, _, 2, rfl, rfl, hd, rfl, ?_⟩
    have S2 := SqL.of (K := K) (upd_same (H := H) (a := d) (o := .lst [.int a, .int b, .int (c + 1)]))
    refine ⟨_, rfl, d, _, _, _, rfl, rfl, S2, rfl, _, rfl, d, _, _, _, rfl, rfl, S2, rfl, _, _, rfl, rfl, .inl ⟨by decide, by decide⟩, _, _, rfl, rfl, .inl ⟨_, rfl, _, _, rfl, rfl, (by show (0 : Int) < 2305843009213693723; decide), ?_⟩⟩
    have m1 := Int.emod_lt_of_pos (b + 67867979 * (c + 1)) (show (0 : Int) < 2305843009213693723 by decide)
    have m0 := Int.emod_nonneg (b + 67867979 * (c + 1)) (show (2305843009213693723 : Int) ≠ 0 by decide)
    generalize ez : (b + 67867979 * (c + 1)) % 2305843009213693723 = z at *
    refine ⟨_, rfl, _, rfl, _, _, rfl, rfl, .inl ⟨by omega, by omega⟩, _, rfl, d, _, _, _, rfl, rfl, S2, rfl, _, _, rfl, rfl, .inl ⟨by decide, by decide⟩, _, _, rfl, rfl, .inl ⟨_, rfl, _, _, rfl, rfl, (by show (0 : Int) < 2305843009213693549; decide), ?_⟩⟩
    have y1 := Int.emod_lt_of_pos (z * z + 103 * (c + 1)) (show (0 : Int) < 2305843009213693549 by decide)
    have y0 := Int.emod_nonneg (z * z + 103 * (c + 1)) (show (2305843009213693549 : Int) ≠ 0 by decide)
    generalize ey : (z * z + 103 * (c + 1)) % 2305843009213693549 = y at *
    refine ⟨_, _, rfl, rfl, .inl ⟨by omega, by omega⟩, _, rfl, _, _, rfl, rfl, ?_⟩
    refine ⟨_, rfl, _, _, rfl, rfl, ⟨by decide, by decide⟩, .inl ⟨_, rfl, _, rfl, _, _, rfl, rfl, hn, ?_⟩⟩
    exact k _ _ (Int.emod_nonneg _ (by omega)) (Int.emod_lt_of_pos _ hn) ⟨_, _, _, rfl, ha⟩
end

theorem bootMax : bootBuiltins "max" = some (.builtin "max") := by decide +kernel
theorem bootAbs : bootBuiltins "abs" = some (.builtin "abs") := by decide +kernel
theorem bootStr : bootBuiltins "str" = some (.type "str") := by decide +kernel
/-! ### making, picking, near -/
def spDice (K : PySem.W.Frag) : Sp := fun vs H Q _ => ∃ (a : Addr) (i : Int) (ns : List Int), vs = [.ref a, .int i] ∧ SqL K H a (ns.map V.int) ∧ 0 ≤ i ∧
  ∀ (L : List V) (p : Addr), DiceL L → H p = none → Q (.ref p) (upd H p (.lst L))
def spPick : Sp := fun vs H Q _ => ∃ (d l : Addr) (xs L : List V), vs = [.ref d, .ref l] ∧ H d = some (.lst L) ∧ DiceL L ∧ H l = some (.lst xs) ∧ l ≠ d ∧ xs ≠ [] ∧ xs.length < 1000 ∧
  ∀ (x : V) (L' : List V), x ∈ xs → DiceL L' → Q x (upd H d (.lst L'))
theorem scDice : FnScope ["script", "spot", "cell", "left"] ["script", "spot"] (defScope sDice) := ⟨rfl, rfl, rfl, by decide +kernel, rfl, by decide +kernel, by decide +kernel⟩
theorem scPick : FnScope ["dice", "items"] ["dice", "items"] (defScope sPick) := ⟨rfl, rfl, rfl, by decide +kernel, rfl, by decide +kernel, by decide +kernel⟩
section
variable {P : Program} {w : World} {K : PySem.W.Frag} {mg : Str → Option Value} {base : Heap}
theorem ok_dice {f : Addr} {fd : FuncData} (F : Fun K "_law_dice" "_law_dice" sDice f fd) (T : Txt K mg) : FnOk P w K mg base CX0 1 f fd ["script", "spot"] (spDice K) := by
  refine F.ok scDice (fun vs H Q E h => ?_) (fun cdv A outer s H vs Q E hr h => ?_)
  · obtain ⟨d, n, L, rfl, _⟩ := h; rfl
  obtain ⟨a, i, ns, rfl, hS, hi, k⟩ := h
  refine ⟨_, pss_cons (ps_set (i := 2) scDice.nd rfl (.inl rfl) (pe_ifExp (pt_cmpR op_lt (pv 1) (pe_callB call_len_seq (by rfl) T.len PySem.boot_len (pa_cons (pv 0) pa_nil)) (nomark _))
      (pe_callTy call_int1 (by rfl) T.int bootInt (pa_cons (pe_ix ix_list (pv 0) (pv 1) (fun _ _ => rfl)) pa_nil)) (pe_op op_add (pe_op op_mul pe_int (pv 1)) pe_int)))
    (pss_cons (ps_set (i := 3) scDice.nd rfl (.inl rfl) (pe_op op_mod (pe_callB (call_max2 rfl) (by rfl) T.max bootMax (pa_cons pe_int (pa_cons (pe_op op_sub (pe_callB call_abs (by rfl) T.abs bootAbs (pa_cons (pv 2) pa_nil)) (pe_op op_pow pe_int pe_int)) pa_nil)))
        (pe_op op_mulW (pe_op op_pow pe_int pe_int) (pe_op op_pow pe_int pe_int))))
    (pss_one (ps_ret (pe_lst (pa_cons (pv 3) (pa_cons (pe_op op_add (pe_op op_add (pe_op op_add (pe_op op_mul (pe_op op_mod (pe_callB call_abs (by rfl) T.abs bootAbs (pa_cons (pv 2) pa_nil)) pe_int) pe_int) (pe_op op_mul pe_int (pv 1)))
        (pe_op op_mul pe_int (pe_callTy call_int1 (by rfl) T.int bootInt (pa_cons (pe_cmpR op_lt (pv 2) pe_int (nomark _)) pa_nil)))) pe_int) (pa_cons pe_int pa_nil))))))), ?_⟩
  have rest : ∀ (c : Int), tSeq (tAsg (tOp (rI (fun _ j => 0 < j) fun i j => .int (i % j)) (tCB (fun xs H Q => ∃ i j, xs = [.int i, .int j] ∧ Q (.int (if j > i then j else i)) H) (tCons (tC (.int 0)) (tCons (tOp (rI0 fun i j => .int (i - j)) (tCB (fun xs H Q => ∃ i, xs = [.int i] ∧ Q (.int (if i < 0 then -i else i)) H) (tCons (tVar 2) tNil)) (tOp (rI CPow fun i j => .int (i ^ j.toNat)) (tC (.int 10)) (tC (.int 17)))) tNil)))
        (tOp (rI CMulW fun i j => .int (i * j)) (tOp (rI CPow fun i j => .int (i ^ j.toNat)) (tC (.int 10)) (tC (.int 58))) (tOp (rI CPow fun i j => .int (i ^ j.toNat)) (tC (.int 10)) (tC (.int 60))))) (gName 3))
      (tRet (tLst (tCons (tVar 3) (tCons (tOp (rI0 fun i j => .int (i + j)) (tOp (rI0 fun i j => .int (i + j)) (tOp (rI0 fun i j => .int (i + j)) (tOp (rI CMul fun i j => .int (i * j)) (tOp (rI (fun _ j => 0 < j) fun i j => .int (i % j)) (tCB (fun xs H Q => ∃ i, xs = [.int i] ∧ Q (.int (if i < 0 then -i else i)) H) (tCons (tVar 2) tNil)) (tC (.int 1152921504606846883))) (tC (.int 67))) (tOp (rI CMul fun i j => .int (i * j)) (tC (.int 937)) (tVar 1)))
        (tOp (rI CMul fun i j => .int (i * j)) (tC (.int 37)) (tCB (fun xs H Q => (∃ i, xs = [.int i] ∧ Q (.int i) H) ∨ ∃ k, xs = [.bl k] ∧ Q (.int (if k then 1 else 0)) H) (tCons (tOp (rI0 fun i j => .bl (decide (i < j))) (tVar 2) (tC (.int 0))) tNil)))) (tC (.int 29))) (tCons (tC (.int 0)) tNil)))))
      { nx := fun _ H' => Q .non H', rt := Q } [some (.ref a), some (.int i), some (.int c), none] H := fun c => by
    have pw : ∀ k : Int, 0 ≤ k → k ≤ 1000000 → CPow 10 k := fun k h1 h2 => ⟨h1, h2, by decide⟩
    refine ⟨_, rfl, _, rfl, _, _, rfl, rfl, pw _ (by decide) (by decide), _, _, rfl, rfl, _, _, rfl, _, _, rfl, rfl, pw _ (by decide) (by decide), _, _, rfl, rfl, pw _ (by decide) (by decide), _, _, rfl, rfl,
      wide_mul (i := 10 ^ (58 : Int).toNat) (j := 10 ^ (60 : Int).toNat) (a := 300) (b := 300) (by decide +kernel) (by decide +kernel) (by decide) (by decide) (by decide), _, _, rfl, rfl, (by show (0 : Int) < 10 ^ (58 : Int).toNat * 10 ^ (60 : Int).toNat; decide +kernel), ?_⟩
    have nn := Int.emod_nonneg (if (if c < 0 then -c else c) - 10 ^ (17 : Int).toNat > 0 then (if c < 0 then -c else c) - 10 ^ (17 : Int).toNat else 0) (show (10 : Int) ^ (58 : Int).toNat * 10 ^ (60 : Int).toNat ≠ 0 by decide +kernel)
    have m1 := Int.emod_lt_of_pos (if c < 0 then -c else c) (show (0 : Int) < 1152921504606846883 by decide)
    have m0 := Int.emod_nonneg (if c < 0 then -c else c) (show (1152921504606846883 : Int) ≠ 0 by decide)
    refine ⟨_, rfl, _, rfl, _, rfl, _, _, rfl, rfl, (by show (0 : Int) < 1152921504606846883; decide), _, _, rfl, rfl, .inr ⟨by decide, by decide⟩, _, rfl, _, _, rfl, rfl, .inl ⟨by decide, by decide⟩, _, _, rfl, rfl, _, rfl, _, _, rfl, rfl, .inr ⟨_, rfl, _, _, rfl, rfl, .inl ⟨by decide, by decide⟩, _, _, rfl, rfl, _, _, rfl, rfl, ?_⟩⟩
    exact ⟨by show 3 ≤ sizeLine; decide, fun p hp => k _ p ⟨_, _, _, rfl, nn⟩ hp⟩
  refine ⟨_, rfl, _, rfl, a, _, rfl, .inl hS, _, _, rfl, rfl, _, rfl, ?_⟩
  refine ite2 (fun c0 => ?_) (fun c0 => ?_)
  · have c1 : i < ((ns.map V.int).length : Int) := of_decide_eq_true c0
    rw [List.length_map] at c1
    have c2 : i.toNat < ns.length := by omega
    have e : (ns.map V.int)[i.toNat]? = some (.int ns[i.toNat]) := by rw [List.getElem?_map, List.getElem?_eq_getElem c2]; rfl
    exact ⟨_, rfl, _, rfl, a, _, _, _, rfl, rfl, hS, at_of (by omega) e, .inl ⟨_, rfl, rest _⟩⟩
  · exact ⟨_, rfl, _, _, rfl, rfl, .inl ⟨by decide, by decide⟩, _, _, rfl, rfl, rest _⟩
theorem ok_pick {f fR : Addr} {fd fdR : FuncData} (F : Fun K "_law_pick" "_law_pick" sPick f fd) (T : Txt K mg) (gR : mg "_law_roll" = some (.ref fR)) (kR : PySem.W.keepIn K (.ref fR) = true) (bR : Binds K fdR ["dice", "total"] [])
    (R : FnOk P w K mg base CX0 1 fR fdR ["dice", "total"] spRoll) : FnOk P w K mg base CX0 2 f fd ["dice", "items"] spPick := by
  refine F.ok scPick (fun vs H Q E h => ?_) (fun cdv A outer s H vs Q E hr h => ?_)
  · obtain ⟨d, n, L, M, rfl, _⟩ := h; rfl
  obtain ⟨d, l, xs, L, rfl, hd, hL, hl, ne, h0, hz, k⟩ := h
  refine ⟨_, pss_one (ps_ret (pe_ix ix_list (pv 1) (pe_call R hr (by rfl) gR kR bR .nil pass0 (pa_cons (pv 0) (pa_cons (pe_callB call_len_seq (by rfl) T.len PySem.boot_len (pa_cons (pv 1) pa_nil)) pa_nil))) (fun _ _ => rfl))), ?_⟩
  have hp : 0 < xs.length := List.length_pos_iff.mpr h0
  refine ⟨_, rfl, _, rfl, _, rfl, l, _, rfl, .inl (SqL.of hl), d, (xs.length : Int), L, rfl, by omega, Nat.lt_trans (by omega : (xs.length : Int).natAbs < 1000) (by decide), hd, hL, fun i L' i0 i1 hL' => ?_⟩
  have hx : xs[i.toNat]? = some xs[i.toNat] := List.getElem?_eq_getElem (by omega)
  exact ⟨l, _, _, _, rfl, rfl, SqL.of (by rw [upd_ne ne]; exact hl), at_of (by omega) hx, k _ L' (List.getElem_mem _) hL'⟩

end
end K4
namespace K4
open PySem PySem.Spec PyProof.Rows L2
/-! ### values of any kind -/
inductive Vk (K : PySem.W.Frag) (H : Hp) : V → Prop
  | non : Vk K H .non
  | bl (b : Bool) : Vk K H (.bl b)
  | int (i : Int) : Vk K H (.int i)
  | str (z : Str) : Vk K H (.str z)
  | tup {a : Addr} {xs : List V} (h : SqT K H a xs) : Vk K H (.ref a)
  | lst {a : Addr} {xs : List V} (h : H a = some (.lst xs)) : Vk K H (.ref a)
  | dic {a : Addr} {kvs : List (Key × V)} (h : H a = some (.dK kvs)) : Vk K H (.ref a)
def isI : V → Bool
  | .int _ => true
  | _ => false
theorem tyT {K : PySem.W.Frag} {H : Hp} {a : Addr} {xs : List V} (h : SqT K H a xs) : TyX K H (.ref a) (.type "tuple") := by
  rcases h with (h | ⟨o, h⟩) | ⟨o, its, n, h1, h2, _⟩
  · exact .base (.tup h)
  · exact .fTuple h
  · exact .kTuple h1 h2
/-- the name of the type, and what isinstance says of int, bool and tuple -/
def isT : V → Bool
  | .ref _ => true
  | _ => false
theorem vk_ty {K : PySem.W.Frag} {H : Hp} {x : V} (h : Vk K H x) : ∃ T : String, TyX K H x (.type T) ∧ ∃ bi bb : Bool, kitB T "int" = some bi ∧ kitB T "bool" = some bb ∧ (bi && !bb) = isI x := by
  cases h with
  | non => exact ⟨"NoneType", .base .non, false, false, by decide +kernel, by decide +kernel, rfl⟩
  | bl b => exact ⟨"bool", .base (.bl _), true, true, by decide +kernel, by decide +kernel, rfl⟩
  | int i => exact ⟨"int", .base (.int _), true, false, by decide +kernel, by decide +kernel, rfl⟩
  | str z => exact ⟨"str", .base (.str _), false, false, by decide +kernel, by decide +kernel, rfl⟩
  | tup h => exact ⟨"tuple", tyT h, false, false, by decide +kernel, by decide +kernel, rfl⟩
  | lst h => exact ⟨"list", .base (.lst h), false, false, by decide +kernel, by decide +kernel, rfl⟩
  | dic h => exact ⟨"dict", .base (.dK h), false, false, by decide +kernel, by decide +kernel, rfl⟩
/-- integers of at most sixty digits -/
def i60 : V → Bool
  | .int i => decide (-(10 ^ 60) < i) && decide (i < 10 ^ 60)
  | _ => false
def spIsWhole (K : PySem.W.Frag) : Sp := fun vs H Q _ => ∃ x : V, vs = [x] ∧ Vk K H x ∧ Q (.bl (isI x)) H
def spIsInt (K : PySem.W.Frag) : Sp := fun vs H Q _ => ∃ x : V, vs = [x] ∧ Vk K H x ∧ Q (.bl (i60 x)) H
theorem scIsWhole : FnScope ["value"] ["value"] (defScope sIsWhole) := ⟨rfl, rfl, rfl, by decide +kernel, rfl, by decide +kernel, by decide +kernel⟩
theorem scIsInt : FnScope ["value"] ["value"] (defScope sIsInt) := ⟨rfl, rfl, rfl, by decide +kernel, rfl, by decide +kernel, by decide +kernel⟩
theorem bootIsi : bootBuiltins "isinstance" = some (.builtin "isinstance") := by decide +kernel
theorem bootBool : bootBuiltins "bool" = some (.type "bool") := by decide +kernel
theorem bootTuple : bootBuiltins "tuple" = some (.type "tuple") := by decide +kernel
def betw (x : V) (a b : Int) : Bool := match x with
  | .int i => i60 (.int i) && (decide (a ≤ i) && decide (i ≤ b))
  | _ => false
def spBetw (K : PySem.W.Frag) : Sp := fun vs H Q _ => ∃ (x : V) (a b : Int), vs = [x, .int a, .int b] ∧ Vk K H x ∧ Q (.bl (betw x a b)) H
theorem scBetw : FnScope ["value", "least", "most"] ["value", "least", "most"] (defScope sBetween) := ⟨rfl, rfl, rfl, by decide +kernel, rfl, by decide +kernel, by decide +kernel⟩
section
variable {P : Program} {w : World} {K : PySem.W.Frag} {mg : Str → Option Value} {base : Heap}
theorem ok_iswhole {f : Addr} {fd : FuncData} (F : Fun K "is_whole" "is_whole" sIsWhole f fd) (T : Txt K mg) : FnOk P w K mg base CX0 1 f fd ["value"] (spIsWhole K) := by
  refine F.ok scIsWhole (fun vs H Q E h => ?_) (fun cdv A outer s H vs Q E hr h => ?_)
  · obtain ⟨a, rfl, _⟩ := h; rfl
  obtain ⟨x, rfl, hx, k⟩ := h
  refine ⟨_, pss_one (ps_ret (pe_and (pe_callB call_isi (by rfl) T.isi bootIsi (pa_cons (pv 0) (pa_cons (pe_bltn (v := .ty "int") (by rfl) T.int bootInt rfl) pa_nil)))
    (pe_one (pe_not (pe_callB call_isi (by rfl) T.isi bootIsi (pa_cons (pv 0) (pa_cons (pe_bltn (v := .ty "bool") (by rfl) T.bool bootBool rfl) pa_nil))))))), ?_⟩
  obtain ⟨Ty, ty, bi, bb, e1, e2, e3⟩ := vk_ty hx
  refine ⟨_, rfl, x, _, _, _, bi, rfl, .ty "int", ty, kit_ty e1, _, rfl, ?_⟩
  cases bi with
  | false =>
    refine iteF ?_
    have e4 : isI x = false := by rw [← e3]; rfl
    rw [← e4]
    exact k
  | true =>
    refine iteT ⟨_, rfl, x, _, _, _, bb, rfl, .ty "bool", ty, kit_ty e2, _, rfl, ?_⟩
    have e4 : isI x = !bb := by rw [← e3]; rfl
    rw [← e4]
    exact k
theorem ok_isint {f fW : Addr} {fd fdW : FuncData} (F : Fun K "is_integer" "is_integer" sIsInt f fd) (T : Txt K mg) (gW : mg "is_whole" = some (.ref fW)) (kW : PySem.W.keepIn K (.ref fW) = true) (bW : Binds K fdW ["value"] [])
    (W : FnOk P w K mg base CX0 1 fW fdW ["value"] (spIsWhole K)) : FnOk P w K mg base CX0 2 f fd ["value"] (spIsInt K) := by
  refine F.ok scIsInt (fun vs H Q E h => ?_) (fun cdv A outer s H vs Q E hr h => ?_)
  · obtain ⟨a, rfl, _⟩ := h; rfl
  obtain ⟨x, rfl, hx, k⟩ := h
  obtain ⟨t, hB⟩ := T.cLIMIT
  refine ⟨_, pss_one (ps_ret (pe_and (pe_call W hr (by rfl) gW kW bW .nil pass0 (pa_cons (pv 0) pa_nil))
    (pe_one (pe_chain op_lt op_lt (pe_un un_neg (pe_glob (v := .int (10 ^ 60)) (by rfl) hB ⟨_, rfl⟩)) (pv 0) (pe_glob (v := .int (10 ^ 60)) (by rfl) hB ⟨_, rfl⟩))))), ?_⟩
  refine ⟨_, rfl, x, rfl, hx, _, rfl, ?_⟩
  cases x with
  | int i =>
    refine iteT ⟨_, rfl, _, rfl, _, _, rfl, rfl, _, rfl, ?_⟩
    have q : Q (.bl (decide (-(10 ^ 60) < i) && decide (i < 10 ^ 60))) H := k
    by_cases c : -(10 ^ 60 : Int) < i
    · rw [decide_eq_true c] at q ⊢
      exact iteT ⟨_, _, rfl, rfl, q⟩
    · rw [decide_eq_false c] at q ⊢
      exact iteF q
  | non => exact iteF k
  | bl b => exact iteF k
  | str z => exact iteF k
  | byt z => exact iteF k
  | flt z => exact iteF k
  | ref a => exact iteF k
  | ty n => exact iteF k
theorem ok_betw {f fW : Addr} {fd fdW : FuncData} (F : Fun K "is_between" "is_between" sBetween f fd) (gW : mg "is_integer" = some (.ref fW)) (kW : PySem.W.keepIn K (.ref fW) = true) (bW : Binds K fdW ["value"] [])
    (W : FnOk P w K mg base CX0 2 fW fdW ["value"] (spIsInt K)) : FnOk P w K mg base CX0 3 f fd ["value", "least", "most"] (spBetw K) := by
  refine F.ok scBetw (fun vs H Q E h => ?_) (fun cdv A outer s H vs Q E hr h => ?_)
  · obtain ⟨a, b, c, rfl, _⟩ := h; rfl
  obtain ⟨x, a, b, rfl, hx, k⟩ := h
  refine ⟨_, pss_one (ps_ret (pe_and (pe_call W hr (by rfl) gW kW bW .nil pass0 (pa_cons (pv 0) pa_nil)) (pe_one (pe_chain op_le op_le (pv 1) (pv 0) (pv 2))))), ?_⟩
  refine ⟨_, rfl, x, rfl, hx, _, rfl, ?_⟩
  cases x with
  | int i =>
    have q : Q (.bl (i60 (.int i) && (decide (a ≤ i) && decide (i ≤ b)))) H := k
    cases c0 : i60 (.int i) with
    | false =>
      rw [c0] at q
      exact iteF q
    | true =>
      rw [c0] at q
      refine iteT ⟨_, rfl, _, rfl, _, _, rfl, rfl, _, rfl, ?_⟩
      by_cases c : a ≤ i
      · rw [decide_eq_true c] at q ⊢
        exact iteT ⟨_, rfl, _, _, rfl, rfl, q⟩
      · rw [decide_eq_false c] at q ⊢
        exact iteF q
  | non => exact iteF k
  | bl b => exact iteF k
  | str z => exact iteF k
  | byt z => exact iteF k
  | flt z => exact iteF k
  | ref a => exact iteF k
  | ty n => exact iteF k
end
end K4
namespace K4
open PySem PySem.Spec PyProof.Rows L2 RZ
theorem _root_.L2.Same.new {H : Hp} {p : Addr} {o : HO} (h : H p = none) : Same H (upd H p o) := fun b u e => by
  rw [upd_ne (ne_of_none e h)]
  exact e
theorem Vk.mono {K : PySem.W.Frag} {H H' : Hp} {x : V} (h : Vk K H x) (s : Same H H') : Vk K H' x := by
  cases h with
  | non => exact .non
  | bl b => exact .bl b
  | int i => exact .int i
  | str z => exact .str z
  | tup h =>
    rcases h with (h | ⟨o, h⟩) | h
    · exact .tup (.inl (.inl (s _ _ h)))
    · exact .tup (.inl (.inr ⟨o, s _ _ h⟩))
    · exact .tup (.inr h)
  | lst h => exact .lst (s _ _ h)
  | dic h => exact .dic (s _ _ h)
theorem tupSame {K : PySem.W.Frag} {H H' : Hp} {a : Addr} {xs : List V} (s : Same H H') (h : SqT K H a xs) : SqT K H' a xs := by
  rcases h with (h | ⟨o, h⟩) | h
  · exact .inl (.inl (s _ _ h))
  · exact .inl (.inr ⟨o, s _ _ h⟩)
  · exact .inr h
theorem bootAll : bootBuiltins "all" = some (.builtin "all") := by decide +kernel
theorem bootSum : bootBuiltins "sum" = some (.builtin "sum") := by decide +kernel
theorem bootList : bootBuiltins "list" = some (.type "list") := by decide +kernel
theorem bootMin : bootBuiltins "min" = some (.builtin "min") := by decide +kernel
theorem take_snoc {α : Type} {xs : List α} {i : Nat} {x : α} (h : xs[i]? = some x) : xs.take (i + 1) = xs.take i ++ [x] := by
  rw [List.take_add_one, h]
  rfl
abbrev iV (L : List Int) : List V := L.map V.int
/-- what a comprehension's walk asks -/
abbrev LcW (J : It) (g : TG) (tt : TT) (te : TE) (vs : List Nat) (σ : L2.St) (H : Hp) (D : Addr) (Qd : Hp → Prop) : Prop :=
  ∃ W : Nat → Nat → Hp → Prop, (∃ m, W 0 m (upd H D (.lst []))) ∧ ∀ i m H1, W i m H1 → (J.stop i H1 ∧ Qd H1) ∨ (J.go i H1 ∧ ∃ Nx : Hp → Prop, (∀ H', Nx H' → ∃ m', m' < m ∧ W (i + 1) m' H') ∧
    ∀ x H', J.yld i H1 x H' → g x (wipe σ vs) H' fun σ2 H2 => wipe σ2 vs = wipe σ vs ∧ tt σ2 H2 fun b H3 => if b = true then te σ2 H3 fun y H4 => ∃ acc, H4 D = some (.lst acc) ∧ acc.length < sizeLine ∧ Nx (upd H4 D (.lst (acc ++ [y]))) else Nx H3)
theorem take_more {α : Type} {xs : List α} {i : Nat} {x : α} (h : xs[i]? = some x) : xs.take (i + 1) = xs.take i ++ [x] := by
  rw [List.take_add_one, h]
  rfl
theorem Same.back {H H1 : Hp} {D : Addr} {o : HO} (s : Same H H1) (hD : H D = none) : Same H (upd H1 D o) := fun b u e => by
  rw [upd_ne (ne_of_none e hD)]
  exact s b u e
/-- over a tuple -/
theorem lc_tup1 {K : PySem.W.Frag} {a : Addr} {xs : List V} {i : Nat} {te : TE} {vs : List Nat} {σ : L2.St} {H : Hp} {D : Addr} {Qd : Hp → Prop} (f : V → V) (hD : H D = none) (ha : SqT K H a xs) (ln : xs.length ≤ 1000)
    (hw : ∀ x : V, wipe ((wipe σ vs).set i (some x)) vs = wipe σ vs)
    (he : ∀ (n : Nat) (x : V) (H1 : Hp) (Q : VK), xs[n]? = some x → Same H H1 → (∀ H2, Same H1 H2 → Q (f x) H2) → te ((wipe σ vs).set i (some x)) H1 Q)
    (hd : ∀ H', Same H H' → H' D = some (.lst (xs.map f)) → Qd H') : LcW (Itt K a) (gName i) tYes te vs σ H D Qd := by
  refine lc_it (walk_tup (xs := xs)) (fun n H' => Same H H' ∧ H' D = some (.lst ((xs.take n).map f))) ⟨Same.new hD, upd_same⟩ (fun _ H' _ p => tupSame p.1 ha) (fun n x H1 H2 hn p y => ?_) fun H' p => ?_
  · obtain ⟨rfl, hx⟩ := y
    refine ⟨hw _, iteT (B := True) (he n x _ _ hx p.1 fun H2 s2 => ?_)⟩
    refine ⟨(xs.take n).map f, s2 _ _ p.2, small1000 (by rw [List.length_map, List.length_take]; omega), Same.back (p.1.trans s2) hD, ?_⟩
    rw [upd_same, take_more hx, List.map_append]
    rfl
  · refine hd H' p.1 ?_
    rw [p.2, List.take_length]
/-- over range(n) -/
theorem lc_range1 {lo : Int} {N i : Nat} {te : TE} {vs : List Nat} {σ : L2.St} {H : Hp} {D : Addr} {Qd : Hp → Prop} (f : Int → V) (hD : H D = none) (ln : N ≤ 1000)
    (hw : ∀ x : V, wipe ((wipe σ vs).set i (some x)) vs = wipe σ vs)
    (he : ∀ (n : Nat) (H1 : Hp) (Q : VK), n < N → Same H H1 → (∀ H2, Same H1 H2 → Q (f (lo + n)) H2) → te ((wipe σ vs).set i (some (.int (lo + n)))) H1 Q)
    (hd : ∀ H', Same H H' → H' D = some (.lst ((List.range N).map fun n : Nat => f (lo + n))) → Qd H') : LcW (Itr lo N) (gName i) tYes te vs σ H D Qd := by
  refine lc_it (walk_range (lo := lo) (n := N)) (fun n H' => Same H H' ∧ H' D = some (.lst ((List.range n).map fun n : Nat => f (lo + n)))) ⟨Same.new hD, upd_same⟩ (fun _ H' _ p => trivial) (fun n x H1 H2 hn p y => ?_) fun H' p => ?_
  · obtain ⟨rfl, rfl⟩ := y
    refine ⟨hw _, iteT (B := True) (he n _ _ hn p.1 fun H2 s2 => ?_)⟩
    refine ⟨(List.range n).map fun n : Nat => f (lo + n), s2 _ _ p.2, small1000 (by rw [List.length_map, List.length_range]; omega), Same.back (p.1.trans s2) hD, ?_⟩
    rw [upd_same, List.range_succ, List.map_append]
    rfl
  · exact hd H' p.1 p.2
def But (d : Addr) (H H' : Hp) : Prop := ∀ b o, b ≠ d → H b = some o → H' b = some o
theorem But.refl (d : Addr) (H : Hp) : But d H H := fun _ _ _ h => h
theorem But.trans {d : Addr} {H H1 H2 : Hp} (a : But d H H1) (b : But d H1 H2) : But d H H2 := fun c o n h => b c o n (a c o n h)
theorem But.dice {d : Addr} {H : Hp} {o : HO} : But d H (upd H d o) := fun c u n h => by rw [upd_ne n]; exact h
theorem But.of {d : Addr} {H H' : Hp} (s : Same H H') : But d H H' := fun b o _ h => s b o h
theorem But.tup {K : PySem.W.Frag} {d a : Addr} {H H' : Hp} {L xs : List V} (k : But d H H') (hd : H d = some (.lst L)) (h : SqT K H a xs) : SqT K H' a xs := by
  rcases h with (h | ⟨o, h⟩) | h
  · refine .inl (.inl (k _ _ (fun z => ?_) h))
    rw [z, hd] at h
    cases h
  · refine .inl (.inr ⟨o, k _ _ (fun z => ?_) h⟩)
    rw [z, hd] at h
    cases h
  · exact .inr h
theorem But.back {d D : Addr} {H H1 : Hp} {o : HO} (k : But d H H1) (hD : H D = none) : But d H (upd H1 D o) := fun b u n e => by
  rw [upd_ne (ne_of_none e hD)]
  exact k b u n e
end K4
namespace K4
open PySem PySem.Spec PyProof.Rows L2 RZ
theorem take_filter {α : Type} {xs : List α} {i : Nat} {x : α} {p : α → Bool} (h : xs[i]? = some x) : (xs.take (i + 1)).filter p = (xs.take i).filter p ++ (if p x = true then [x] else []) := by
  rw [take_more h, List.filter_append, List.filter_cons, List.filter_nil]
/-- over a tuple of ints -/
theorem lc_ints {K : PySem.W.Frag} {a : Addr} {L : List Int} {i : Nat} {tt : TT} {te : TE} {vs : List Nat} {σ : L2.St} {H : Hp} {D : Addr} {Qd : Hp → Prop} (f : Int → V) (p : Int → Bool) (hD : H D = none) (ha : SqT K H a (iV L)) (ln : L.length ≤ 1000)
    (hw : ∀ x : V, wipe ((wipe σ vs).set i (some x)) vs = wipe σ vs)
    (ht : ∀ (d : Int) (H1 : Hp) (Q : Bool → Hp → Prop), d ∈ L → Same H H1 → (∀ H2, Same H1 H2 → Q (p d) H2) → tt ((wipe σ vs).set i (some (.int d))) H1 Q)
    (he : ∀ (d : Int) (H1 : Hp) (Q : VK), d ∈ L → p d = true → Same H H1 → (∀ H2, Same H1 H2 → Q (f d) H2) → te ((wipe σ vs).set i (some (.int d))) H1 Q)
    (hd : ∀ H', Same H H' → H' D = some (.lst ((L.filter p).map f)) → Qd H') : LcW (Itt K a) (gName i) tt te vs σ H D Qd := by
  refine lc_it (walk_tup (xs := iV L)) (fun n H' => Same H H' ∧ H' D = some (.lst (((L.take n).filter p).map f))) ⟨Same.new hD, upd_same⟩ (fun _ H' _ p => tupSame p.1 ha) (fun n x H1 H2 hn q y => ?_) fun H' q => ?_
  · obtain ⟨rfl, hx⟩ := y
    rw [List.getElem?_map] at hx
    obtain ⟨d, hd1, rfl⟩ := Option.map_eq_some_iff.mp hx
    have hm := List.mem_of_getElem? hd1
    refine ⟨hw _, ht d _ _ hm q.1 fun H2 s2 => ?_⟩
    cases c : p d with
    | true =>
      refine iteT (he d _ _ hm c (q.1.trans s2) fun H3 s3 => ?_)
      have le := List.length_filter_le p (L.take n)
      rw [List.length_take] at le
      refine ⟨((L.take n).filter p).map f, (s2.trans s3) _ _ q.2, small1000 (by rw [List.length_map]; omega), Same.back (q.1.trans (s2.trans s3)) hD, ?_⟩
      rw [upd_same, take_filter hd1, c, if_pos rfl, List.map_append]
      rfl
    | false =>
      refine iteF ⟨q.1.trans s2, ?_⟩
      rw [take_filter hd1, c, if_neg Bool.false_ne_true, List.append_nil]
      exact s2 _ _ q.2
  · refine hd H' q.1 ?_
    rw [q.2, List.length_map, List.take_length]
/-- over a list of ints -/
theorem lc_intsL {K : PySem.W.Frag} {a : Addr} {L : List Int} {i : Nat} {tt : TT} {te : TE} {vs : List Nat} {σ : L2.St} {H : Hp} {D : Addr} {Qd : Hp → Prop} (f : Int → V) (p : Int → Bool) (hD : H D = none) (ha : SqL K H a (iV L)) (ln : L.length ≤ 1000)
    (hw : ∀ x : V, wipe ((wipe σ vs).set i (some x)) vs = wipe σ vs)
    (ht : ∀ (d : Int) (H1 : Hp) (Q : Bool → Hp → Prop), d ∈ L → Same H H1 → (∀ H2, Same H1 H2 → Q (p d) H2) → tt ((wipe σ vs).set i (some (.int d))) H1 Q)
    (he : ∀ (d : Int) (H1 : Hp) (Q : VK), d ∈ L → p d = true → Same H H1 → (∀ H2, Same H1 H2 → Q (f d) H2) → te ((wipe σ vs).set i (some (.int d))) H1 Q)
    (hd : ∀ H', Same H H' → H' D = some (.lst ((L.filter p).map f)) → Qd H') : LcW (Itl K a) (gName i) tt te vs σ H D Qd := by
  refine lc_it (walk_list (xs := iV L)) (fun n H' => Same H H' ∧ H' D = some (.lst (((L.take n).filter p).map f))) ⟨Same.new hD, upd_same⟩ (fun _ H' _ p => p.1.seq ha) (fun n x H1 H2 hn q y => ?_) fun H' q => ?_
  · obtain ⟨rfl, hx⟩ := y
    rw [List.getElem?_map] at hx
    obtain ⟨d, hd1, rfl⟩ := Option.map_eq_some_iff.mp hx
    have hm := List.mem_of_getElem? hd1
    refine ⟨hw _, ht d _ _ hm q.1 fun H2 s2 => ?_⟩
    cases c : p d with
    | true =>
      refine iteT (he d _ _ hm c (q.1.trans s2) fun H3 s3 => ?_)
      have le := List.length_filter_le p (L.take n)
      rw [List.length_take] at le
      refine ⟨((L.take n).filter p).map f, (s2.trans s3) _ _ q.2, small1000 (by rw [List.length_map]; omega), Same.back (q.1.trans (s2.trans s3)) hD, ?_⟩
      rw [upd_same, take_filter hd1, c, if_pos rfl, List.map_append]
      rfl
    | false =>
      refine iteF ⟨q.1.trans s2, ?_⟩
      rw [take_filter hd1, c, if_neg Bool.false_ne_true, List.append_nil]
      exact s2 _ _ q.2
  · refine hd H' q.1 ?_
    rw [q.2, List.length_map, List.take_length]
theorem tv_mono {K : PySem.W.Frag} {H H' : Hp} {xs : List V} {ls : List (List Int)} (h : TupsV K H xs ls) (s : Same H H') : TupsV K H' xs ls := Paired.mapP h fun _ _ ⟨t, e, q⟩ => ⟨t, e, tupSame s q⟩
theorem tv_get {K : PySem.W.Frag} {H : Hp} {x : V} : ∀ {n : Nat} {xs : List V} {ls : List (List Int)}, TupsV K H xs ls → xs[n]? = some x → ∃ t l, x = .ref t ∧ ls[n]? = some l ∧ SqT K H t (iV l)
  | 0, _, _, .cons ⟨t, e, q⟩ _, h => by
    cases h
    exact ⟨t, _, e, rfl, q⟩
  | n + 1, _ :: xs, _, .cons _ r, h => tv_get (n := n) r h
theorem tv_len {K : PySem.W.Frag} {H : Hp} {xs : List V} {ls : List (List Int)} (h : TupsV K H xs ls) : xs.length = ls.length := Paired.length h
/-- over a list of tuples of ints: the ones that pass, as they are led -/
theorem lc_tupsL {K : PySem.W.Frag} {a : Addr} {xs : List V} {ls : List (List Int)} {i : Nat} {tt : TT} {te : TE} {vs : List Nat} {σ : L2.St} {H : Hp} {D : Addr} {Qd : Hp → Prop} (g : List Int → List Int) (p : List Int → Bool) (hD : H D = none) (ha : H a = some (.lst xs)) (hx : TupsV K H xs ls) (ln : ls.length ≤ 1000)
    (hw : ∀ x : V, wipe ((wipe σ vs).set i (some x)) vs = wipe σ vs)
    (ht : ∀ (t : Addr) (l : List Int) (H1 : Hp) (Q : Bool → Hp → Prop), l ∈ ls → SqT K H1 t (iV l) → Same H H1 → (∀ H2, Same H1 H2 → Q (p l) H2) → tt ((wipe σ vs).set i (some (.ref t))) H1 Q)
    (he : ∀ (t : Addr) (l : List Int) (H1 : Hp) (Q : VK), l ∈ ls → SqT K H1 t (iV l) → p l = true → Same H H1 → (∀ H2 t2, Same H1 H2 → SqT K H2 t2 (iV (g l)) → Q (.ref t2) H2) → te ((wipe σ vs).set i (some (.ref t))) H1 Q)
    (hd : ∀ H' ys, Same H H' → H' D = some (.lst ys) → TupsV K H' ys ((ls.filter p).map g) → Qd H') : LcW (Itl K a) (gName i) tt te vs σ H D Qd := by
  have lx := tv_len hx
  refine lc_it (walk_list (xs := xs)) (fun n H' => Same H H' ∧ ∃ ys, H' D = some (.lst ys) ∧ TupsV K H' ys (((ls.take n).filter p).map g)) ⟨Same.new hD, [], upd_same, .nil⟩ (fun _ H' _ p => SqL.of (p.1 _ _ ha)) (fun n x H1 H2 hn q y => ?_) fun H' q => ?_
  · obtain ⟨rfl, hy⟩ := y
    obtain ⟨q1, ys, q2, q3⟩ := q
    obtain ⟨t, l, rfl, hl, hT⟩ := tv_get (tv_mono hx q1) hy
    have hm := List.mem_of_getElem? hl
    refine ⟨hw _, ht t l _ _ hm hT q1 fun H2 s2 => ?_⟩
    cases c : p l with
    | true =>
      refine iteT (he t l _ _ hm (tupSame s2 hT) c (q1.trans s2) fun H3 t2 s3 h3 => ?_)
      have le := List.length_filter_le p (ls.take n)
      rw [List.length_take] at le
      have ly := tv_len q3
      rw [List.length_map] at ly
      have hD3 := (s2.trans s3) _ _ q2
      have st : ∀ b u, b ≠ D → H3 b = some u → upd H3 D (.lst (ys ++ [.ref t2])) b = some u := fun b u nb e => by rw [upd_ne nb]; exact e
      have tk : ∀ {b : Addr} {l : List Int}, SqT K H3 b (iV l) → SqT K (upd H3 D (.lst (ys ++ [.ref t2]))) b (iV l) := fun {b l} h => by
        rcases h with (h | ⟨o, h⟩) | h
        · exact .inl (.inl (st _ _ (ne_of h hD3 (by intro z; cases z)) h))
        · exact .inl (.inr ⟨o, st _ _ (ne_of h hD3 (by intro z; cases z)) h⟩)
        · exact .inr h
      refine ⟨ys, hD3, small1000 (by omega), Same.back (q1.trans (s2.trans s3)) hD, ys ++ [.ref t2], upd_same, ?_⟩
      rw [take_filter hl, c, if_pos rfl, List.map_append]
      exact Paired.snoc (Paired.mapP (tv_mono q3 (s2.trans s3)) fun _ _ ⟨t', e, z⟩ => ⟨t', e, tk z⟩) ⟨t2, rfl, tk h3⟩
    | false =>
      refine iteF ⟨q1.trans s2, ys, s2 _ _ q2, ?_⟩
      rw [take_filter hl, c, if_neg Bool.false_ne_true, List.append_nil]
      exact tv_mono q3 s2
  · obtain ⟨q1, ys, q2, q3⟩ := q
    refine hd H' ys q1 q2 ?_
    rw [lx, List.take_length] at q3
    exact q3
/-- over a tuple of tuples of ints -/
theorem lc_tupsT {K : PySem.W.Frag} {a : Addr} {xs : List V} {ls : List (List Int)} {i : Nat} {tt : TT} {te : TE} {vs : List Nat} {σ : L2.St} {H : Hp} {D : Addr} {Qd : Hp → Prop} (g : List Int → List Int) (p : List Int → Bool) (hD : H D = none) (ha : SqT K H a xs) (hx : TupsV K H xs ls) (ln : ls.length ≤ 1000)
    (hw : ∀ x : V, wipe ((wipe σ vs).set i (some x)) vs = wipe σ vs)
    (ht : ∀ (t : Addr) (l : List Int) (H1 : Hp) (Q : Bool → Hp → Prop), l ∈ ls → SqT K H1 t (iV l) → Same H H1 → (∀ H2, Same H1 H2 → Q (p l) H2) → tt ((wipe σ vs).set i (some (.ref t))) H1 Q)
    (he : ∀ (t : Addr) (l : List Int) (H1 : Hp) (Q : VK), l ∈ ls → SqT K H1 t (iV l) → p l = true → Same H H1 → (∀ H2 t2, Same H1 H2 → SqT K H2 t2 (iV (g l)) → Q (.ref t2) H2) → te ((wipe σ vs).set i (some (.ref t))) H1 Q)
    (hd : ∀ H' ys, Same H H' → H' D = some (.lst ys) → TupsV K H' ys ((ls.filter p).map g) → Qd H') : LcW (Itt K a) (gName i) tt te vs σ H D Qd := by
  have lx := tv_len hx
  refine lc_it (walk_tup (xs := xs)) (fun n H' => Same H H' ∧ ∃ ys, H' D = some (.lst ys) ∧ TupsV K H' ys (((ls.take n).filter p).map g)) ⟨Same.new hD, [], upd_same, .nil⟩ (fun _ H' _ p => tupSame p.1 ha) (fun n x H1 H2 hn q y => ?_) fun H' q => ?_
  · obtain ⟨rfl, hy⟩ := y
    obtain ⟨q1, ys, q2, q3⟩ := q
    obtain ⟨t, l, rfl, hl, hT⟩ := tv_get (tv_mono hx q1) hy
    have hm := List.mem_of_getElem? hl
    refine ⟨hw _, ht t l _ _ hm hT q1 fun H2 s2 => ?_⟩
    cases c : p l with
    | true =>
      refine iteT (he t l _ _ hm (tupSame s2 hT) c (q1.trans s2) fun H3 t2 s3 h3 => ?_)
      have le := List.length_filter_le p (ls.take n)
      rw [List.length_take] at le
      have ly := tv_len q3
      rw [List.length_map] at ly
      have hD3 := (s2.trans s3) _ _ q2
      have st : ∀ b u, b ≠ D → H3 b = some u → upd H3 D (.lst (ys ++ [.ref t2])) b = some u := fun b u nb e => by rw [upd_ne nb]; exact e
      have tk : ∀ {b : Addr} {l : List Int}, SqT K H3 b (iV l) → SqT K (upd H3 D (.lst (ys ++ [.ref t2]))) b (iV l) := fun {b l} h => by
        rcases h with (h | ⟨o, h⟩) | h
        · exact .inl (.inl (st _ _ (ne_of h hD3 (by intro z; cases z)) h))
        · exact .inl (.inr ⟨o, st _ _ (ne_of h hD3 (by intro z; cases z)) h⟩)
        · exact .inr h
      refine ⟨ys, hD3, small1000 (by omega), Same.back (q1.trans (s2.trans s3)) hD, ys ++ [.ref t2], upd_same, ?_⟩
      rw [take_filter hl, c, if_pos rfl, List.map_append]
      exact Paired.snoc (Paired.mapP (tv_mono q3 (s2.trans s3)) fun _ _ ⟨t', e, z⟩ => ⟨t', e, tk z⟩) ⟨t2, rfl, tk h3⟩
    | false =>
      refine iteF ⟨q1.trans s2, ys, s2 _ _ q2, ?_⟩
      rw [take_filter hl, c, if_neg Bool.false_ne_true, List.append_nil]
      exact tv_mono q3 s2
  · obtain ⟨q1, ys, q2, q3⟩ := q
    refine hd H' ys q1 q2 ?_
    rw [lx, List.take_length] at q3
    exact q3
theorem bootAny : bootBuiltins "any" = some (.builtin "any") := by decide +kernel
theorem bootSorted : bootBuiltins "sorted" = some (.builtin "sorted") := by decide +kernel
theorem inV_ints {k : Int} : ∀ {L : List Int}, inV (.int k) (iV L) = L.contains k
  | [] => rfl
  | d :: L => by
    have ih := inV_ints (k := k) (L := L)
    show (eqV (.int d) (.int k) || inV (.int k) (iV L)) = _
    rw [ih, List.contains_cons]
    congr 1
    show (d == k) = (k == d)
    exact BEq.comm
theorem flat_ints : ∀ {L : List Int}, (iV L).all flatV = true
  | [] => rfl
  | d :: L => by
    show (flatV (.int d) && (iV L).all flatV) = true
    rw [flat_ints]
    rfl
theorem dInt (a b : Int) : decide (V.int a = V.int b) = decide (a = b) := decide_eq_decide.mpr ⟨fun y => V.int.inj y, fun y => by rw [y]⟩
theorem lstSame {K : PySem.W.Frag} {H H' : Hp} {a : Addr} {xs : List V} (s : Same H H') (h : SqL K H a xs) : SqL K H' a xs := s.seq h
end K4
namespace K4
open PySem PySem.Spec PyProof.Rows L2 RZ
/-! ### the program: checks -/
def spChkB (K : PySem.W.Frag) : Sp := fun vs H Q _ => ∃ (i a b : Int), vs = [.int i, .int a, .int b] ∧ a ≤ i ∧ i ≤ b ∧ 0 ≤ i ∧ i ≤ 1000 ∧ Q .non H
def spIsDeg (K : PySem.W.Frag) : Sp := fun vs H Q _ => ∃ (a : Addr) (L : List Int) (n lo hi : Int), vs = [.ref a, .int n, .int lo, .int hi] ∧ SqT K H a (iV L) ∧ (L.length : Int) ≤ n ∧ L.length ≤ 100 ∧ 0 ≤ lo ∧ hi ≤ 1000 ∧ (∀ d ∈ L, lo ≤ d ∧ d ≤ hi) ∧ ∀ H', Same H H' → Q (.bl true) H'
/-- right degrees: even ones, odd ones -/
structure Ev (E : List Int) : Prop where
  len : E.length ≤ 6
  inn : ∀ e ∈ E, 2 ≤ e ∧ e ≤ 40
  par : ∀ e ∈ E, e % 2 = 0
structure Od (O : List Int) : Prop where
  len : O.length ≤ 10
  inn : ∀ e ∈ O, 3 ≤ e ∧ e ≤ 40
  par : ∀ e ∈ O, e % 2 = 1
def spChkD (K : PySem.W.Frag) : Sp := fun vs H Q _ => ∃ (a b : Addr) (E O : List Int), vs = [.ref a, .ref b] ∧ SqT K H a (iV E) ∧ Ev E ∧ SqT K H b (iV O) ∧ Od O ∧ ∀ H', Same H H' → Q .non H'
theorem scChkB : FnScope ["value", "least", "most"] ["value", "least", "most"] (defScope sChkB) := ⟨rfl, rfl, rfl, by decide +kernel, rfl, by decide +kernel, by decide +kernel⟩
theorem scIsDeg : FnScope ["value", "many", "least", "most", "degree"] ["value", "many", "least", "most"] (defScope sIsDeg) := ⟨rfl, rfl, rfl, by decide +kernel, rfl, by decide +kernel, by decide +kernel⟩
theorem scChkD : FnScope ["evens", "odds", "degree"] ["evens", "odds"] (defScope sChkD) := ⟨rfl, rfl, rfl, by decide +kernel, rfl, by decide +kernel, by decide +kernel⟩
theorem i60_small {i : Int} (h0 : 0 ≤ i) (h1 : i ≤ 1000) : i60 (.int i) = true := by
  show (decide (-(10 ^ 60) < i) && decide (i < 10 ^ 60)) = true
  rw [decide_eq_true (by omega), decide_eq_true (by omega)]
  rfl
theorem betw_small {i a b : Int} (h0 : 0 ≤ i) (h1 : i ≤ 1000) (ha : a ≤ i) (hb : i ≤ b) : betw (.int i) a b = true := by
  show (i60 (.int i) && (decide (a ≤ i) && decide (i ≤ b))) = true
  rw [i60_small h0 h1, decide_eq_true ha, decide_eq_true hb]
  rfl
theorem all_true {α : Type} {L : List α} : ((L.map fun _ => true).all id) = true := by
  rw [List.all_map, List.all_eq_true]
  intro _ _
  rfl
theorem any_false {α : Type} {L : List α} : ((L.map fun _ => false).any id) = false := by
  rw [List.any_map, List.any_eq_false]
  intro _ _
  exact Bool.false_ne_true
theorem filter_yes {L : List Int} : L.filter (fun _ => true) = L := List.filter_eq_self.mpr fun _ _ => rfl
section
variable {P : Program} {w : World} {K : PySem.W.Frag} {mg : Str → Option Value} {base : Heap} {fB fD : Addr} {dB dD : FuncData}
theorem ok_chkb {f : Addr} {fd : FuncData} (F : Fun K "check_between" "check_between" sChkB f fd) (gB : mg "is_between" = some (.ref fB)) (kB : PySem.W.keepIn K (.ref fB) = true) (bB : Binds K dB ["value", "least", "most"] [])
    (B : FnOk P w K mg base CX0 3 fB dB ["value", "least", "most"] (spBetw K)) : FnOk P w K mg base CX0 4 f fd ["value", "least", "most"] (spChkB K) := by
  refine F.ok scChkB (fun vs H Q E h => ?_) (fun cdv A outer s H vs Q E hr h => ?_)
  · obtain ⟨i, a, b, rfl, _⟩ := h; rfl
  obtain ⟨i, a, b, rfl, ha, hb, h0, h1, k⟩ := h
  refine ⟨_, pss_one (ps_if (pt_not (pt_val (pe_call B hr (by rfl) gB kB bB .nil pass0 (pa_cons (pv 0) (pa_cons (pv 1) (pa_cons (pv 2) pa_nil)))))) pss_never pss_nil), ?_⟩
  refine ⟨_, rfl, _, rfl, _, rfl, .int i, a, b, rfl, .int i, _, rfl, ?_⟩
  rw [betw_small h0 h1 ha hb]
  exact iteF k
theorem ok_isdeg {f : Addr} {fd : FuncData} (F : Fun K "_is_degrees" "_is_degrees" sIsDeg f fd) (T : Txt K mg) (gB : mg "is_between" = some (.ref fB)) (kB : PySem.W.keepIn K (.ref fB) = true) (bB : Binds K dB ["value", "least", "most"] [])
    (B : FnOk P w K mg base CX0 3 fB dB ["value", "least", "most"] (spBetw K)) : FnOk P w K mg base CX0 4 f fd ["value", "many", "least", "most"] (spIsDeg K) := by
  refine F.ok scIsDeg (fun vs H Q E h => ?_) (fun cdv A outer s H vs Q E hr h => ?_)
  · obtain ⟨a, L, n, lo, hi, rfl, _⟩ := h; rfl
  obtain ⟨a, L, n, lo, hi, rfl, ha, hn, ln, h0, h1, hL, k⟩ := h
  refine ⟨_, pss_cons (ps_if (PW.pt (pw_or (pt_not (pt_val (pe_callB call_isi (by rfl) T.isi bootIsi (pa_cons (pv 0) (pa_cons (pe_bltn (v := .ty "tuple") (by rfl) T.tuple bootTuple rfl) pa_nil)))))
        (pw_or1 (pt_cmpR op_gt (pe_callB call_len_seq (by rfl) T.len PySem.boot_len (pa_cons (pv 0) pa_nil)) (pv 1) (nomark _))))) (pss_one (ps_ret pe_bl)) pss_nil)
    (pss_one (ps_ret (pe_callB (cr_all rfl) (by rfl) T.all bootAll (pa_cons (pe_lc (own := [("degree", 4)]) (g := gName 4) rfl scIsDeg.nd (pi_tup (pv 0)) (blkOk_by (N := ["value", "many", "least", "most", "degree"]) (sc := defScope sIsDeg) (by decide +kernel)) (fun _ _ _ _ _ => pg_name (i := 4) scIsDeg.nd rfl (Or.inl rfl)) (fun _ _ _ _ _ => pts_nil)
      (fun _ _ _ _ _ => pe_call B hr (by rfl) gB kB bB .nil pass0 (by exact (pa_cons (pv 4) (pa_cons (pv 2) (pa_cons (pv 3) pa_nil)))))) pa_nil)))), ?_⟩
  refine ⟨_, rfl, _, _, _, _, true, rfl, .ty "tuple", tyT ha, kit_ty (by decide +kernel), _, rfl, iteF ⟨_, rfl, _, _, rfl, .inr ha, _, rfl, _, _, rfl, rfl, _, rfl, ?_⟩⟩
  rw [decide_eq_false (by rw [List.length_map]; omega)]
  refine iteF ⟨_, rfl, a, rfl, ⟨_, ha⟩, fun D hD => lc_ints (K := K) (a := a) (L := L) (fun _ => .bl true) (fun _ => true) hD ha (by omega) (fun _ => rfl) (fun d H1 Q hm s q => q H1 (Same.refl _)) (fun d H1 Q hm _ s q => ?_) fun H' s hD' => ?_⟩
  · have hd := hL d hm
    refine ⟨_, rfl, _, rfl, _, rfl, .int d, lo, hi, rfl, .int d, ?_⟩
    rw [betw_small (by omega) (by omega) hd.1 hd.2]
    exact q H1 (Same.refl _)
  · refine ⟨D, L.map fun _ => true, rfl, SqL.of ?_, ?_⟩
    · rw [hD', filter_yes, List.map_map]
      rfl
    · rw [all_true]
      exact k H' s
theorem ok_chkd {f : Addr} {fd : FuncData} (F : Fun K "_check_degrees" "_check_degrees" sChkD f fd) (T : Txt K mg) (gD : mg "_is_degrees" = some (.ref fD)) (kD : PySem.W.keepIn K (.ref fD) = true) (bD : Binds K dD ["value", "many", "least", "most"] [])
    (FD : FnOk P w K mg base CX0 4 fD dD ["value", "many", "least", "most"] (spIsDeg K)) : FnOk P w K mg base CX0 5 f fd ["evens", "odds"] (spChkD K) := by
  refine F.ok scChkD (fun vs H Q E h => ?_) (fun cdv A outer s H vs Q E hr h => ?_)
  · obtain ⟨a, b, E', O, rfl, _⟩ := h; rfl
  obtain ⟨a, b, EV, OD, rfl, ha, hE, hb, hO, k⟩ := h
  obtain ⟨t1, m1⟩ := T.cMAXEVENS
  obtain ⟨t2, m2⟩ := T.cMAXLETTER
  obtain ⟨t3, m3⟩ := T.cMAXODDS
  refine ⟨_, pss_cons (ps_if (PW.pt (pw_or (pt_not (pt_val (pe_call FD hr (by rfl) gD kD bD .nil pass0 (pa_cons (pv 0) (pa_cons (pe_glob (v := .int 6) (by rfl) m1 ⟨_, rfl⟩) (pa_cons pe_int (pa_cons (pe_glob (v := .int 40) (by rfl) m2 ⟨_, rfl⟩) pa_nil)))))))
        (pw_or1 (pt_val (pe_callB (cr_any rfl) (by rfl) T.any bootAny (pa_cons (pe_lc (own := [("degree", 2)]) (g := gName 2) rfl scChkD.nd (pi_tup (pv 0)) (blkOk_by (N := ["evens", "odds", "degree"]) (sc := defScope sChkD) (by decide +kernel)) (fun _ _ _ _ _ => pg_name (i := 2) scChkD.nd rfl (Or.inl rfl)) (fun _ _ _ _ _ => pts_nil)
          (fun _ _ _ _ _ => pe_cmpR op_eq (pe_op op_mod (pv 2) pe_int) pe_int (nomark _))) pa_nil)))))) pss_never pss_nil)
    (pss_one (ps_if (PW.pt (pw_or (pt_not (pt_val (pe_call FD hr (by rfl) gD kD bD .nil pass0 (pa_cons (pv 1) (pa_cons (pe_glob (v := .int 10) (by rfl) m3 ⟨_, rfl⟩) (pa_cons pe_int (pa_cons (pe_glob (v := .int 40) (by rfl) m2 ⟨_, rfl⟩) pa_nil)))))))
        (pw_or1 (pt_val (pe_callB (cr_any rfl) (by rfl) T.any bootAny (pa_cons (pe_lc (own := [("degree", 2)]) (g := gName 2) rfl scChkD.nd (pi_tup (pv 1)) (blkOk_by (N := ["evens", "odds", "degree"]) (sc := defScope sChkD) (by decide +kernel)) (fun _ _ _ _ _ => pg_name (i := 2) scChkD.nd rfl (Or.inl rfl)) (fun _ _ _ _ _ => pts_nil)
          (fun _ _ _ _ _ => pe_cmpR op_eq (pe_op op_mod (pv 2) pe_int) pe_int (nomark _))) pa_nil)))))) pss_never pss_nil)), ?_⟩
  have hl := hE.len
  have hl2 := hO.len
  refine ⟨_, rfl, a, EV, 6, 2, 40, rfl, ha, by omega, by omega, by decide, by decide, hE.inn, fun H1 s1 => ⟨_, rfl, iteF ⟨_, rfl, a, rfl, ⟨_, tupSame s1 ha⟩, fun D hD => lc_ints (K := K) (a := a) (L := EV) (fun _ => .bl false) (fun _ => true) hD (tupSame s1 ha) (by omega) (fun _ => rfl) (fun d H2 Q hm s q => q H2 (Same.refl _)) (fun d H2 Q hm _ s q => ?_) fun H2 s2 hD2 => ?_⟩⟩⟩
  · refine ⟨_, rfl, _, _, rfl, rfl, (by show (0 : Int) < 2; decide), rfl, ?_⟩
    have e := hE.par d hm
    rw [dInt, decide_eq_false (by omega)]
    exact q H2 (Same.refl _)
  refine ⟨D, EV.map fun _ => false, rfl, SqL.of (by rw [hD2, filter_yes, List.map_map]; rfl), _, rfl, ?_⟩
  rw [any_false]
  have s12 := s1.trans s2
  refine iteF ⟨_, rfl, b, OD, 10, 3, 40, rfl, tupSame s12 hb, by omega, by omega, by decide, by decide, hO.inn, fun H3 s3 => ⟨_, rfl, iteF ⟨_, rfl, b, rfl, ⟨_, tupSame (s12.trans s3) hb⟩, fun D' hD' => lc_ints (K := K) (a := b) (L := OD) (fun _ => .bl false) (fun _ => true) hD' (tupSame (s12.trans s3) hb) (by omega) (fun _ => rfl) (fun d H2 Q hm s q => q H2 (Same.refl _)) (fun d H2 Q hm _ s q => ?_) fun H4 s4 hD4 => ?_⟩⟩⟩
  · refine ⟨_, rfl, _, _, rfl, rfl, (by show (0 : Int) < 2; decide), rfl, ?_⟩
    have e := hO.par d hm
    rw [dInt, decide_eq_false (by omega)]
    exact q H2 (Same.refl _)
  refine ⟨D', OD.map fun _ => false, rfl, SqL.of (by rw [hD4, filter_yes, List.map_map]; rfl), _, rfl, ?_⟩
  rw [any_false]
  exact iteF (k H4 (s12.trans (s3.trans s4)))
end
end K4
namespace K4
open PySem PySem.Spec PyProof.Rows L2 RZ
def sumsL (D : List Int) (N i : Nat) : List V := (tab D i ++ List.replicate (N + 1 - i) false).map V.bl
theorem sumsL_len {D : List Int} {N i : Nat} (h : i ≤ N + 1) : (sumsL D N i).length = N + 1 := by
  unfold sumsL
  rw [List.length_map, List.length_append, tab_len, List.length_replicate]
  omega
theorem sumsL_get {D : List Int} {N i j : Nat} (h : j < i) : (sumsL D N i)[j]? = some (.bl (rch D j)) := by
  unfold sumsL
  rw [List.getElem?_map, List.getElem?_append_left (by rw [tab_len]; exact h), tab_get D h]
  rfl
theorem sumsL_set {D : List Int} {N i : Nat} (h : i ≤ N) : (sumsL D N i).set i (.bl (rch D i)) = sumsL D N (i + 1) := by
  unfold sumsL
  obtain ⟨m, hm⟩ : ∃ m, N + 1 - i = m + 1 := ⟨N - i, by omega⟩
  have e : tab D (i + 1) = tab D i ++ [rch D i] := rfl
  rw [hm, show N + 1 - (i + 1) = m by omega, e, List.replicate_succ, List.map_append, List.set_append_right _ _ (by rw [List.length_map, tab_len]; exact Nat.le_refl _), List.length_map, tab_len, Nat.sub_self, List.append_assoc, List.map_append]
  rfl
theorem made_any {D : List Int} {k : Nat} (h1 : ∀ d ∈ D, 1 ≤ d) : (((D.filter fun d => decide (d < (k : Int))).map fun d => rch D ((k : Int) - d).toNat).any id) = made D k := by
  rw [Bool.eq_iff_iff, made_iff h1, List.any_map, List.any_eq_true]
  refine ⟨fun ⟨d, hd, q⟩ => ?_, fun ⟨d, hd, h2, q⟩ => ⟨d, List.mem_filter.mpr ⟨hd, decide_eq_true h2⟩, q⟩⟩
  obtain ⟨a, b⟩ := List.mem_filter.mp hd
  exact ⟨d, a, of_decide_eq_true b, q⟩
def spSumTwo (K : PySem.W.Frag) : Sp := fun vs H Q _ => ∃ (a : Addr) (D : List Int) (n : Int), vs = [.int n, .ref a] ∧ SqT K H a (iV D) ∧ D.length ≤ 100 ∧ (∀ d ∈ D, 1 ≤ d ∧ d ≤ 1000) ∧ 0 ≤ n ∧ n ≤ 1000 ∧ ∀ H', Same H H' → Q (.bl (made D n.toNat)) H'
theorem scSumTwo : FnScope ["number", "degrees", "sums", "at", "degree"] ["number", "degrees"] (defScope sSumTwo) := ⟨rfl, rfl, rfl, by decide +kernel, rfl, by decide +kernel, by decide +kernel⟩
section
variable {P : Program} {w : World} {K : PySem.W.Frag} {mg : Str → Option Value} {base : Heap} {fB fD : Addr} {dB dD : FuncData}
theorem ok_sumtwo {f : Addr} {fd : FuncData} (F : Fun K "_is_sum_of_two" "_is_sum_of_two" sSumTwo f fd) (T : Txt K mg) : FnOk P w K mg base CX0 1 f fd ["number", "degrees"] (spSumTwo K) := by
  refine F.ok scSumTwo (fun vs H Q E h => ?_) (fun cdv A outer s H vs Q E hr h => ?_)
  · obtain ⟨a, D, n, rfl, _⟩ := h; rfl
  obtain ⟨a, D, n, rfl, ha, ln, hD, h0, h1, k⟩ := h
  refine ⟨_, pss_cons (ps_set (i := 2) scSumTwo.nd rfl (.inr rfl) (pe_op op_rep (pe_lst (pa_cons pe_bl pa_nil)) (pe_op op_add (pv 0) pe_int)))
    (pss_cons (ps_for PassesOwn.never rfl (pi_range1 rfl T.range (pa_cons (pv 0) pa_nil)) (pg_name (i := 3) scSumTwo.nd rfl (.inr rfl))
      (pss_one (ps_asg (pe_or (pe_cmpR op_in_seq (pv 3) (pv 1) (by rfl)) (pe_one (pe_callB (cr_any rfl) (by rfl) T.any bootAny (pa_cons (pe_lc (te := tOp (rIxL K) (tVar 2) (tOp (rI0 fun i j => .int (i - j)) (tVar 3) (tVar 4))) (own := [("degree", 4)]) (g := gName 4) rfl scSumTwo.nd (pi_tup (pv 1)) (blkOk_by (N := ["number", "degrees", "sums", "at", "degree"]) (sc := defScope sSumTwo) (by decide +kernel))
          (fun _ _ _ _ _ => pg_name (i := 4) scSumTwo.nd rfl (Or.inl rfl)) (fun _ _ _ _ _ => pts_one (pt_cmpR op_lt (pv 4) (pv 3) (nomark _))) (fun _ _ _ _ _ => pe_ix ix_list (pv 2) (pe_op op_sub (pv 3) (pv 4)) (fun _ _ => rfl))) pa_nil)))) (pg_sub (pv 2) (pv 3) set_list))))
    (pss_one (ps_ret (pe_callB (cr_any rfl) (by rfl) T.any bootAny (pa_cons (pe_lc (te := tOp (rIxL K) (tVar 2) (tOp (rI0 fun i j => .int (i - j)) (tVar 0) (tVar 4))) (own := [("degree", 4)]) (g := gName 4) rfl scSumTwo.nd (pi_tup (pv 1)) (blkOk_by (N := ["number", "degrees", "sums", "at", "degree"]) (sc := defScope sSumTwo) (by decide +kernel))
          (fun _ _ _ _ _ => pg_name (i := 4) scSumTwo.nd rfl (Or.inl rfl)) (fun _ _ _ _ _ => pts_one (pt_cmpR op_lt (pv 4) (pv 0) (nomark _))) (fun _ _ _ _ _ => pe_ix ix_list (pv 2) (pe_op op_sub (pv 0) (pv 4)) (fun _ _ => rfl))) pa_nil))))), ?_⟩
  obtain ⟨N, rfl⟩ : ∃ N : Nat, n = (N : Int) := ⟨n.toNat, by omega⟩
  rw [show ((N : Int)).toNat = N by omega] at k
  refine ⟨(by show 1 ≤ sizeLine; decide), fun l hl => ⟨_, rfl, _, _, rfl, rfl, l, (N : Int) + 1, [.bl false], rfl, rfl, upd_same, by omega, by omega, ?_, fun q hq => ?_⟩⟩
  · have : N + 1 ≤ sizeLine := by rw [sizeLine_eq]; omega
    show 1 * ((N : Int) + 1).toNat ≤ sizeLine
    omega
  have e0 : (List.replicate ((N : Int) + 1).toNat [V.bl false]).flatten = sumsL D N 0 := by
    unfold sumsL
    rw [show ((N : Int) + 1).toNat = N + 1 by omega]
    show _ = (([] : List Bool) ++ List.replicate (N + 1 - 0) false).map V.bl
    rw [List.nil_append, Nat.sub_zero, List.map_replicate, List.flatten_replicate_singleton]
  rw [e0]
  have s0 : Same H (upd H l (.lst [.bl false])) := Same.new hl
  have hHq : H q = none := by
    cases z : H q with
    | none => rfl
    | some o =>
      rw [s0 _ _ z] at hq
      cases hq
  refine ⟨_, rfl, (N : Int), rfl, by omega, by omega, for_it (walk_range (lo := 0) (n := (N : Int).toNat)) (fun i σ H' => (∃ o3 o4, σ = [some (.int N), some (.ref a), some (.ref q), o3, o4]) ∧ Same H H' ∧ H' q = some (.lst (sumsL D N i))) ⟨⟨_, _, rfl⟩, Same.back s0 hHq, upd_same⟩ (fun _ _ _ _ _ => trivial) (fun i x σ H0 H1 hi p y => ?_) fun σ H1 p => ?_⟩
  · obtain ⟨⟨o3, o4, rfl⟩, s1, h1q⟩ := p
    obtain ⟨rfl, rfl⟩ := y
    have hi' : i < N := by omega
    have ha1 := tupSame s1 ha
    refine ⟨_, rfl, _, rfl, a, iV D, rfl, .inr ha1, rfl, flat_ints, _, rfl, ?_⟩
    have ec : (if (false : Bool) = true then !inV (.int (0 + (i : Int))) (iV D) else inV (.int (0 + (i : Int))) (iV D)) = D.contains (i : Int) := by
      rw [if_neg Bool.false_ne_true, inV_ints, Int.zero_add]
    rw [ec]
    have fin : ∀ (c : Bool) (H3 : Hp), Same H1 H3 → c = rch D i → (∃ o3' o4', ([some (.int (N : Int)), some (.ref a), some (.ref q), some (.int (0 + (i : Int))), o4] : L2.St) = [some (.int (N : Int)), some (.ref a), some (.ref q), o3', o4']) ∧ Same H (upd H3 q (.lst ((sumsL D N i).set i (.bl c)))) ∧ upd H3 q (.lst ((sumsL D N i).set i (.bl c))) q = some (.lst (sumsL D N (i + 1))) := fun c H3 s3 e => by
      refine ⟨⟨_, _, rfl⟩, Same.back (s1.trans s3) hHq, ?_⟩
      rw [upd_same, e, sumsL_set (by omega)]
    have ix : ixN (sumsL D N i).length (0 + (i : Int)) = some i := by
      rw [sumsL_len (by omega)]
      unfold ixN
      rw [if_pos (by omega), if_pos (by omega)]
      congr 1
      omega
    cases c : D.contains (i : Int) with
    | true =>
      refine iteT ⟨_, rfl, _, rfl, q, _, _, i, rfl, rfl, h1q, ix, ?_⟩
      refine fin true H1 (Same.refl _) ?_
      unfold rch
      rw [c]
      rfl
    | false =>
      refine iteF ⟨_, rfl, a, rfl, ⟨_, ha1⟩, fun D' hD' => lc_ints (K := K) (a := a) (L := D) (fun d => .bl (rch D ((i : Int) - d).toNat)) (fun d => decide (d < (i : Int))) hD' ha1 (by omega) (fun _ => rfl) (fun d H2 Q hm s g => ?_) (fun d H2 Q hm hp s g => ?_) fun H2 s2 hD2 => ?_⟩
      · refine ⟨_, rfl, _, rfl, _, _, rfl, rfl, _, rfl, ?_⟩
        rw [Int.zero_add]
        exact g H2 (Same.refl _)
      · have hd := hD d hm
        have hp := of_decide_eq_true hp
        refine ⟨_, rfl, _, rfl, _, rfl, _, _, rfl, rfl, q, _, _, _, rfl, rfl, SqL.of (s _ _ h1q), at_of (by omega) (sumsL_get (j := (0 + (i : Int) - d).toNat) (by omega)), ?_⟩
        rw [Int.zero_add]
        exact g H2 (Same.refl _)
      · refine ⟨D', (D.filter fun d => decide (d < (i : Int))).map fun d => rch D ((i : Int) - d).toNat, rfl, SqL.of (by rw [hD2, List.map_map]; rfl), ?_⟩
        rw [made_any fun d hd => (hD d hd).1]
        refine ⟨_, rfl, _, rfl, q, _, _, i, rfl, rfl, s2 _ _ h1q, ix, ?_⟩
        refine fin _ H2 s2 ?_
        unfold rch
        rw [c]
        rfl
  · obtain ⟨⟨o3, o4, rfl⟩, s1, h1q⟩ := p
    rw [show (N : Int).toNat = N by omega] at h1q
    have ha1 := tupSame s1 ha
    refine ⟨_, rfl, a, rfl, ⟨_, ha1⟩, fun D' hD' => lc_ints (K := K) (a := a) (L := D) (fun d => .bl (rch D ((N : Int) - d).toNat)) (fun d => decide (d < (N : Int))) hD' ha1 (by omega) (fun _ => rfl) (fun d H2 Q hm s g => ?_) (fun d H2 Q hm hp s g => ?_) fun H2 s2 hD2 => ?_⟩
    · exact ⟨_, rfl, _, rfl, _, _, rfl, rfl, _, rfl, g H2 (Same.refl _)⟩
    · have hd := hD d hm
      have hp := of_decide_eq_true hp
      exact ⟨_, rfl, _, rfl, _, rfl, _, _, rfl, rfl, q, _, _, _, rfl, rfl, SqL.of (s _ _ h1q), at_of (by omega) (sumsL_get (j := ((N : Int) - d).toNat) (by omega)), g H2 (Same.refl _)⟩
    · refine ⟨D', (D.filter fun d => decide (d < (N : Int))).map fun d => rch D ((N : Int) - d).toNat, rfl, SqL.of (by rw [hD2, List.map_map]; rfl), ?_⟩
      rw [made_any fun d hd => (hD d hd).1]
      exact k H2 (s1.trans s2)
end
end K4
namespace K4
open PySem PySem.Spec PyProof.Rows L2 RZ
theorem cat_tup {K : PySem.W.Frag} {H : Hp} {a b : Addr} {xs ys : List V} {Q : VK} (ha : SqT K H a xs) (hb : SqT K H b ys) (n : xs.length + ys.length ≤ 1000) (k : ∀ (H' : Hp) (p : Addr), Same H H' → SqT K H' p (xs ++ ys) → Q (.ref p) H') : rCatA K (.ref a) (.ref b) H Q := by
  refine ⟨a, b, xs, ys, rfl, rfl, ha, hb, Nat.le_of_lt (small1000 n), fun e => ?_, fun _ e => ?_, fun _ _ p hp => k _ p (Same.new hp) (SqT.of upd_same)⟩
  · subst e
    exact k H b (Same.refl _) hb
  · subst e
    refine k H a (Same.refl _) ?_
    rw [List.append_nil]
    exact ha
theorem tv_append {K : PySem.W.Frag} {H : Hp} : ∀ {xs ys : List V} {ls ms : List (List Int)}, TupsV K H xs ls → TupsV K H ys ms → TupsV K H (xs ++ ys) (ls ++ ms)
  | _, _, _, _, .nil, h => h
  | _, _, _, _, .cons a r, h => .cons a (tv_append r h)
theorem tv_tail {K : PySem.W.Frag} {H : Hp} {xs : List V} {ls : List (List Int)} (h : TupsV K H xs ls) : TupsV K H xs.tail ls.tail := by
  cases h with
  | nil => exact .nil
  | cons _ r => exact r
theorem cutV_one {xs : List V} : cutV xs (some 1) none = xs.tail := by
  unfold cutV
  cases xs with
  | nil => rfl
  | cons x r =>
    have e1 : HT.sIx (x :: r).length 0 (some 1) = 1 := by
      simp only [HT.sIx, List.length_cons]
      rw [if_neg (by omega)]
      omega
    have e2 : HT.sIx (x :: r).length (x :: r).length none = (x :: r).length := rfl
    rw [e1, e2]
    show List.take _ r = r
    exact List.take_of_length_le (by rw [List.length_cons]; omega)
theorem none_of {H H1 : Hp} {p : Addr} (s : Same H H1) (h : H1 p = none) : H p = none := by
  cases z : H p with
  | none => rfl
  | some o =>
    rw [s _ _ z] at h
    cases h
theorem lot_pos {n : Nat} {l : List Int} (h : l ∈ (pow n).tail) : l ≠ [] := by
  intro e
  have nd := pow_nodup n
  rw [pow_cons n] at nd
  subst e
  exact (List.nodup_cons.mp nd).1 h
theorem asc_len : ∀ {n : Nat} {l : List Int}, Asc n l → l.length ≤ n
  | n, [], _ => Nat.zero_le _
  | 0, x :: l, h => by
    have := h.inn x List.mem_cons_self
    omega
  | n + 1, x :: l, h => by
    have ih := asc_len (n := n) (l := l.map (· - 1)) ⟨List.pairwise_map.mpr ((List.pairwise_cons.mp h.up).2.imp fun q => by omega), fun i hi => by
      obtain ⟨j, hj, rfl⟩ := List.mem_map.mp hi
      have a := (List.pairwise_cons.mp h.up).1 j hj
      have b := h.inn j (List.mem_cons_of_mem _ hj)
      have c := h.inn x List.mem_cons_self
      omega⟩
    rw [List.length_map] at ih
    rw [List.length_cons]
    omega
def spLots (K : PySem.W.Frag) : Sp := fun vs H Q _ => ∃ n : Int, vs = [.int n] ∧ 0 ≤ n ∧ n ≤ 6 ∧ ∀ (H' : Hp) (p : Addr) (ys : List V), Same H H' → H p = none → H' p = some (.lst ys) → TupsV K H' ys (lotsOf n.toNat) → Q (.ref p) H'
theorem scLots : FnScope ["size", "found", "index", "lot"] ["size"] (defScope sLots) := ⟨rfl, rfl, rfl, by decide +kernel, rfl, by decide +kernel, by decide +kernel⟩
theorem scLLots : FnScope ["size", "found", "index", "lot"] ["size"] (defScope sLLots) := ⟨rfl, rfl, rfl, by decide +kernel, rfl, by decide +kernel, by decide +kernel⟩
section
variable {P : Program} {w : World} {K : PySem.W.Frag} {mg : Str → Option Value} {base : Heap} {fB fD : Addr} {dB dD : FuncData}
theorem ok_lots {f : Addr} {fd : FuncData} (F : Fun K "_lots" "_lots" sLots f fd) (T : Txt K mg) : FnOk P w K mg base CX0 1 f fd ["size"] (spLots K) := by
  refine F.ok scLots (fun vs H Q E h => ?_) (fun cdv A outer s H vs Q E hr h => ?_)
  · obtain ⟨n, rfl, _⟩ := h; rfl
  obtain ⟨n, rfl, h0, h1, k⟩ := h
  refine ⟨_, pss_cons (ps_set (i := 1) scLots.nd rfl (.inl rfl) (pe_lst (pa_cons (pe_tup pa_nil) pa_nil)))
    (pss_cons (ps_for PassesOwn.never rfl (pi_range1 rfl T.range (pa_cons (pv 0) pa_nil)) (pg_name (i := 2) scLots.nd rfl (.inr rfl))
      (pss_one (ps_set (i := 1) scLots.nd rfl (.inl rfl) (pe_op op_cat (pv 1) (pe_lc (te := tOp (rCatA K) (tVar 3) (tTup (tCons (tVar 2) tNil))) (own := [("lot", 3)]) (g := gName 3) rfl scLots.nd (pi_list (pv 1)) (blkOk_by (N := ["size", "found", "index", "lot"]) (sc := defScope sLots) (by decide +kernel))
        (fun _ _ _ _ _ => pg_name (i := 3) scLots.nd rfl (Or.inl rfl)) (fun _ _ _ _ _ => pts_nil) (fun _ _ _ _ _ => pe_op op_catA (pv 3) (pe_tup (pa_cons (pv 2) pa_nil))))))))
    (pss_one (ps_ret (pe_callB (cr_sortedTL hr.units) (by rfl) T.sorted bootSorted (pa_cons (pe_slice sl_list (pv 1) (po_some pe_int) po_none) pa_nil))))), ?_⟩
  refine ⟨(by show 0 ≤ sizeLine; decide), fun t ht => ⟨(by show 1 ≤ sizeLine; decide), fun q hq => ?_⟩⟩
  have s0 : Same H (upd H t (.tup [])) := Same.new ht
  have s1 : Same (upd H t (.tup [])) (upd (upd H t (.tup [])) q (.lst [.ref t])) := Same.new hq
  refine ⟨_, rfl, n, rfl, by omega, by omega, for_it (walk_range (lo := 0) (n := n.toNat)) (fun i σ H' => (∃ q o2, σ = [some (.int n), some (.ref q), o2, none] ∧ ∃ xs, H' q = some (.lst xs) ∧ TupsV K H' xs (pow i)) ∧ Same H H') ⟨⟨q, _, rfl, _, upd_same, .cons ⟨t, rfl, SqT.of (s1 _ _ upd_same)⟩ .nil⟩, s0.trans s1⟩ (fun _ _ _ _ _ => trivial) (fun i x σ H0 H1 hi p y => ?_) fun σ H1 p => ?_⟩
  · obtain ⟨⟨q, o2, rfl, xs, hx, tv⟩, s2⟩ := p
    obtain ⟨rfl, rfl⟩ := y
    have lx := tv_len tv
    rw [pow_len] at lx
    have i6 : i ≤ 5 := by omega
    have p6 : 2 ^ i ≤ 2 ^ 5 := Nat.pow_le_pow_right (by decide) i6
    refine ⟨_, rfl, _, rfl, q, rfl, ⟨_, SqL.of hx⟩, fun D hD => lc_tupsL (K := K) (a := q) (g := fun l => l ++ [(i : Int)]) (p := fun _ => true) hD hx tv (by rw [pow_len]; omega) (fun _ => rfl) (fun t' l H2 Q2 _ _ s g => g H2 (Same.refl _)) (fun t' l H2 Q2 hm hT _ s g => ?_) fun H2 ys s3 hD2 tv2 => ?_⟩
    · refine ⟨_, rfl, _, rfl, (by show 1 ≤ sizeLine; decide), fun t2 ht2 => ?_⟩
      have st := Same.new (o := .tup [.int (0 + (i : Int))]) ht2
      have hl : l.length ≤ i := asc_len (mem_pow.mp hm)
      refine cat_tup (tupSame st hT) (SqT.of upd_same) (by rw [List.length_map]; show l.length + 1 ≤ 1000; omega) fun H3 p3 s4 h3 => g H3 p3 (st.trans s4) ?_
      have h3 : SqT K H3 p3 (iV l ++ [.int (0 + (i : Int))]) := h3
      rw [Int.zero_add] at h3
      show SqT K H3 p3 (List.map V.int (l ++ [(i : Int)]))
      rw [List.map_append]
      exact h3
    · have e : (pow i).filter (fun _ => true) = pow i := List.filter_eq_self.mpr fun _ _ => rfl
      rw [e] at tv2
      have ly := tv_len tv2
      rw [List.length_map, pow_len] at ly
      refine ⟨q, D, xs, ys, rfl, rfl, s3 _ _ hx, hD2, Nat.le_of_lt (small1000 (by omega)), fun p hp => ?_⟩
      have s4 := Same.new (o := .lst (xs ++ ys)) hp
      exact ⟨⟨p, _, rfl, _, upd_same, tv_append (tv_mono tv (s3.trans s4)) (tv_mono tv2 s4)⟩, s2.trans (s3.trans s4)⟩
  · obtain ⟨⟨q, o2, rfl, xs, hx, tv⟩, s2⟩ := p
    refine ⟨_, rfl, _, rfl, q, xs, rfl, SqL.of hx, fun p hp => ?_⟩
    rw [cutV_one]
    have s3 := Same.new (o := .lst xs.tail) hp
    refine ⟨p, xs.tail, (pow n.toNat).tail, rfl, SqL.of upd_same, tv_mono (tv_tail tv) s3, .inl fun l => lot_pos, fun ys p' tv' hp' => ?_⟩
    have s4 := Same.new (o := .lst ys) hp'
    exact k _ p' ys (s2.trans (s3.trans s4)) (none_of (s2.trans s3) hp') upd_same (tv_mono tv' s4)
theorem ok_llots {f : Addr} {fd : FuncData} (F : Fun K "_law_dg_lots" "_law_dg_lots" sLLots f fd) (T : Txt K mg) : FnOk P w K mg base CX0 1 f fd ["size"] (spLots K) := by
  refine F.ok scLLots (fun vs H Q E h => ?_) (fun cdv A outer s H vs Q E hr h => ?_)
  · obtain ⟨n, rfl, _⟩ := h; rfl
  obtain ⟨n, rfl, h0, h1, k⟩ := h
  refine ⟨_, pss_cons (ps_set (i := 1) scLLots.nd rfl (.inl rfl) (pe_lst (pa_cons (pe_tup pa_nil) pa_nil)))
    (pss_cons (ps_for PassesOwn.never rfl (pi_range1 rfl T.range (pa_cons (pv 0) pa_nil)) (pg_name (i := 2) scLLots.nd rfl (.inr rfl))
      (pss_one (ps_set (i := 1) scLLots.nd rfl (.inl rfl) (pe_op op_cat (pv 1) (pe_lc (te := tOp (rCatA K) (tVar 3) (tTup (tCons (tVar 2) tNil))) (own := [("lot", 3)]) (g := gName 3) rfl scLLots.nd (pi_list (pv 1)) (blkOk_by (N := ["size", "found", "index", "lot"]) (sc := defScope sLLots) (by decide +kernel))
        (fun _ _ _ _ _ => pg_name (i := 3) scLLots.nd rfl (Or.inl rfl)) (fun _ _ _ _ _ => pts_nil) (fun _ _ _ _ _ => pe_op op_catA (pv 3) (pe_tup (pa_cons (pv 2) pa_nil))))))))
    (pss_one (ps_ret (pe_slice sl_list (pe_callB (cr_sortedTL hr.units) (by rfl) T.sorted bootSorted (pa_cons (pv 1) pa_nil)) (po_some pe_int) po_none)))), ?_⟩
  refine ⟨(by show 0 ≤ sizeLine; decide), fun t ht => ⟨(by show 1 ≤ sizeLine; decide), fun q hq => ?_⟩⟩
  have s0 : Same H (upd H t (.tup [])) := Same.new ht
  have s1 : Same (upd H t (.tup [])) (upd (upd H t (.tup [])) q (.lst [.ref t])) := Same.new hq
  refine ⟨_, rfl, n, rfl, by omega, by omega, for_it (walk_range (lo := 0) (n := n.toNat)) (fun i σ H' => (∃ q o2, σ = [some (.int n), some (.ref q), o2, none] ∧ ∃ xs, H' q = some (.lst xs) ∧ TupsV K H' xs (pow i)) ∧ Same H H') ⟨⟨q, _, rfl, _, upd_same, .cons ⟨t, rfl, SqT.of (s1 _ _ upd_same)⟩ .nil⟩, s0.trans s1⟩ (fun _ _ _ _ _ => trivial) (fun i x σ H0 H1 hi p y => ?_) fun σ H1 p => ?_⟩
  · obtain ⟨⟨q, o2, rfl, xs, hx, tv⟩, s2⟩ := p
    obtain ⟨rfl, rfl⟩ := y
    have lx := tv_len tv
    rw [pow_len] at lx
    have i6 : i ≤ 5 := by omega
    have p6 : 2 ^ i ≤ 2 ^ 5 := Nat.pow_le_pow_right (by decide) i6
    refine ⟨_, rfl, _, rfl, q, rfl, ⟨_, SqL.of hx⟩, fun D hD => lc_tupsL (K := K) (a := q) (g := fun l => l ++ [(i : Int)]) (p := fun _ => true) hD hx tv (by rw [pow_len]; omega) (fun _ => rfl) (fun t' l H2 Q2 _ _ s g => g H2 (Same.refl _)) (fun t' l H2 Q2 hm hT _ s g => ?_) fun H2 ys s3 hD2 tv2 => ?_⟩
    · refine ⟨_, rfl, _, rfl, (by show 1 ≤ sizeLine; decide), fun t2 ht2 => ?_⟩
      have st := Same.new (o := .tup [.int (0 + (i : Int))]) ht2
      have hl : l.length ≤ i := asc_len (mem_pow.mp hm)
      refine cat_tup (tupSame st hT) (SqT.of upd_same) (by rw [List.length_map]; show l.length + 1 ≤ 1000; omega) fun H3 p3 s4 h3 => g H3 p3 (st.trans s4) ?_
      have h3 : SqT K H3 p3 (iV l ++ [.int (0 + (i : Int))]) := h3
      rw [Int.zero_add] at h3
      show SqT K H3 p3 (List.map V.int (l ++ [(i : Int)]))
      rw [List.map_append]
      exact h3
    · have e : (pow i).filter (fun _ => true) = pow i := List.filter_eq_self.mpr fun _ _ => rfl
      rw [e] at tv2
      have ly := tv_len tv2
      rw [List.length_map, pow_len] at ly
      refine ⟨q, D, xs, ys, rfl, rfl, s3 _ _ hx, hD2, Nat.le_of_lt (small1000 (by omega)), fun p hp => ?_⟩
      have s4 := Same.new (o := .lst (xs ++ ys)) hp
      exact ⟨⟨p, _, rfl, _, upd_same, tv_append (tv_mono tv (s3.trans s4)) (tv_mono tv2 s4)⟩, s2.trans (s3.trans s4)⟩
  · obtain ⟨⟨q, o2, rfl, xs, hx, tv⟩, s2⟩ := p
    refine ⟨_, rfl, q, xs, pow n.toNat, rfl, SqL.of hx, tv, .inr ⟨_, pow_cons _⟩, fun ys p' tv' hp' => ?_⟩
    have s3 := Same.new (o := .lst ys) hp'
    refine ⟨_, rfl, p', ys, rfl, SqL.of upd_same, fun p hp => ?_⟩
    have s4 := Same.new (o := .lst (cutV ys (some 1) none)) hp
    rw [srt_pow] at tv'
    refine k _ p _ (s2.trans (s3.trans s4)) (none_of (s2.trans s3) hp) upd_same ?_
    rw [cutV_one] at s4 ⊢
    exact tv_mono (tv_tail tv') (s3.trans s4)
end
end K4
namespace K4
open PySem PySem.Spec PyProof.Rows L2 RZ
/-! ### data -/
abbrev dI (l : List Int) : PyData := .tuple (l.map PyData.int)
structure Shp (n : Nat) (d : PyData) : Prop where
  can : d.canLay0 = true
  dep : d.depth ≤ n
theorem Shp.shaped {n : Nat} {d : PyData} (h : Shp n d) (hn : n ≤ 64) : SeqAt.shaped d = true := by
  rw [SeqAt.shaped, Bool.and_eq_true]
  exact ⟨h.can, decide_eq_true (Nat.le_trans h.dep hn)⟩
theorem Shp.int (i : Int) : Shp 0 (.int i) := ⟨by rw [PyData.canLay0], by rw [PyData.depth]; exact Nat.le_refl _⟩
theorem Shp.bool (b : Bool) : Shp 0 (.bool b) := ⟨by rw [PyData.canLay0], by rw [PyData.depth]; exact Nat.le_refl _⟩
theorem shp_all {α : Type} {f : α → PyData} {n : Nat} (h : ∀ x, Shp n (f x)) : ∀ l : List α, PyData.canLayAll0 (l.map f) = true ∧ PyData.depthAll (l.map f) ≤ n
  | [] => ⟨rfl, by rw [List.map_nil, PyData.depthAll]; exact Nat.zero_le _⟩
  | a :: l => by
    obtain ⟨h1, h2⟩ := shp_all h l
    refine ⟨?_, ?_⟩
    · rw [List.map_cons, PyData.canLayAll0, (h a).can, h1]
      rfl
    · rw [List.map_cons, PyData.depthAll]
      have := (h a).dep
      omega
theorem Shp.lst {α : Type} {f : α → PyData} {n : Nat} (h : ∀ x, Shp n (f x)) (l : List α) : Shp (n + 1) (.list (l.map f)) := by
  obtain ⟨h1, h2⟩ := shp_all h l
  exact ⟨by rw [PyData.canLay0]; exact h1, by rw [PyData.depth]; omega⟩
theorem Shp.tup {α : Type} {f : α → PyData} {n : Nat} (h : ∀ x, Shp n (f x)) (l : List α) : Shp (n + 1) (.tuple (l.map f)) := by
  obtain ⟨h1, h2⟩ := shp_all h l
  exact ⟨by rw [PyData.canLay0]; exact h1, by rw [PyData.depth]; omega⟩
theorem shp_dI (l : List Int) : Shp 1 (dI l) := .tup .int l
theorem eqv_self {n : Nat} {d : PyData} (h : Shp n d) (hn : n ≤ 64) : PyData.eqv d d = true := SeqAt.eqv_refl d h.can
theorem eqv_empty {ds : List PyData} {n : Nat} (h : Shp n (.list ds)) (hn : n ≤ 64) : PyData.eqv (.list ds) (.list []) = decide (ds = []) := by
  cases ds with
  | nil =>
    rw [eqv_self h hn]
    rfl
  | cons d ds =>
    rw [PyData.eqv, decide_eq_false (fun z => nomatch z)]
    exact SeqAt.eqvAll_other_length (by simp)
section
variable {K : PySem.W.Frag} {H : Hp}
theorem dp_ints : ∀ l : List Int, DpAll K H (iV l) (l.map PyData.int)
  | [] => .nil
  | a :: l => .cons (.int a) (dp_ints l)
theorem dp_bools : ∀ l : List Bool, DpAll K H (l.map V.bl) (l.map PyData.bool)
  | [] => .nil
  | a :: l => .cons (.bl a) (dp_bools l)
theorem dp_tups : ∀ {xs : List V} {ls : List (List Int)}, TupsV K H xs ls → DpAll K H xs (ls.map dI)
  | _, _, .nil => .nil
  | _, _, .cons ⟨t, e, h⟩ r => by
    subst e
    exact .cons (.tup h (dp_ints _)) (dp_tups r)
end
/-! ### the program: lots that bar -/
def spBar (K : PySem.W.Frag) : Sp := fun vs H Q _ => ∃ (a b c : Addr) (E O l : List Int), vs = [.ref a, .ref b, .ref c] ∧ SqT K H a (iV E) ∧ Ev E ∧ SqT K H b (iV O) ∧ Od O ∧ SqT K H c (iV l) ∧ Asc E.length l ∧ ∀ H', Same H H' → Q (.bl (bars E O l)) H'
def spBarring (K : PySem.W.Frag) : Sp := fun vs H Q _ => ∃ (a b : Addr) (E O : List Int), vs = [.ref a, .ref b] ∧ SqT K H a (iV E) ∧ Ev E ∧ SqT K H b (iV O) ∧ Od O ∧ ∀ (H' : Hp) (p : Addr) (ys : List V), Same H H' → H' p = some (.tup ys) → TupsV K H' ys (barring E O) → Q (.ref p) H'
def spCanEnd (K : PySem.W.Frag) : Sp := fun vs H Q _ => ∃ (a b : Addr) (E O : List Int), vs = [.ref a, .ref b] ∧ SqT K H a (iV E) ∧ Ev E ∧ SqT K H b (iV O) ∧ Od O ∧ ∀ H', Same H H' → Q (.bl (decide (barring E O = []))) H'
def spMade (K : PySem.W.Frag) : Sp := fun vs H Q _ => ∃ (a : Addr) (D : List Int) (n : Int), vs = [.int n, .ref a] ∧ SqT K H a (iV D) ∧ D.length ≤ 6 ∧ (∀ d ∈ D, 1 ≤ d ∧ d ≤ 40) ∧ 0 ≤ n ∧ n ≤ 1000 ∧ ∀ H', Same H H' → Q (.bl (made D n.toNat)) H'
theorem scDoesBar : FnScope ["evens", "odds", "lot", "degrees", "index", "odd"] ["evens", "odds", "lot"] (defScope sDoesBar) := ⟨rfl, rfl, rfl, by decide +kernel, rfl, by decide +kernel, by decide +kernel⟩
theorem scBarring : FnScope ["evens", "odds", "lot"] ["evens", "odds"] (defScope sBarring) := ⟨rfl, rfl, rfl, by decide +kernel, rfl, by decide +kernel, by decide +kernel⟩
theorem scBarLots : FnScope ["evens", "odds"] ["evens", "odds"] (defScope sBarLots) := ⟨rfl, rfl, rfl, by decide +kernel, rfl, by decide +kernel, by decide +kernel⟩
theorem scCanEnd : FnScope ["evens", "odds"] ["evens", "odds"] (defScope sCanEnd) := ⟨rfl, rfl, rfl, by decide +kernel, rfl, by decide +kernel, by decide +kernel⟩
theorem scIsMade : FnScope ["number", "degrees"] ["number", "degrees"] (defScope sIsMade) := ⟨rfl, rfl, rfl, by decide +kernel, rfl, by decide +kernel, by decide +kernel⟩
theorem pick_get {E : List Int} {i : Int} (h0 : 0 ≤ i) (h1 : i < E.length) : (iV E)[i.toNat]? = some (.int (E.getD i.toNat 0)) ∧ E.getD i.toNat 0 ∈ E := by
  have hl : i.toNat < E.length := by omega
  rw [List.getElem?_map, List.getD_eq_getElem?_getD, List.getElem?_eq_getElem hl]
  exact ⟨rfl, List.getElem_mem hl⟩
theorem pick_mem {E l : List Int} {n : Int} (h : Asc E.length l) {d : Int} (hd : d ∈ pick E l) : d ∈ E := by
  obtain ⟨i, hi, rfl⟩ := List.mem_map.mp hd
  have := h.inn i hi
  exact (pick_get this.1 this.2).2
section
variable {P : Program} {w : World} {K : PySem.W.Frag} {mg : Str → Option Value} {base : Heap} {fS fL fB fC fD fM : Addr} {dS dL dB dC dD dM : FuncData}
theorem ok_doesbar {f : Addr} {fd : FuncData} (F : Fun K "_does_bar" "_does_bar" sDoesBar f fd) (T : Txt K mg) (gS : mg "_is_sum_of_two" = some (.ref fS)) (kS : PySem.W.keepIn K (.ref fS) = true) (bS : Binds K dS ["number", "degrees"] [])
    (S : FnOk P w K mg base CX0 1 fS dS ["number", "degrees"] (spSumTwo K)) : FnOk P w K mg base CX0 2 f fd ["evens", "odds", "lot"] (spBar K) := by
  refine F.ok scDoesBar (fun vs H Q E h => ?_) (fun cdv A outer s H vs Q E hr h => ?_)
  · obtain ⟨a, b, c, E', O, l, rfl, _⟩ := h; rfl
  obtain ⟨a, b, c, EV, OD, l, rfl, ha, hE, hb, hO, hc, hl, k⟩ := h
  refine ⟨_, pss_cons (ps_set (i := 3) scDoesBar.nd rfl (.inr rfl) (pe_callTy call_tuple_of (by rfl) T.tuple bootTuple (pa_cons (pe_lc (te := tOp (rIxT K) (tVar 0) (tVar 4)) (own := [("index", 4)]) (g := gName 4) rfl scDoesBar.nd (pi_tup (pv 2)) (blkOk_by (N := ["evens", "odds", "lot", "degrees", "index", "odd"]) (sc := defScope sDoesBar) (by decide +kernel))
        (fun _ _ _ _ _ => pg_name (i := 4) scDoesBar.nd rfl (Or.inl rfl)) (fun _ _ _ _ _ => pts_nil) (fun _ _ _ _ _ => pe_ix ix_tup (pv 0) (pv 4) (fun _ _ => rfl))) pa_nil)))
    (pss_one (ps_ret (pe_cmpR op_lt (pe_callB call_len_seq (by rfl) T.len PySem.boot_len (pa_cons (pe_lc (own := [("odd", 5)]) (g := gName 5) rfl scDoesBar.nd (pi_tup (pv 1)) (blkOk_by (N := ["evens", "odds", "lot", "degrees", "index", "odd"]) (sc := defScope sDoesBar) (by decide +kernel))
        (fun _ _ _ _ _ => pg_name (i := 5) scDoesBar.nd rfl (Or.inl rfl)) (fun _ _ _ _ _ => pts_one (pt_val (pe_call S hr (by rfl) gS kS bS .nil pass0 (by exact (pa_cons (pe_op op_add (pv 5) pe_int) (pa_cons (pv 3) pa_nil)))))) (fun _ _ _ _ _ => pv 5)) pa_nil))
      (pe_callB call_len_seq (by rfl) T.len PySem.boot_len (pa_cons (pv 2) pa_nil)) (nomark _)))), ?_⟩
  have ll := asc_len hl
  have le := hE.len
  have lo := hO.len
  refine ⟨_, rfl, c, rfl, ⟨_, hc⟩, fun D hD => lc_ints (K := K) (a := c) (L := l) (fun i => .int (EV.getD i.toNat 0)) (fun _ => true) hD hc (by omega) (fun _ => rfl) (fun d H1 Q1 hm s q => q H1 (Same.refl _)) (fun d H1 Q1 hm _ s q => ?_) fun H1 s1 hD1 => ?_⟩
  · have hi := hl.inn d hm
    exact ⟨_, rfl, _, rfl, a, _, _, _, rfl, rfl, tupSame s ha, at_of (j := d.toNat) (by omega) (pick_get hi.1 hi.2).1, q H1 (Same.refl _)⟩
  rw [filter_yes] at hD1
  have hp : l.map (fun i => V.int (EV.getD i.toNat 0)) = iV (pick EV l) := by
    show _ = List.map V.int (List.map (fun i => EV.getD i.toNat 0) l)
    rw [List.map_map]
    rfl
  rw [hp] at hD1
  refine ⟨D, _, rfl, .inl ⟨SqL.of hD1, fun t ht => ?_⟩⟩
  have s2 := Same.new (o := .tup (iV (pick EV l))) ht
  have s12 := s1.trans s2
  have hq : SqT K (upd H1 t (.tup (iV (pick EV l)))) t (iV (pick EV l)) := SqT.of upd_same
  have lp : (pick EV l).length = l.length := List.length_map _
  generalize upd H1 t (.tup (iV (pick EV l))) = H2 at *
  refine ⟨_, rfl, b, rfl, ⟨_, tupSame s12 hb⟩, fun D2 hD2 => lc_ints (K := K) (a := b) (L := OD) (fun o => .int o) (fun o => made (pick EV l) (o + 1).toNat) hD2 (tupSame s12 hb) (by omega) (fun _ => rfl) (fun o H3 Q3 hm s q => ?_) (fun o H3 Q3 hm _ s q => ⟨_, rfl, q H3 (Same.refl _)⟩) fun H3 s3 hD3 => ?_⟩
  · have ho := hO.inn o hm
    refine ⟨_, rfl, _, _, rfl, rfl, _, rfl, t, pick EV l, o + 1, rfl, tupSame s hq, by omega, fun d hd => ?_, by omega, by omega, fun H4 s4 => ⟨_, rfl, q H4 s4⟩⟩
    have := hE.inn d (pick_mem (n := 0) hl hd)
    omega
  · refine ⟨D2, _, rfl, .inl (SqL.of hD3), _, rfl, c, _, rfl, .inr (tupSame (s12.trans s3) hc), _, _, rfl, rfl, ?_⟩
    have q := k H3 (s12.trans s3)
    unfold bars at q
    rw [List.length_map, List.length_map]
    show Q (.bl (decide (((OD.filter fun o => made (pick EV l) (o + 1).toNat).length : Int) < (l.length : Int)))) H3
    rw [show decide (((OD.filter fun o => made (pick EV l) (o + 1).toNat).length : Int) < (l.length : Int)) = decide ((OD.filter fun o => made (pick EV l) (o + 1).toNat).length < l.length) from decide_eq_decide.mpr (by omega)]
    exact q
theorem ok_barring {f : Addr} {fd : FuncData} (F : Fun K "_barring" "_barring" sBarring f fd) (T : Txt K mg) (gL : mg "_lots" = some (.ref fL)) (kL : PySem.W.keepIn K (.ref fL) = true) (bL : Binds K dL ["size"] []) (FL : FnOk P w K mg base CX0 1 fL dL ["size"] (spLots K))
    (gB : mg "_does_bar" = some (.ref fB)) (kB : PySem.W.keepIn K (.ref fB) = true) (bB : Binds K dB ["evens", "odds", "lot"] []) (B : FnOk P w K mg base CX0 2 fB dB ["evens", "odds", "lot"] (spBar K)) : FnOk P w K mg base CX0 3 f fd ["evens", "odds"] (spBarring K) := by
  refine F.ok scBarring (fun vs H Q E h => ?_) (fun cdv A outer s H vs Q E hr h => ?_)
  · obtain ⟨a, b, E', O, rfl, _⟩ := h; rfl
  obtain ⟨a, b, EV, OD, rfl, ha, hE, hb, hO, k⟩ := h
  have hr1 : Room 1 _ := hr.mono (by decide)
  refine ⟨_, pss_one (ps_ret (pe_callTy call_tuple_of (by rfl) T.tuple bootTuple (pa_cons (pe_lc (own := [("lot", 2)]) (g := gName 2) rfl scBarring.nd (pi_list (pe_call FL hr1 (by rfl) gL kL bL .nil pass0 (pa_cons (pe_callB call_len_seq (by rfl) T.len PySem.boot_len (pa_cons (pv 0) pa_nil)) pa_nil))) (blkOk_by (N := ["evens", "odds", "lot"]) (sc := defScope sBarring) (by decide +kernel))
        (fun _ _ _ _ _ => pg_name (i := 2) scBarring.nd rfl (Or.inl rfl)) (fun _ _ _ _ _ => pts_one (pt_val (pe_call B hr (by rfl) gB kB bB .nil pass0 (by exact (pa_cons (pv 0) (pa_cons (pv 1) (pa_cons (pv 2) pa_nil))))))) (fun _ _ _ _ _ => pv 2)) pa_nil))), ?_⟩
  have le := hE.len
  refine ⟨_, rfl, a, _, rfl, .inr ha, (EV.length : Int), by rw [List.length_map]; rfl, by omega, by omega, fun H1 p ys s1 hp0 hp1 tv => ?_⟩
  rw [show ((EV.length : Int)).toNat = EV.length by omega] at tv
  refine ⟨p, rfl, ⟨_, SqL.of hp1⟩, fun D hD => lc_tupsL (K := K) (a := p) (g := id) (p := bars EV OD) hD hp1 tv ?_ (fun _ => rfl) (fun t l H2 Q2 hm hT s q => ?_) (fun t l H2 Q2 hm hT _ s q => ⟨_, rfl, q H2 t (Same.refl _) hT⟩) fun H2 zs s2 hD2 tv2 => ?_⟩
  · unfold lotsOf
    rw [(srt_perm _).length_eq, List.length_tail, pow_len]
    have : 2 ^ EV.length ≤ 2 ^ 6 := Nat.pow_le_pow_right (by decide) le
    omega
  · have hs := s1.trans s
    exact ⟨_, rfl, _, rfl, _, rfl, a, b, t, EV, OD, l, rfl, tupSame hs ha, hE, tupSame hs hb, hO, hT, (mem_lots.mp hm).2, fun H3 s3 => ⟨_, rfl, q H3 s3⟩⟩
  · rw [List.map_id] at tv2
    refine ⟨D, _, rfl, .inl ⟨SqL.of hD2, fun t ht => ?_⟩⟩
    have s3 := Same.new (o := .tup zs) ht
    exact k _ t zs (s1.trans (s2.trans s3)) upd_same (tv_mono tv2 s3)
theorem ok_barlots {f : Addr} {fd : FuncData} (F : Fun K "barring_lots" "barring_lots" sBarLots f fd) (gC : mg "_check_degrees" = some (.ref fC)) (kC : PySem.W.keepIn K (.ref fC) = true) (bC : Binds K dC ["evens", "odds"] []) (C : FnOk P w K mg base CX0 5 fC dC ["evens", "odds"] (spChkD K))
    (gB : mg "_barring" = some (.ref fB)) (kB : PySem.W.keepIn K (.ref fB) = true) (bB : Binds K dB ["evens", "odds"] []) (B : FnOk P w K mg base CX0 3 fB dB ["evens", "odds"] (spBarring K)) : FnOk P w K mg base CX0 6 f fd ["evens", "odds"] (spBarring K) := by
  refine F.ok scBarLots (fun vs H Q E h => ?_) (fun cdv A outer s H vs Q E hr h => ?_)
  · obtain ⟨a, b, E', O, rfl, _⟩ := h; rfl
  obtain ⟨a, b, EV, OD, rfl, ha, hE, hb, hO, k⟩ := h
  have hr3 : Room 3 _ := hr.mono (by decide)
  refine ⟨_, pss_cons (ps_expr (pe_call C hr (by rfl) gC kC bC .nil pass0 (pa_cons (pv 0) (pa_cons (pv 1) pa_nil)))) (pss_one (ps_ret (pe_call B hr3 (by rfl) gB kB bB .nil pass0 (pa_cons (pv 0) (pa_cons (pv 1) pa_nil))))), ?_⟩
  exact ⟨_, rfl, _, rfl, a, b, EV, OD, rfl, ha, hE, hb, hO, fun H1 s1 => ⟨_, rfl, _, rfl, a, b, EV, OD, rfl, tupSame s1 ha, hE, tupSame s1 hb, hO, fun H2 p ys s2 hp tv => k H2 p ys (s1.trans s2) hp tv⟩⟩
theorem ok_canend {f : Addr} {fd : FuncData} (F : Fun K "can_end" "can_end" sCanEnd f fd) (T : Txt K mg) (gC : mg "_check_degrees" = some (.ref fC)) (kC : PySem.W.keepIn K (.ref fC) = true) (bC : Binds K dC ["evens", "odds"] []) (C : FnOk P w K mg base CX0 5 fC dC ["evens", "odds"] (spChkD K))
    (gB : mg "_barring" = some (.ref fB)) (kB : PySem.W.keepIn K (.ref fB) = true) (bB : Binds K dB ["evens", "odds"] []) (B : FnOk P w K mg base CX0 3 fB dB ["evens", "odds"] (spBarring K)) : FnOk P w K mg base CX0 6 f fd ["evens", "odds"] (spCanEnd K) := by
  refine F.ok scCanEnd (fun vs H Q E h => ?_) (fun cdv A outer s H vs Q E hr h => ?_)
  · obtain ⟨a, b, E', O, rfl, _⟩ := h; rfl
  obtain ⟨a, b, EV, OD, rfl, ha, hE, hb, hO, k⟩ := h
  have hr3 : Room 3 _ := hr.mono (by decide)
  refine ⟨_, pss_cons (ps_expr (pe_call C hr (by rfl) gC kC bC .nil pass0 (pa_cons (pv 0) (pa_cons (pv 1) pa_nil)))) (pss_one (ps_ret (pe_cmpR op_eq (pe_callB call_len_seq (by rfl) T.len PySem.boot_len (pa_cons (pe_call B hr3 (by rfl) gB kB bB .nil pass0 (pa_cons (pv 0) (pa_cons (pv 1) pa_nil))) pa_nil)) pe_int (nomark _)))), ?_⟩
  refine ⟨_, rfl, _, rfl, a, b, EV, OD, rfl, ha, hE, hb, hO, fun H1 s1 => ⟨_, rfl, _, rfl, a, b, EV, OD, rfl, tupSame s1 ha, hE, tupSame s1 hb, hO, fun H2 p ys s2 hp tv => ⟨p, ys, rfl, .inr (SqT.of hp), rfl, ?_⟩⟩⟩
  have q := k H2 (s1.trans s2)
  rw [dInt, tv_len tv]
  rw [show decide (((barring EV OD).length : Int) = 0) = decide (barring EV OD = []) from decide_eq_decide.mpr (by rw [← List.length_eq_zero_iff]; omega)]
  exact q
theorem ok_ismade {f : Addr} {fd : FuncData} (F : Fun K "is_made" "is_made" sIsMade f fd) (T : Txt K mg) (gC : mg "check_between" = some (.ref fC)) (kC : PySem.W.keepIn K (.ref fC) = true) (bC : Binds K dC ["value", "least", "most"] []) (C : FnOk P w K mg base CX0 4 fC dC ["value", "least", "most"] (spChkB K))
    (gD : mg "_is_degrees" = some (.ref fD)) (kD : PySem.W.keepIn K (.ref fD) = true) (bD : Binds K dD ["value", "many", "least", "most"] []) (FD : FnOk P w K mg base CX0 4 fD dD ["value", "many", "least", "most"] (spIsDeg K))
    (gS : mg "_is_sum_of_two" = some (.ref fS)) (kS : PySem.W.keepIn K (.ref fS) = true) (bS : Binds K dS ["number", "degrees"] []) (S : FnOk P w K mg base CX0 1 fS dS ["number", "degrees"] (spSumTwo K)) : FnOk P w K mg base CX0 5 f fd ["number", "degrees"] (spMade K) := by
  refine F.ok scIsMade (fun vs H Q E h => ?_) (fun cdv A outer s H vs Q E hr h => ?_)
  · obtain ⟨a, D, n, rfl, _⟩ := h; rfl
  obtain ⟨a, D, n, rfl, ha, ln, hD, h0, h1, k⟩ := h
  have hr1 : Room 1 _ := hr.mono (by decide)
  obtain ⟨t1, m1⟩ := T.cMOST
  obtain ⟨t2, m2⟩ := T.cMAXEVENS
  obtain ⟨t3, m3⟩ := T.cMAXLETTER
  refine ⟨_, pss_cons (ps_expr (pe_call C hr (by rfl) gC kC bC .nil pass0 (pa_cons (pv 0) (pa_cons pe_int (pa_cons (pe_glob (v := .int 1000) (by rfl) m1 ⟨_, rfl⟩) pa_nil)))))
    (pss_cons (ps_if (pt_not (pt_val (pe_call FD hr (by rfl) gD kD bD .nil pass0 (pa_cons (pv 1) (pa_cons (pe_glob (v := .int 6) (by rfl) m2 ⟨_, rfl⟩) (pa_cons pe_int (pa_cons (pe_glob (v := .int 40) (by rfl) m3 ⟨_, rfl⟩) pa_nil))))))) pss_never pss_nil)
    (pss_one (ps_ret (pe_call S hr1 (by rfl) gS kS bS .nil pass0 (pa_cons (pv 0) (pa_cons (pv 1) pa_nil)))))), ?_⟩
  refine ⟨_, rfl, n, 0, 1000, rfl, h0, h1, h0, h1, _, rfl, a, D, 6, 1, 40, rfl, ha, by omega, by omega, by decide, by decide, hD, fun H1 s1 => ⟨_, rfl, iteF ⟨_, rfl, _, rfl, a, D, n, rfl, tupSame s1 ha, by omega, fun d hd => ?_, h0, h1, fun H2 s2 => k H2 (s1.trans s2)⟩⟩⟩
  have := hD d hd
  omega
end
end K4
namespace K4
open PySem PySem.Spec PyProof.Rows L2 RZ
theorem erase_map : ∀ (u : List Int) (k : Nat), (iV u).eraseIdx k = iV (u.eraseIdx k)
  | [], _ => rfl
  | _ :: _, 0 => rfl
  | a :: u, k + 1 => by
    show V.int a :: (iV u).eraseIdx k = V.int a :: iV (u.eraseIdx k)
    rw [erase_map u k]
theorem erase_perm : ∀ {u : List Int} {k : Nat} {z : Int}, u[k]? = some z → (z :: u.eraseIdx k).Perm u
  | [], _, _, h => by cases h
  | _ :: _, 0, _, h => by
    cases h
    exact List.Perm.refl _
  | a :: u, k + 1, z, h => (List.Perm.swap a z (u.eraseIdx k)).trans ((erase_perm (u := u) (k := k) h).cons a)
def spShuf (K : PySem.W.Frag) : Sp := fun vs H Q _ => ∃ (d l : Addr) (L : List V) (s : List Int), vs = [.ref d, .ref l] ∧ H d = some (.lst L) ∧ DiceL L ∧ (SqL K H l (iV s) ∨ SqT K H l (iV s)) ∧ s.length ≤ 500 ∧
  ∀ (H' : Hp) (p : Addr) (L' : List V) (t : List Int), DiceL L' → H' d = some (.lst L') → t.Perm s → H' p = some (.lst (iV t)) → p ≠ d → But d H H' → Q (.ref p) H'
theorem scShuf : FnScope ["dice", "items", "left", "found", "turn"] ["dice", "items"] (defScope sShuf) := ⟨rfl, rfl, rfl, by decide +kernel, rfl, by decide +kernel, by decide +kernel⟩
section
variable {P : Program} {w : World} {K : PySem.W.Frag} {mg : Str → Option Value} {base : Heap}
theorem ok_shuf {f fR : Addr} {fd dR : FuncData} (F : Fun K "_law_shuffled" "_law_shuffled" sShuf f fd) (T : Txt K mg) (gR : mg "_law_roll" = some (.ref fR)) (kR : PySem.W.keepIn K (.ref fR) = true) (bR : Binds K dR ["dice", "total"] []) (FR : FnOk P w K mg base CX0 1 fR dR ["dice", "total"] spRoll) :
    FnOk P w K mg base CX0 2 f fd ["dice", "items"] (spShuf K) := by
  refine F.ok scShuf (fun vs H Q E h => ?_) (fun cdv A outer s H vs Q E hr h => ?_)
  · obtain ⟨d, l, L, t, rfl, _⟩ := h; rfl
  obtain ⟨d, l, L, xs, rfl, hd, hL, hl, lx, k⟩ := h
  refine ⟨_, pss_cons (ps_par (i := 2) (j := 3) rfl scShuf.nd rfl rfl (by decide) rfl rfl (pa_cons (pe_callTy call_list_of (by rfl) T.list bootList (pa_cons (pv 1) pa_nil)) (pa_cons (pe_lst pa_nil) pa_nil)) (by rfl))
    (pss_cons (ps_for PassesOwn.never rfl (pi_range1 rfl T.range (pa_cons (pe_callB call_len_seq (by rfl) T.len PySem.boot_len (pa_cons (pv 1) pa_nil)) pa_nil)) (pg_name (i := 4) scShuf.nd rfl (.inl rfl))
      (pss_one (ps_expr (pe_bm PySem.F.plainAttrs_list PySem.F.slot_list_append PySem.F.type_list_append mt_append (pv 3) (pa_cons (pe_bm PySem.F.plainAttrs_list PySem.F.slot_list_pop PySem.F.type_list_pop mt_popAt (pv 2) (pa_cons (pe_call FR hr (by rfl) gR kR bR .nil pass0 (pa_cons (pv 0) (pa_cons (pe_callB call_len_seq (by rfl) T.len PySem.boot_len (pa_cons (pv 2) pa_nil)) pa_nil))) pa_nil)) pa_nil)))))
    (pss_one (ps_ret (pv 3)))), ?_⟩
  refine ⟨_, rfl, l, _, rfl, hl, fun q hq => ⟨(by show 0 ≤ sizeLine; decide), fun r hr' => ⟨_, _, rfl, ?_⟩⟩⟩
  have nq : q ≠ d := fun z => by rw [z, hd] at hq; cases hq
  have hd1 : upd H q (.lst (iV xs)) d = some (.lst L) := by rw [upd_ne nq.symm]; exact hd
  have nr : r ≠ d := fun z => by rw [z, hd1] at hr'; cases hr'
  have nrq : r ≠ q := fun z => by rw [z, upd_same] at hr'; cases hr'
  have hl1 : SqL K (upd (upd H q (.lst (iV xs))) r (.lst [])) l (iV xs) ∨ SqT K (upd (upd H q (.lst (iV xs))) r (.lst [])) l (iV xs) := hl.imp (fun h => ((Same.new hq).trans (Same.new hr')).seq h) fun h => tupSame ((Same.new hq).trans (Same.new hr')) h
  have lV : (iV xs).length = xs.length := List.length_map _
  refine ⟨_, rfl, l, _, rfl, hl1, _, rfl, by omega, by omega, ?_⟩
  refine for_it (walk_range (lo := 0)) (fun n σ H' => ∃ (u v : List Int) (L' : List V) (o4 : Option V), σ = [some (.ref d), some (.ref l), some (.ref q), some (.ref r), o4] ∧ v.length = n ∧ (v ++ u).Perm xs ∧ DiceL L' ∧ H' d = some (.lst L') ∧ H' q = some (.lst (iV u)) ∧ H' r = some (.lst (iV v)) ∧ But d H H')
    ⟨xs, [], L, none, rfl, rfl, List.Perm.refl _, hL, ?_, ?_, upd_same, But.of ((Same.new hq).trans (Same.new hr'))⟩ (fun _ _ _ _ _ => trivial) (fun n x σ H2 H3 hn p y => ?_) fun σ H' p => ?_
  · rw [upd_ne nr.symm]
    exact hd1
  · rw [upd_ne nrq.symm]
    exact upd_same
  · obtain ⟨u, v, L', o4, rfl, lv, pm, hL', hd', hq', hr2, kb⟩ := p
    obtain ⟨rfl, rfl⟩ := y
    have lu : v.length + u.length = xs.length := by
      have := pm.length_eq
      rw [List.length_append] at this
      exact this
    have lU : (iV u).length = u.length := List.length_map _
    have hn2 : n < xs.length := by omega
    refine ⟨_, rfl, .inl ⟨rfl, _, SqL.of hr2⟩, _, rfl, .inl ⟨rfl, _, SqL.of hq'⟩, _, rfl, _, rfl, q, _, rfl, .inl (SqL.of hq'), d, ((iV u).length : Nat), L', rfl, by omega, Nat.lt_of_le_of_lt (by omega : ((iV u).length : Int).natAbs ≤ 500) (by decide), hd', hL', fun j L3 j0 j1 hL3 => ?_⟩
    have jl : j.toNat < u.length := by omega
    obtain ⟨z, hz⟩ : ∃ z, u[j.toNat]? = some z := ⟨_, List.getElem?_eq_getElem jl⟩
    have hq3 : upd H3 d (.lst L3) q = some (.lst (iV u)) := by rw [upd_ne nq]; exact hq'
    have hr3 : upd H3 d (.lst L3) r = some (.lst (iV v)) := by rw [upd_ne nr]; exact hr2
    have e1 : seqIndex? j (iV u).length = some j.toNat := by
      have c1 : ¬ j < 0 := by omega
      simp only [seqIndex?, c1, if_false]
      exact if_pos (by rw [Bool.and_eq_true, decide_eq_true_eq, decide_eq_true_eq]; omega)
    have e2 : (iV u).eraseIdx j.toNat = iV (u.eraseIdx j.toNat) := erase_map u j.toNat
    refine ⟨q, iV u, j, j.toNat, .int z, rfl, rfl, hq3, by omega, by omega, e1, by rw [List.getElem?_map, hz]; rfl, r, iV v, _, rfl, rfl, ?_, small1000 (by rw [List.length_map]; omega), ?_⟩
    · rw [upd_ne nrq]
      exact hr3
    · refine ⟨u.eraseIdx j.toNat, v ++ [z], L3, _, rfl, by rw [List.length_append, lv]; rfl, ?_, hL3, ?_, ?_, ?_, ((kb.trans But.dice).back hq).back ?_⟩
      · rw [List.append_assoc]
        refine List.Perm.trans (List.Perm.append_left v ?_) pm
        exact erase_perm hz
      · rw [upd_ne nr.symm, upd_ne nq.symm]
        exact upd_same
      · rw [upd_ne nrq.symm, upd_same, e2]
      · rw [upd_same]
        show _ = some (HO.lst (List.map V.int (v ++ [z])))
        rw [List.map_append]
        rfl
      · rw [upd_ne nrq] at hr'
        exact hr'
  · obtain ⟨u, v, L', o4, rfl, lv, pm, hL', hd', hq', hr2, kb⟩ := p
    have lu : v.length + u.length = xs.length := by
      have := pm.length_eq
      rw [List.length_append] at this
      exact this
    have u0 : u = [] := List.eq_nil_of_length_eq_zero (by omega)
    rw [u0, List.append_nil] at pm
    exact ⟨_, rfl, k _ r L' v hL' hd' pm hr2 nr kb⟩
end
end K4
namespace K4
open PySem PySem.Spec PyProof.Rows L2 RZ
/-! ### the law's table of sums -/
def rowOf (N : Nat) (g : Nat → Int) : List Int := (List.range (N + 1)).map g
theorem rowOf_len {N : Nat} {g : Nat → Int} : (rowOf N g).length = N + 1 := by
  unfold rowOf
  rw [List.length_map, List.length_range]
theorem rowOf_get {N j : Nat} {g : Nat → Int} (h : j ≤ N) : (iV (rowOf N g))[j]? = some (.int (g j)) := by
  unfold rowOf
  rw [List.getElem?_map, List.getElem?_map, List.getElem?_range (by omega)]
  rfl
theorem rowOf_congr {N : Nat} {g h : Nat → Int} (e : ∀ k, k ≤ N → g k = h k) : rowOf N g = rowOf N h := by
  unfold rowOf
  refine List.map_congr_left fun k hk => e k ?_
  have := List.mem_range.mp hk
  omega
theorem rowOf_set {N j : Nat} {g : Nat → Int} {v : Int} : (iV (rowOf N g)).set j (.int v) = iV (rowOf N fun k => if k = j then v else g k) := by
  unfold rowOf
  refine List.ext_getElem? fun k => ?_
  rw [List.getElem?_set, List.getElem?_map, List.getElem?_map, List.getElem?_map, List.getElem?_map]
  by_cases c : j = k
  · subst c
    rw [if_pos rfl]
    by_cases d : j < N + 1
    · rw [List.getElem?_range d, if_pos (by rw [List.length_map, List.length_map, List.length_range]; exact d)]
      show _ = some (V.int (if j = j then v else g j))
      rw [if_pos rfl]
    · rw [if_neg (by rw [List.length_map, List.length_map, List.length_range]; exact d), List.getElem?_eq_none (by rw [List.length_range]; omega)]
      rfl
  · rw [if_neg c]
    by_cases d : k < N + 1
    · rw [List.getElem?_range d]
      show some (V.int (g k)) = some (V.int (if k = j then v else g k))
      rw [if_neg fun z => c z.symm]
    · rw [List.getElem?_eq_none (by rw [List.length_range]; omega)]
      rfl
/-- 1 for a single degree -/
def one1 (D : List Int) (k : Nat) : Int := if D.contains (k : Int) = true then 1 else 0
theorem val_not {D : List Int} {k : Nat} (h : made D k = false) : val D k = one1 D k := by
  unfold val
  rw [h]
  rfl
theorem val_yes {D : List Int} {k : Nat} (h : made D k = true) : val D k = 2 := by
  unfold val
  rw [h]
  rfl
theorem filter_made {D : List Int} {k : Nat} (h1 : ∀ d ∈ D, 1 ≤ d) : decide ((D.filter fun d => decide (d < (k : Int)) && rch D ((k : Int) - d).toNat) = []) = !made D k := by
  rw [Bool.eq_iff_iff, decide_eq_true_eq, Bool.not_eq_true', List.filter_eq_nil_iff]
  refine ⟨fun h => ?_, fun h d hd q => ?_⟩
  · cases e : made D k with
    | false => rfl
    | true =>
      obtain ⟨d, hd, h2, h3⟩ := (made_iff h1).mp e
      exact absurd (by rw [decide_eq_true h2, h3]; rfl) (h d hd)
  · rw [Bool.and_eq_true, decide_eq_true_eq] at q
    rw [(made_iff h1).mpr ⟨d, hd, q.1, q.2⟩] at h
    cases h
abbrev nSums : List Str := ["most", "degrees", "found", "degree", "at"]
theorem scLSums : FnScope nSums ["most", "degrees"] (defScope sLSums) := ⟨rfl, rfl, rfl, by decide +kernel, rfl, by decide +kernel, by decide +kernel⟩
def spLSumsT (K : PySem.W.Frag) : Sp := fun vs H Q _ => ∃ (a : Addr) (D : List Int) (N : Nat), vs = [.int (N : Int), .ref a] ∧ SqT K H a (iV D) ∧ D.length ≤ 100 ∧ (∀ d ∈ D, 1 ≤ d ∧ d ≤ 1000) ∧ N ≤ 1000 ∧ ∀ (H' : Hp) (p : Addr), Same H H' → H' p = some (.lst (iV (rowOf N (val D)))) → Q (.ref p) H'
section
variable {P : Program} {w : World} {K : PySem.W.Frag} {mg : Str → Option Value} {base : Heap}
theorem ok_lsumsT {f : Addr} {fd : FuncData} (F : Fun K "_law_dg_sums" "_law_dg_sums" sLSums f fd) (T : Txt K mg) : FnOk P w K mg base CX0 1 f fd ["most", "degrees"] (spLSumsT K) := by
  refine F.ok scLSums (fun vs H Q E h => ?_) (fun cdv A outer s H vs Q E hr h => ?_)
  · obtain ⟨a, D, n, rfl, _⟩ := h; rfl
  obtain ⟨a, D, N, rfl, ha, ln, hD, h1, k⟩ := h
  refine ⟨_, pss_cons (ps_set (i := 2) scLSums.nd rfl (.inr rfl) (pe_op op_rep (pe_lst (pa_cons pe_int pa_nil)) (pe_op op_add (pv 0) pe_int)))
    (pss_cons (ps_for PassesOwn.never rfl (pi_tup (pv 1)) (pg_name (i := 3) scLSums.nd rfl (.inl rfl))
      (pss_one (ps_if (pt_cmpR op_le (pv 3) (pv 0) (nomark _)) (pss_one (ps_asg pe_int (pg_sub (pv 2) (pv 3) set_list))) pss_nil)))
    (pss_cons (ps_for PassesOwn.never rfl (pi_range1 rfl T.range (pa_cons (pe_op op_add (pv 0) pe_int) pa_nil)) (pg_name (i := 4) scLSums.nd rfl (.inr rfl))
      (pss_one (ps_if (pt_cmpR (op_neD hr.units) (pe_lc (tt := tAnd (tTest (tOp (rI0 fun i j => .bl (decide (i < j))) (tVar 3) (tVar 4))) (tTest (tOp (rI0 fun i j => .bl (decide (i > j))) (tOp (rIxL K) (tVar 2) (tOp (rI0 fun i j => .int (i - j)) (tVar 4) (tVar 3))) (tC (.int 0)))))
          (own := [("degree", 3)]) (g := gName 3) rfl scLSums.nd (pi_tup (pv 1)) (blkOk_by (N := nSums) (sc := defScope sLSums) (by decide +kernel))
          (fun _ _ _ _ _ => pg_name (i := 3) scLSums.nd rfl (Or.inl rfl)) (fun _ _ _ _ _ => pts_one (PW.pt (pw_and (pt_cmpR op_lt (pv 3) (pv 4) (nomark _)) (pw_and1 (pt_cmpR op_gt (pe_ix ix_list (pv 2) (pe_op op_sub (pv 4) (pv 3)) (fun _ _ => rfl)) pe_int (nomark _)))))) (fun _ _ _ _ _ => pe_int)) (pe_lst pa_nil) (nomark _))
        (pss_one (ps_asg pe_int (pg_sub (pv 2) (pv 4) set_list))) pss_nil)))
    (pss_one (ps_ret (pv 2))))), ?_⟩
  refine ⟨(by show 1 ≤ sizeLine; decide), fun l hl => ⟨_, rfl, _, _, rfl, rfl, l, (N : Int) + 1, [.int 0], rfl, rfl, upd_same, by omega, by omega, ?_, fun q hq => ?_⟩⟩
  · have : N + 1 ≤ sizeLine := by rw [sizeLine_eq]; omega
    show 1 * ((N : Int) + 1).toNat ≤ sizeLine
    omega
  have e0 : (List.replicate ((N : Int) + 1).toNat [V.int 0]).flatten = iV (rowOf N fun k => if (D.take 0).contains (k : Int) = true then 1 else 0) := by
    rw [show ((N : Int) + 1).toNat = N + 1 by omega, List.flatten_replicate_singleton]
    refine List.ext_getElem? fun k => ?_
    rw [List.getElem?_replicate]
    by_cases c : k < N + 1
    · rw [if_pos c, rowOf_get (by omega)]
      rfl
    · rw [if_neg c, List.getElem?_eq_none (by rw [List.length_map, rowOf_len]; omega)]
  rw [e0]
  have s0 : Same H (upd H l (.lst [.int 0])) := Same.new hl
  have hHq : H q = none := none_of s0 hq
  have ix : ∀ {g : Nat → Int} {j : Int}, 0 ≤ j → j ≤ N → ixN (iV (rowOf N g)).length j = some j.toNat := fun {g j} a b => by
    rw [List.length_map, rowOf_len]
    unfold ixN
    rw [if_pos a, if_pos (by omega)]
  -- the single ones
  refine ⟨_, rfl, a, rfl, ⟨_, tupSame (Same.back s0 hHq) ha⟩, for_it (walk_tup (xs := iV D)) (fun i σ H' => (∃ o3, σ = [some (.int N), some (.ref a), some (.ref q), o3, none]) ∧ Same H H' ∧ H' q = some (.lst (iV (rowOf N fun k => if (D.take i).contains (k : Int) = true then 1 else 0)))) ⟨⟨_, rfl⟩, Same.back s0 hHq, upd_same⟩ (fun _ _ _ _ p => tupSame p.2.1 ha) (fun i x σ H0 H1 hi p y => ?_) fun σ H1 p => ?_⟩
  · obtain ⟨⟨o3, rfl⟩, s1, h1q⟩ := p
    obtain ⟨rfl, hx⟩ := y
    rw [List.getElem?_map] at hx
    obtain ⟨d, hd1, rfl⟩ := Option.map_eq_some_iff.mp hx
    have hd := hD d (List.mem_of_getElem? hd1)
    have ec : ∀ k : Nat, (D.take (i + 1)).contains (k : Int) = ((D.take i).contains (k : Int) || decide ((k : Int) = d)) := fun k => by
      rw [take_more hd1, Bool.eq_iff_iff, Bool.or_eq_true, List.contains_iff_mem, List.contains_iff_mem, List.mem_append, List.mem_singleton, decide_eq_true_eq]
    refine ⟨_, rfl, _, rfl, _, _, rfl, rfl, _, rfl, ?_⟩
    by_cases c : d ≤ (N : Int)
    · rw [decide_eq_true c]
      refine iteT ⟨_, rfl, _, rfl, q, _, _, d.toNat, rfl, rfl, h1q, ix (by omega) c, ?_⟩
      refine ⟨⟨_, rfl⟩, Same.back s1 hHq, ?_⟩
      rw [upd_same, rowOf_set]
      congr 2
      congr 1
      refine rowOf_congr fun k hk => ?_
      rw [ec k]
      by_cases e : k = d.toNat
      · rw [if_pos e, decide_eq_true (by omega), Bool.or_true]
        rfl
      · rw [if_neg e, decide_eq_false (by omega), Bool.or_false]
    · rw [decide_eq_false c]
      refine iteF ⟨⟨_, rfl⟩, s1, ?_⟩
      rw [h1q]
      congr 2
      congr 1
      refine rowOf_congr fun k hk => ?_
      rw [ec k, decide_eq_false (by omega), Bool.or_false]
  obtain ⟨⟨o3, rfl⟩, s1, h1q⟩ := p
  rw [List.length_map, List.take_length] at h1q
  -- the sums
  refine ⟨_, rfl, _, _, rfl, rfl, (N : Int) + 1, rfl, by omega, by omega, for_it (walk_range (lo := 0) (n := ((N : Int) + 1).toNat)) (fun i σ H' => (∃ o4, σ = [some (.int N), some (.ref a), some (.ref q), o3, o4]) ∧ Same H H' ∧ H' q = some (.lst (iV (rowOf N fun k => if k < i then val D k else one1 D k)))) ⟨⟨_, rfl⟩, s1, ?_⟩ (fun _ _ _ _ _ => trivial) (fun i x σ H0 H2 hi p y => ?_) fun σ H2 p => ?_⟩
  · rw [h1q]
    congr 2
  · obtain ⟨⟨o4, rfl⟩, s2, h2q⟩ := p
    obtain ⟨rfl, rfl⟩ := y
    have ha2 := tupSame s2 ha
    have hi' : i ≤ N := by omega
    refine ⟨_, rfl, a, rfl, ⟨_, ha2⟩, fun D' hD' => lc_ints (K := K) (a := a) (L := D) (fun _ => .int 1) (fun d => decide (d < (i : Int)) && rch D ((i : Int) - d).toNat) hD' ha2 (by omega) (fun _ => rfl) (fun d H3 Q3 hm s g => ?_) (fun d H3 Q3 hm hp s g => g H3 (Same.refl _)) fun H3 s3 hD3 => ?_⟩
    · have hd := hD d hm
      refine ⟨_, rfl, _, rfl, _, _, rfl, rfl, _, rfl, ?_⟩
      rw [Int.zero_add]
      have g := g H3 (Same.refl _)
      by_cases c : d < (i : Int)
      · rw [decide_eq_true c] at g ⊢
        refine iteT ⟨_, rfl, _, rfl, _, rfl, _, _, rfl, rfl, q, _, _, _, rfl, rfl, SqL.of (s _ _ h2q), at_of (j := ((i : Int) - d).toNat) (by omega) (rowOf_get (by omega)), _, _, rfl, rfl, _, rfl, ?_⟩
        rw [if_pos (by omega)]
        have e := val_pos (D := D) (k := ((i : Int) - d).toNat)
        show Q3 (decide (0 < val D ((i : Int) - d).toNat)) H3
        rw [e]
        exact g
      · rw [decide_eq_false c] at g ⊢
        exact iteF g
    · refine ⟨(by show 0 ≤ sizeLine; decide), fun e he => ?_⟩
      have s4 := Same.new (o := .lst []) he
      have hl3 : (D.filter fun d => decide (d < (i : Int)) && rch D ((i : Int) - d).toNat).map (fun _ => V.int 1) = iV ((D.filter fun d => decide (d < (i : Int)) && rch D ((i : Int) - d).toNat).map fun _ => (1 : Int)) := by
        show _ = List.map V.int (List.map _ _)
        rw [List.map_map]
        rfl
      rw [hl3] at hD3
      refine ⟨.list _, .list [], .lst (SqL.of (s4 _ _ hD3)) (dp_ints _), .lst (SqL.of upd_same) .nil, (Shp.lst Shp.int _).shaped (by decide), (Shp.lst Shp.int ([] : List Int)).shaped (by decide), _, rfl, ?_⟩
      rw [eqv_empty (Shp.lst Shp.int _) (by decide)]
      rw [show decide (List.map PyData.int (List.map (fun _ => (1 : Int)) (D.filter fun d => decide (d < (i : Int)) && rch D ((i : Int) - d).toNat)) = []) = decide ((D.filter fun d => decide (d < (i : Int)) && rch D ((i : Int) - d).toNat) = []) from decide_eq_decide.mpr (by rw [List.map_eq_nil_iff, List.map_eq_nil_iff])]
      rw [filter_made fun d hd => (hD d hd).1, Bool.not_not]
      have s34 := s3.trans s4
      have h4q := s34 _ _ h2q
      generalize upd H3 e (.lst []) = H4 at *
      cases c : made D i with
      | true =>
        refine iteT ⟨_, rfl, _, rfl, q, _, _, i, rfl, rfl, h4q, by rw [ix (by omega) (by omega)]; congr 1; omega, ⟨_, rfl⟩, Same.back (s2.trans s34) hHq, ?_⟩
        rw [upd_same, rowOf_set]
        congr 2
        congr 1
        refine rowOf_congr fun k hk => ?_
        by_cases z : k = i
        · subst z
          rw [if_pos rfl, if_pos (by omega), val_yes c]
        · rw [if_neg z]
          by_cases y : k < i
          · rw [if_pos y, if_pos (by omega)]
          · rw [if_neg y, if_neg (by omega)]
      | false =>
        refine iteF ⟨⟨_, rfl⟩, s2.trans s34, ?_⟩
        rw [h4q]
        congr 2
        congr 1
        refine rowOf_congr fun k hk => ?_
        by_cases z : k = i
        · subst z
          rw [if_neg (by omega), if_pos (by omega), val_not c]
        · by_cases y : k < i
          · rw [if_pos y, if_pos (by omega)]
          · rw [if_neg y, if_neg (by omega)]
  · obtain ⟨⟨o4, rfl⟩, s2, h2q⟩ := p
    refine ⟨_, rfl, k H2 q s2 ?_⟩
    rw [h2q]
    congr 2
    congr 1
    refine rowOf_congr fun k hk => ?_
    rw [if_pos (by omega)]
end
def spLSumsL (K : PySem.W.Frag) : Sp := fun vs H Q _ => ∃ (a : Addr) (D : List Int) (N : Nat), vs = [.int (N : Int), .ref a] ∧ SqL K H a (iV D) ∧ D.length ≤ 100 ∧ (∀ d ∈ D, 1 ≤ d ∧ d ≤ 1000) ∧ N ≤ 1000 ∧ ∀ (H' : Hp) (p : Addr), Same H H' → H' p = some (.lst (iV (rowOf N (val D)))) → Q (.ref p) H'
section
variable {P : Program} {w : World} {K : PySem.W.Frag} {mg : Str → Option Value} {base : Heap}
theorem ok_lsumsL {f : Addr} {fd : FuncData} (F : Fun K "_law_dg_sums" "_law_dg_sums" sLSums f fd) (T : Txt K mg) : FnOk P w K mg base CX0 1 f fd ["most", "degrees"] (spLSumsL K) := by
  refine F.ok scLSums (fun vs H Q E h => ?_) (fun cdv A outer s H vs Q E hr h => ?_)
  · obtain ⟨a, D, n, rfl, _⟩ := h; rfl
  obtain ⟨a, D, N, rfl, ha, ln, hD, h1, k⟩ := h
  refine ⟨_, pss_cons (ps_set (i := 2) scLSums.nd rfl (.inr rfl) (pe_op op_rep (pe_lst (pa_cons pe_int pa_nil)) (pe_op op_add (pv 0) pe_int)))
    (pss_cons (ps_for PassesOwn.never rfl (pi_list (pv 1)) (pg_name (i := 3) scLSums.nd rfl (.inl rfl))
      (pss_one (ps_if (pt_cmpR op_le (pv 3) (pv 0) (nomark _)) (pss_one (ps_asg pe_int (pg_sub (pv 2) (pv 3) set_list))) pss_nil)))
    (pss_cons (ps_for PassesOwn.never rfl (pi_range1 rfl T.range (pa_cons (pe_op op_add (pv 0) pe_int) pa_nil)) (pg_name (i := 4) scLSums.nd rfl (.inr rfl))
      (pss_one (ps_if (pt_cmpR (op_neD hr.units) (pe_lc (tt := tAnd (tTest (tOp (rI0 fun i j => .bl (decide (i < j))) (tVar 3) (tVar 4))) (tTest (tOp (rI0 fun i j => .bl (decide (i > j))) (tOp (rIxL K) (tVar 2) (tOp (rI0 fun i j => .int (i - j)) (tVar 4) (tVar 3))) (tC (.int 0)))))
          (own := [("degree", 3)]) (g := gName 3) rfl scLSums.nd (pi_list (pv 1)) (blkOk_by (N := nSums) (sc := defScope sLSums) (by decide +kernel))
          (fun _ _ _ _ _ => pg_name (i := 3) scLSums.nd rfl (Or.inl rfl)) (fun _ _ _ _ _ => pts_one (PW.pt (pw_and (pt_cmpR op_lt (pv 3) (pv 4) (nomark _)) (pw_and1 (pt_cmpR op_gt (pe_ix ix_list (pv 2) (pe_op op_sub (pv 4) (pv 3)) (fun _ _ => rfl)) pe_int (nomark _)))))) (fun _ _ _ _ _ => pe_int)) (pe_lst pa_nil) (nomark _))
        (pss_one (ps_asg pe_int (pg_sub (pv 2) (pv 4) set_list))) pss_nil)))
    (pss_one (ps_ret (pv 2))))), ?_⟩
  refine ⟨(by show 1 ≤ sizeLine; decide), fun l hl => ⟨_, rfl, _, _, rfl, rfl, l, (N : Int) + 1, [.int 0], rfl, rfl, upd_same, by omega, by omega, ?_, fun q hq => ?_⟩⟩
  · have : N + 1 ≤ sizeLine := by rw [sizeLine_eq]; omega
    show 1 * ((N : Int) + 1).toNat ≤ sizeLine
    omega
  have e0 : (List.replicate ((N : Int) + 1).toNat [V.int 0]).flatten = iV (rowOf N fun k => if (D.take 0).contains (k : Int) = true then 1 else 0) := by
    rw [show ((N : Int) + 1).toNat = N + 1 by omega, List.flatten_replicate_singleton]
    refine List.ext_getElem? fun k => ?_
    rw [List.getElem?_replicate]
    by_cases c : k < N + 1
    · rw [if_pos c, rowOf_get (by omega)]
      rfl
    · rw [if_neg c, List.getElem?_eq_none (by rw [List.length_map, rowOf_len]; omega)]
  rw [e0]
  have s0 : Same H (upd H l (.lst [.int 0])) := Same.new hl
  have hHq : H q = none := none_of s0 hq
  have ix : ∀ {g : Nat → Int} {j : Int}, 0 ≤ j → j ≤ N → ixN (iV (rowOf N g)).length j = some j.toNat := fun {g j} a b => by
    rw [List.length_map, rowOf_len]
    unfold ixN
    rw [if_pos a, if_pos (by omega)]
  -- the single ones
  refine ⟨_, rfl, a, rfl, ⟨_, lstSame (Same.back s0 hHq) ha⟩, for_it (walk_list (xs := iV D)) (fun i σ H' => (∃ o3, σ = [some (.int N), some (.ref a), some (.ref q), o3, none]) ∧ Same H H' ∧ H' q = some (.lst (iV (rowOf N fun k => if (D.take i).contains (k : Int) = true then 1 else 0)))) ⟨⟨_, rfl⟩, Same.back s0 hHq, upd_same⟩ (fun _ _ _ _ p => lstSame p.2.1 ha) (fun i x σ H0 H1 hi p y => ?_) fun σ H1 p => ?_⟩
  · obtain ⟨⟨o3, rfl⟩, s1, h1q⟩ := p
    obtain ⟨rfl, hx⟩ := y
    rw [List.getElem?_map] at hx
    obtain ⟨d, hd1, rfl⟩ := Option.map_eq_some_iff.mp hx
    have hd := hD d (List.mem_of_getElem? hd1)
    have ec : ∀ k : Nat, (D.take (i + 1)).contains (k : Int) = ((D.take i).contains (k : Int) || decide ((k : Int) = d)) := fun k => by
      rw [take_more hd1, Bool.eq_iff_iff, Bool.or_eq_true, List.contains_iff_mem, List.contains_iff_mem, List.mem_append, List.mem_singleton, decide_eq_true_eq]
    refine ⟨_, rfl, _, rfl, _, _, rfl, rfl, _, rfl, ?_⟩
    by_cases c : d ≤ (N : Int)
    · rw [decide_eq_true c]
      refine iteT ⟨_, rfl, _, rfl, q, _, _, d.toNat, rfl, rfl, h1q, ix (by omega) c, ?_⟩
      refine ⟨⟨_, rfl⟩, Same.back s1 hHq, ?_⟩
      rw [upd_same, rowOf_set]
      congr 2
      congr 1
      refine rowOf_congr fun k hk => ?_
      rw [ec k]
      by_cases e : k = d.toNat
      · rw [if_pos e, decide_eq_true (by omega), Bool.or_true]
        rfl
      · rw [if_neg e, decide_eq_false (by omega), Bool.or_false]
    · rw [decide_eq_false c]
      refine iteF ⟨⟨_, rfl⟩, s1, ?_⟩
      rw [h1q]
      congr 2
      congr 1
      refine rowOf_congr fun k hk => ?_
      rw [ec k, decide_eq_false (by omega), Bool.or_false]
  obtain ⟨⟨o3, rfl⟩, s1, h1q⟩ := p
  rw [List.length_map, List.take_length] at h1q
  -- the sums
  refine ⟨_, rfl, _, _, rfl, rfl, (N : Int) + 1, rfl, by omega, by omega, for_it (walk_range (lo := 0) (n := ((N : Int) + 1).toNat)) (fun i σ H' => (∃ o4, σ = [some (.int N), some (.ref a), some (.ref q), o3, o4]) ∧ Same H H' ∧ H' q = some (.lst (iV (rowOf N fun k => if k < i then val D k else one1 D k)))) ⟨⟨_, rfl⟩, s1, ?_⟩ (fun _ _ _ _ _ => trivial) (fun i x σ H0 H2 hi p y => ?_) fun σ H2 p => ?_⟩
  · rw [h1q]
    congr 2
  · obtain ⟨⟨o4, rfl⟩, s2, h2q⟩ := p
    obtain ⟨rfl, rfl⟩ := y
    have ha2 := lstSame s2 ha
    have hi' : i ≤ N := by omega
    refine ⟨_, rfl, a, rfl, ⟨_, ha2⟩, fun D' hD' => lc_intsL (K := K) (a := a) (L := D) (fun _ => .int 1) (fun d => decide (d < (i : Int)) && rch D ((i : Int) - d).toNat) hD' ha2 (by omega) (fun _ => rfl) (fun d H3 Q3 hm s g => ?_) (fun d H3 Q3 hm hp s g => g H3 (Same.refl _)) fun H3 s3 hD3 => ?_⟩
    · have hd := hD d hm
      refine ⟨_, rfl, _, rfl, _, _, rfl, rfl, _, rfl, ?_⟩
      rw [Int.zero_add]
      have g := g H3 (Same.refl _)
      by_cases c : d < (i : Int)
      · rw [decide_eq_true c] at g ⊢
        refine iteT ⟨_, rfl, _, rfl, _, rfl, _, _, rfl, rfl, q, _, _, _, rfl, rfl, SqL.of (s _ _ h2q), at_of (j := ((i : Int) - d).toNat) (by omega) (rowOf_get (by omega)), _, _, rfl, rfl, _, rfl, ?_⟩
        rw [if_pos (by omega)]
        have e := val_pos (D := D) (k := ((i : Int) - d).toNat)
        show Q3 (decide (0 < val D ((i : Int) - d).toNat)) H3
        rw [e]
        exact g
      · rw [decide_eq_false c] at g ⊢
        exact iteF g
    · refine ⟨(by show 0 ≤ sizeLine; decide), fun e he => ?_⟩
      have s4 := Same.new (o := .lst []) he
      have hl3 : (D.filter fun d => decide (d < (i : Int)) && rch D ((i : Int) - d).toNat).map (fun _ => V.int 1) = iV ((D.filter fun d => decide (d < (i : Int)) && rch D ((i : Int) - d).toNat).map fun _ => (1 : Int)) := by
        show _ = List.map V.int (List.map _ _)
        rw [List.map_map]
        rfl
      rw [hl3] at hD3
      refine ⟨.list _, .list [], .lst (SqL.of (s4 _ _ hD3)) (dp_ints _), .lst (SqL.of upd_same) .nil, (Shp.lst Shp.int _).shaped (by decide), (Shp.lst Shp.int ([] : List Int)).shaped (by decide), _, rfl, ?_⟩
      rw [eqv_empty (Shp.lst Shp.int _) (by decide)]
      rw [show decide (List.map PyData.int (List.map (fun _ => (1 : Int)) (D.filter fun d => decide (d < (i : Int)) && rch D ((i : Int) - d).toNat)) = []) = decide ((D.filter fun d => decide (d < (i : Int)) && rch D ((i : Int) - d).toNat) = []) from decide_eq_decide.mpr (by rw [List.map_eq_nil_iff, List.map_eq_nil_iff])]
      rw [filter_made fun d hd => (hD d hd).1, Bool.not_not]
      have s34 := s3.trans s4
      have h4q := s34 _ _ h2q
      generalize upd H3 e (.lst []) = H4 at *
      cases c : made D i with
      | true =>
        refine iteT ⟨_, rfl, _, rfl, q, _, _, i, rfl, rfl, h4q, by rw [ix (by omega) (by omega)]; congr 1; omega, ⟨_, rfl⟩, Same.back (s2.trans s34) hHq, ?_⟩
        rw [upd_same, rowOf_set]
        congr 2
        congr 1
        refine rowOf_congr fun k hk => ?_
        by_cases z : k = i
        · subst z
          rw [if_pos rfl, if_pos (by omega), val_yes c]
        · rw [if_neg z]
          by_cases y : k < i
          · rw [if_pos y, if_pos (by omega)]
          · rw [if_neg y, if_neg (by omega)]
      | false =>
        refine iteF ⟨⟨_, rfl⟩, s2.trans s34, ?_⟩
        rw [h4q]
        congr 2
        congr 1
        refine rowOf_congr fun k hk => ?_
        by_cases z : k = i
        · subst z
          rw [if_neg (by omega), if_pos (by omega), val_not c]
        · by_cases y : k < i
          · rw [if_pos y, if_pos (by omega)]
          · rw [if_neg y, if_neg (by omega)]
  · obtain ⟨⟨o4, rfl⟩, s2, h2q⟩ := p
    refine ⟨_, rfl, k H2 q s2 ?_⟩
    rw [h2q]
    congr 2
    congr 1
    refine rowOf_congr fun k hk => ?_
    rw [if_pos (by omega)]
end
end K4
namespace K4
open PySem PySem.Spec PyProof.Rows L2 RZ
/-! ### rules -/
def rSumT (K : PySem.W.Frag) : List V → Hp → VK → Prop := fun vs H Q => ∃ (a : Addr) (ns : List Int), vs = [V.ref a] ∧ SqT K H a (ns.map V.int) ∧ Q (.int ns.sum) H
theorem cr_sumT {X : Cx} (hc : X.calm = true) : CallR X (.builtin "sum") (rSumT X.K) := by
  intro pins s σ H vs us Q I r h
  obtain ⟨a, ns, rfl, hs, q⟩ := h
  obtain ⟨its, rv, p, _⟩ := I.tuple hs
  rw [Vals.ref1 r]
  have hl : s.heap.IsTuple a its.toArray := p
  obtain ⟨xs, hx⟩ := rv.ints.allInts.items
  have hn : numsOf its.toArray.toList = ns := by rw [show its.toArray.toList = its from rfl, rv.ints.numsOf]
  rw [hx] at hl hn
  rw [nums_intItems] at hn
  refine PySem.W.ktm_sumG (I.ok.hd hc) hl fun h' tk t' hk => ?_
  rw [preSum_eq, List.take_of_length_le (by simp), hn]
  exact ⟨.int _, H, I.kept hk, ⟨_, rfl⟩, q⟩
theorem call_repr_bl {X : Cx} : CallR X (.builtin "repr") (fun xs H Q => ∃ b, xs = [.bl b] ∧ Q (.str (if b then "True" else "False")) H) := by
  intro pins s σ H xs us Q I r h
  obtain ⟨b, rfl, q⟩ := h
  obtain ⟨u, rfl, ru⟩ := vals1 r
  cases (show u = Value.bool b from ru)
  exact PySem.P.repr_of_bool ⟨.str _, H, I.tok _, ⟨_, rfl⟩, q⟩
theorem bootRepr : bootBuiltins "repr" = some (.builtin "repr") := by decide +kernel
/-! ### the law: what is made, lots that bar -/
theorem scLMade : FnScope ["number", "degrees"] ["number", "degrees"] (defScope sLMade) := ⟨rfl, rfl, rfl, by decide +kernel, rfl, by decide +kernel, by decide +kernel⟩
theorem scLBar : FnScope ["evens", "odds", "lot", "told", "index", "odd"] ["evens", "odds", "lot"] (defScope sLBar) := ⟨rfl, rfl, rfl, by decide +kernel, rfl, by decide +kernel, by decide +kernel⟩
theorem scLBarring : FnScope ["evens", "odds", "lot"] ["evens", "odds"] (defScope sLBarring) := ⟨rfl, rfl, rfl, by decide +kernel, rfl, by decide +kernel, by decide +kernel⟩
theorem scLTop : FnScope ["evens", "odds"] ["evens", "odds"] (defScope sLTop) := ⟨rfl, rfl, rfl, by decide +kernel, rfl, by decide +kernel, by decide +kernel⟩
def spLBarring (K : PySem.W.Frag) : Sp := fun vs H Q _ => ∃ (a b : Addr) (E O : List Int), vs = [.ref a, .ref b] ∧ SqT K H a (iV E) ∧ Ev E ∧ SqT K H b (iV O) ∧ Od O ∧ ∀ (H' : Hp) (p : Addr) (ys : List V), Same H H' → H p = none → H' p = some (.lst ys) → TupsV K H' ys (barring E O) → Q (.ref p) H'
def spTop (K : PySem.W.Frag) : Sp := fun vs H Q _ => ∃ (a b : Addr) (E O : List Int), vs = [.ref a, .ref b] ∧ SqT K H a (iV E) ∧ SqT K H b (iV O) ∧ Q (.int (O.sum - E.sum + E.length)) H
section
variable {P : Program} {w : World} {K : PySem.W.Frag} {mg : Str → Option Value} {base : Heap} {fS fL fB fC fD fM : Addr} {dS dL dB dC dD dM : FuncData}
theorem ok_lmade {f : Addr} {fd : FuncData} (F : Fun K "_law_dg_made" "_law_dg_made" sLMade f fd) (gS : mg "_law_dg_sums" = some (.ref fS)) (kS : PySem.W.keepIn K (.ref fS) = true) (bS : Binds K dS ["most", "degrees"] [])
    (S : FnOk P w K mg base CX0 1 fS dS ["most", "degrees"] (spLSumsT K)) : FnOk P w K mg base CX0 2 f fd ["number", "degrees"] (spMade K) := by
  refine F.ok scLMade (fun vs H Q E h => ?_) (fun cdv A outer s H vs Q E hr h => ?_)
  · obtain ⟨a, D, n, rfl, _⟩ := h; rfl
  obtain ⟨a, D, n, rfl, ha, ln, hD, h0, h1, k⟩ := h
  refine ⟨_, pss_one (ps_ret (pe_and (pe_cmpR op_gt (pv 0) pe_int (nomark _)) (pe_one (pe_cmpR op_eq (pe_ix ix_list (pe_call S hr (by rfl) gS kS bS .nil pass0 (pa_cons (pv 0) (pa_cons (pv 1) pa_nil))) (pv 0) (fun _ _ => rfl)) pe_int (nomark _))))), ?_⟩
  refine ⟨_, rfl, _, _, rfl, rfl, _, rfl, ?_⟩
  by_cases c : 0 < n
  · rw [decide_eq_true c]
    obtain ⟨N, rfl⟩ : ∃ N : Nat, n = (N : Int) := ⟨n.toNat, by omega⟩
    refine iteT ⟨_, rfl, _, rfl, a, D, N, rfl, ha, by omega, fun d hd => ?_, by omega, fun H1 p s1 hp => ⟨_, rfl, p, _, _, _, rfl, rfl, SqL.of hp, at_of (j := N) rfl (rowOf_get (Nat.le_refl N)), rfl, ?_⟩⟩
    · have := hD d hd
      omega
    · have q := k H1 s1
      rw [show ((N : Int)).toNat = N by omega] at q
      rw [dInt, val_two]
      exact q
  · rw [decide_eq_false c]
    refine iteF ?_
    have q := k H (Same.refl _)
    rw [show n.toNat = 0 by omega, made_zero fun d hd => (hD d hd).1] at q
    exact q
theorem ok_lbar {f : Addr} {fd : FuncData} (F : Fun K "_law_dg_does_bar" "_law_dg_does_bar" sLBar f fd) (T : Txt K mg) (gS : mg "_law_dg_sums" = some (.ref fS)) (kS : PySem.W.keepIn K (.ref fS) = true) (bS : Binds K dS ["most", "degrees"] [])
    (S : FnOk P w K mg base CX0 1 fS dS ["most", "degrees"] (spLSumsL K)) : FnOk P w K mg base CX0 2 f fd ["evens", "odds", "lot"] (spBar K) := by
  refine F.ok scLBar (fun vs H Q E h => ?_) (fun cdv A outer s H vs Q E hr h => ?_)
  · obtain ⟨a, b, c, E', O, l, rfl, _⟩ := h; rfl
  obtain ⟨a, b, c, EV, OD, l, rfl, ha, hE, hb, hO, hc, hl, k⟩ := h
  refine ⟨_, pss_cons (ps_set (i := 3) scLBar.nd rfl (.inr rfl) (pe_call S hr (by rfl) gS kS bS .nil pass0 (pa_cons (pe_op op_add (pe_callB (cr_max rfl) (by rfl) T.max bootMax (pa_cons (pe_op op_cat (pe_lst (pa_cons pe_int pa_nil)) (pe_callTy call_list_of (by rfl) T.list bootList (pa_cons (pv 1) pa_nil))) pa_nil)) pe_int)
      (pa_cons (pe_lc (te := tOp (rIxT K) (tVar 0) (tVar 4)) (own := [("index", 4)]) (g := gName 4) rfl scLBar.nd (pi_tup (pv 2)) (blkOk_by (N := ["evens", "odds", "lot", "told", "index", "odd"]) (sc := defScope sLBar) (by decide +kernel))
        (fun _ _ _ _ _ => pg_name (i := 4) scLBar.nd rfl (Or.inl rfl)) (fun _ _ _ _ _ => pts_nil) (fun _ _ _ _ _ => pe_ix ix_tup (pv 0) (pv 4) (fun _ _ => rfl))) pa_nil))))
    (pss_one (ps_ret (pe_cmpR op_lt (pe_callB call_len_seq (by rfl) T.len PySem.boot_len (pa_cons (pe_lc (tt := tTest (tOp rEq (tOp (rIxL K) (tVar 3) (tOp (rI0 fun i j => .int (i + j)) (tVar 5) (tC (.int 1)))) (tC (.int 2)))) (own := [("odd", 5)]) (g := gName 5) rfl scLBar.nd (pi_tup (pv 1)) (blkOk_by (N := ["evens", "odds", "lot", "told", "index", "odd"]) (sc := defScope sLBar) (by decide +kernel))
        (fun _ _ _ _ _ => pg_name (i := 5) scLBar.nd rfl (Or.inl rfl)) (fun _ _ _ _ _ => pts_one (pt_cmpR op_eq (pe_ix ix_list (pv 3) (pe_op op_add (pv 5) pe_int) (fun _ _ => rfl)) pe_int (nomark _))) (fun _ _ _ _ _ => pv 5)) pa_nil))
      (pe_callB call_len_seq (by rfl) T.len PySem.boot_len (pa_cons (pv 2) pa_nil)) (nomark _)))), ?_⟩
  have ll := asc_len hl
  have le := hE.len
  have lo := hO.len
  refine ⟨(by show 1 ≤ sizeLine; decide), fun l1 hl1 => ⟨_, rfl, b, _, rfl, .inr (tupSame (Same.new hl1) hb), fun l2 hl2 => ?_⟩⟩
  have e1 := Same.new (o := .lst [.int 0]) hl1
  have e2 := Same.new (o := .lst (iV OD)) hl2
  have g1 : upd (upd H l1 (.lst [.int 0])) l2 (.lst (iV OD)) l1 = some (.lst [.int 0]) := e2 _ _ upd_same
  have g2 : upd (upd H l1 (.lst [.int 0])) l2 (.lst (iV OD)) l2 = some (.lst (iV OD)) := upd_same
  have e12 := e1.trans e2
  generalize upd (upd H l1 (.lst [.int 0])) l2 (.lst (iV OD)) = H2 at *
  refine ⟨l1, l2, _, _, rfl, rfl, g1, g2, Nat.le_of_lt (small1000 (by rw [List.length_map]; show 1 + _ ≤ 1000; omega)), fun l3 hl3 => ?_⟩
  have e3 := Same.new (o := .lst ([.int 0] ++ iV OD)) hl3
  have g3 : SqL K (upd H2 l3 (.lst ([.int 0] ++ iV OD))) l3 (iV (0 :: OD)) := SqL.of upd_same
  have e13 := e12.trans e3
  generalize upd H2 l3 (.lst ([.int 0] ++ iV OD)) = H3 at *
  refine ⟨l3, 0 :: OD, rfl, g3, by rw [List.length_cons]; omega, fun m hm mx => ?_⟩
  have m0 : 0 ≤ m := mx 0 List.mem_cons_self
  have m1 : m ≤ 40 := by
    rcases List.mem_cons.mp hm with z | z
    · omega
    · exact (hO.inn m z).2
  refine ⟨_, _, rfl, rfl, _, rfl, c, rfl, ⟨_, tupSame e13 hc⟩, fun D hD => lc_ints (K := K) (a := c) (L := l) (fun i => .int (EV.getD i.toNat 0)) (fun _ => true) hD (tupSame e13 hc) (by omega) (fun _ => rfl) (fun d H1 Q1 hm s q => q H1 (Same.refl _)) (fun d H1 Q1 hm _ s q => ?_) fun H4 s4 hD4 => ?_⟩
  · have hi := hl.inn d hm
    exact ⟨_, rfl, _, rfl, a, _, _, _, rfl, rfl, tupSame (e13.trans s) ha, at_of (j := d.toNat) (by omega) (pick_get hi.1 hi.2).1, q H1 (Same.refl _)⟩
  rw [filter_yes] at hD4
  have hp : l.map (fun i => V.int (EV.getD i.toNat 0)) = iV (pick EV l) := by
    show _ = List.map V.int (List.map (fun i => EV.getD i.toNat 0) l)
    rw [List.map_map]
    rfl
  rw [hp] at hD4
  have lp : (pick EV l).length = l.length := List.length_map _
  have e14 := e13.trans s4
  obtain ⟨N, hN⟩ : ∃ N : Nat, m + 1 = (N : Int) := ⟨(m + 1).toNat, by omega⟩
  refine ⟨D, pick EV l, N, by show [V.int (m + 1), V.ref D] = _; rw [hN], SqL.of hD4, by omega, fun d hd => ?_, by omega, fun H5 p s5 hp5 => ?_⟩
  · have := hE.inn d (pick_mem (n := 0) hl hd)
    omega
  have e15 := e14.trans s5
  refine ⟨_, rfl, b, rfl, ⟨_, tupSame e15 hb⟩, fun D2 hD2 => lc_ints (K := K) (a := b) (L := OD) (fun o => .int o) (fun o => made (pick EV l) (o + 1).toNat) hD2 (tupSame e15 hb) (by omega) (fun _ => rfl) (fun o H6 Q3 hm s q => ?_) (fun o H6 Q3 hm _ s q => ⟨_, rfl, q H6 (Same.refl _)⟩) fun H6 s6 hD6 => ?_⟩
  · have ho := hO.inn o hm
    have hom : o ≤ m := mx o (List.mem_cons_of_mem _ hm)
    refine ⟨_, rfl, _, rfl, _, _, rfl, rfl, p, _, _, _, rfl, rfl, SqL.of (s _ _ hp5), at_of (j := (o + 1).toNat) (by omega) (rowOf_get (by omega)), rfl, _, rfl, ?_⟩
    rw [dInt, val_two]
    exact q H6 (Same.refl _)
  · refine ⟨D2, _, rfl, .inl (SqL.of hD6), _, rfl, c, _, rfl, .inr (tupSame (e15.trans s6) hc), _, _, rfl, rfl, ?_⟩
    have q := k H6 (e15.trans s6)
    unfold bars at q
    rw [List.length_map, List.length_map]
    show Q (.bl (decide (((OD.filter fun o => made (pick EV l) (o + 1).toNat).length : Int) < (l.length : Int)))) H6
    rw [show decide (((OD.filter fun o => made (pick EV l) (o + 1).toNat).length : Int) < (l.length : Int)) = decide ((OD.filter fun o => made (pick EV l) (o + 1).toNat).length < l.length) from decide_eq_decide.mpr (by omega)]
    exact q
theorem ok_lbarring {f : Addr} {fd : FuncData} (F : Fun K "_law_dg_barring" "_law_dg_barring" sLBarring f fd) (T : Txt K mg) (gL : mg "_law_dg_lots" = some (.ref fL)) (kL : PySem.W.keepIn K (.ref fL) = true) (bL : Binds K dL ["size"] []) (FL : FnOk P w K mg base CX0 1 fL dL ["size"] (spLots K))
    (gB : mg "_law_dg_does_bar" = some (.ref fB)) (kB : PySem.W.keepIn K (.ref fB) = true) (bB : Binds K dB ["evens", "odds", "lot"] []) (B : FnOk P w K mg base CX0 2 fB dB ["evens", "odds", "lot"] (spBar K)) : FnOk P w K mg base CX0 3 f fd ["evens", "odds"] (spLBarring K) := by
  refine F.ok scLBarring (fun vs H Q E h => ?_) (fun cdv A outer s H vs Q E hr h => ?_)
  · obtain ⟨a, b, E', O, rfl, _⟩ := h; rfl
  obtain ⟨a, b, EV, OD, rfl, ha, hE, hb, hO, k⟩ := h
  have hr1 : Room 1 _ := hr.mono (by decide)
  refine ⟨_, pss_one (ps_ret (pe_lc (own := [("lot", 2)]) (g := gName 2) rfl scLBarring.nd (pi_list (pe_call FL hr1 (by rfl) gL kL bL .nil pass0 (pa_cons (pe_callB call_len_seq (by rfl) T.len PySem.boot_len (pa_cons (pv 0) pa_nil)) pa_nil))) (blkOk_by (N := ["evens", "odds", "lot"]) (sc := defScope sLBarring) (by decide +kernel))
        (fun _ _ _ _ _ => pg_name (i := 2) scLBarring.nd rfl (Or.inl rfl)) (fun _ _ _ _ _ => pts_one (pt_val (pe_call B hr (by rfl) gB kB bB .nil pass0 (by exact (pa_cons (pv 0) (pa_cons (pv 1) (pa_cons (pv 2) pa_nil))))))) (fun _ _ _ _ _ => pv 2))), ?_⟩
  have le := hE.len
  refine ⟨_, rfl, a, _, rfl, .inr ha, (EV.length : Int), by rw [List.length_map]; rfl, by omega, by omega, fun H1 p ys s1 hp0 hp1 tv => ?_⟩
  rw [show ((EV.length : Int)).toNat = EV.length by omega] at tv
  refine ⟨p, rfl, ⟨_, SqL.of hp1⟩, fun D hD => lc_tupsL (K := K) (a := p) (g := id) (p := bars EV OD) hD hp1 tv ?_ (fun _ => rfl) (fun t l H2 Q2 hm hT s q => ?_) (fun t l H2 Q2 hm hT _ s q => ⟨_, rfl, q H2 t (Same.refl _) hT⟩) fun H2 zs s2 hD2 tv2 => ?_⟩
  · unfold lotsOf
    rw [(srt_perm _).length_eq, List.length_tail, pow_len]
    have : 2 ^ EV.length ≤ 2 ^ 6 := Nat.pow_le_pow_right (by decide) le
    omega
  · have hs := s1.trans s
    exact ⟨_, rfl, _, rfl, _, rfl, a, b, t, EV, OD, l, rfl, tupSame hs ha, hE, tupSame hs hb, hO, hT, (mem_lots.mp hm).2, fun H3 s3 => ⟨_, rfl, q H3 s3⟩⟩
  · rw [List.map_id] at tv2
    exact k _ D zs (s1.trans s2) (none_of s1 hD) hD2 tv2
theorem ok_top {f : Addr} {fd : FuncData} (F : Fun K "_law_dg_top" "_law_dg_top" sLTop f fd) (T : Txt K mg) : FnOk P w K mg base CX0 1 f fd ["evens", "odds"] (spTop K) := by
  refine F.ok scLTop (fun vs H Q E h => ?_) (fun cdv A outer s H vs Q E hr h => ?_)
  · obtain ⟨a, b, E', O, rfl, _⟩ := h; rfl
  obtain ⟨a, b, EV, OD, rfl, ha, hb, k⟩ := h
  refine ⟨_, pss_one (ps_ret (pe_op op_add (pe_op op_sub (pe_callB (cr_sumT rfl) (by rfl) T.sum bootSum (pa_cons (pv 1) pa_nil)) (pe_callB (cr_sumT rfl) (by rfl) T.sum bootSum (pa_cons (pv 0) pa_nil))) (pe_callB call_len_seq (by rfl) T.len PySem.boot_len (pa_cons (pv 0) pa_nil)))), ?_⟩
  refine ⟨_, rfl, b, OD, rfl, hb, _, rfl, a, EV, rfl, ha, _, _, rfl, rfl, _, rfl, a, _, rfl, .inr ha, _, _, rfl, rfl, ?_⟩
  rw [List.length_map]
  exact k
end
end K4
namespace K4
open PySem PySem.Spec PyProof.Rows L2 RZ
abbrev nRen : List Str := ["lots", "names", "lot", "index"]
theorem scRenamed : FnScope nRen ["lots", "names"] (defScope sRenamed) := ⟨rfl, rfl, rfl, by decide +kernel, rfl, by decide +kernel, by decide +kernel⟩
def scpLot : Scope := { kind := .function, names := [(".0", .local), ("lot", .local), ("tuple", .globalImplicit), ("sorted", .globalImplicit), ("names", .cell)], isGenerator := false, isCoroutine := false }
def spRenamed (K : PySem.W.Frag) : Sp := fun vs H Q _ => ∃ (a c : Addr) (xs : List V) (ls : List (List Int)) (N : List Int), vs = [.ref a, .ref c] ∧ H a = some (.lst xs) ∧ TupsV K H xs ls ∧ (∀ l ∈ ls, l ≠ [] ∧ Asc N.length l) ∧ ls.length ≤ 1000 ∧ H c = some (.lst (iV N)) ∧ N.length ≤ 6 ∧
  ∀ (H' : Hp) (p : Addr) (ys : List V), Same H H' → H' p = some (.lst ys) → TupsV K H' ys (renamed N ls) → Q (.ref p) H'
def rTupOf (K : PySem.W.Frag) : List V → Hp → VK → Prop := fun xs H Q => ∃ p ys, xs = [V.ref p] ∧ ((SqL K H p ys ∧ ∀ l, H l = none → Q (.ref l) (upd H l (.tup ys))) ∨ (SqT K H p ys ∧ Q (.ref p) H))
abbrev nNeed : List Str := ["evens", "odds", "firsts", "lasts", "even", "odd"]
theorem scNeed : FnScope nNeed ["evens", "odds"] (defScope sNeeds) := ⟨rfl, rfl, rfl, by decide +kernel, rfl, by decide +kernel, by decide +kernel⟩
def spNeeds (K : PySem.W.Frag) : Sp := fun vs H Q _ => ∃ (a b : Addr) (E O : List Int), vs = [.ref a, .ref b] ∧ SqT K H a (iV E) ∧ Ev E ∧ SqT K H b (iV O) ∧ Od O ∧ barring E O = [] ∧ ∀ H', Same H H' → Q (.bl true) H'
section
variable {P : Program} {w : World} {K : PySem.W.Frag} {mg : Str → Option Value} {base : Heap} {fS fL fB fC fD fM : Addr} {dS dL dB dC dD dM : FuncData}
theorem ok_renamed {f : Addr} {fd : FuncData} (F : Fun K "_law_renamed" "_law_renamed" sRenamed f fd) (T : Txt K mg) : FnOk P w K mg base CX0 1 f fd ["lots", "names"] (spRenamed K) := by
  refine F.ok scRenamed (fun vs H Q E h => ?_) (fun cdv A outer s H vs Q E hr h => ?_)
  · obtain ⟨a, c, xs, ls, N, rfl, _⟩ := h; rfl
  obtain ⟨a, c, xs, ls, N, rfl, ha, tv, hls, ln, hc, hN, k⟩ := h
  refine ⟨_, pss_one (ps_ret (pe_callB (cr_sortedTL hr.units) (by rfl) T.sorted bootSorted (pa_cons (pe_lc (te := tCB (rTupOf K) (tCons (tCB (rSortedI K) (tCons (tLc (iTup K (tVar 2)) (gName 3) tYes (tOp (rIxL K) (tVar 1) (tVar 3)) [3]) tNil)) tNil))
      (own := [("lot", 2)]) (g := gName 2) rfl scRenamed.nd (pi_list (pv 0)) (blkOk_by (N := nRen) (sc := defScope sRenamed) (by decide +kernel))
      (fun _ _ _ _ _ => pg_name (i := 2) scRenamed.nd rfl (Or.inl rfl)) (fun _ _ _ _ _ => pts_nil)
      (fun _ _ _ _ _ => by exact (pe_callTy call_tuple_of (by rfl) T.tuple bootTuple (pa_cons (pe_callB cr_sortedI (by rfl) T.sorted bootSorted (pa_cons (pe_lc (te := tOp (rIxL K) (tVar 1) (tVar 3)) (own := [("index", 3)]) (g := gName 3) rfl scRenamed.nd (pi_tup (pv 2)) (blkOk_by (N := nRen) (sc := scpLot) (by decide +kernel))
          (fun _ _ _ _ _ => pg_name (i := 3) scRenamed.nd rfl (Or.inl rfl)) (fun _ _ _ _ _ => pts_nil) (fun _ _ _ _ _ => by exact (pe_ix ix_list (pv 1) (pv 3) (fun _ _ => rfl)))) pa_nil)) pa_nil)))) pa_nil))), ?_⟩
  refine ⟨_, rfl, a, rfl, ⟨_, SqL.of ha⟩, fun D hD => lc_tupsL (K := K) (a := a) (g := fun l => sortI (l.map (nms N))) (p := fun _ => true) hD ha tv ln (fun _ => rfl) (fun t l H2 Q2 hm hT s q => q H2 (Same.refl _)) (fun t l H2 Q2 hm hT _ s q => ?_) fun H2 ys s2 hD2 tv2 => ?_⟩
  · obtain ⟨_, hA⟩ := hls l hm
    have hl := asc_len hA
    refine ⟨_, rfl, t, rfl, ⟨_, hT⟩, fun D2 hD2 => lc_ints (K := K) (a := t) (L := l) (fun i => .int (nms N i)) (fun _ => true) hD2 hT (by omega) (fun _ => rfl) (fun d H1 Q1 _ s1 q1 => q1 H1 (Same.refl _)) (fun d H1 Q1 hm1 _ s1 q1 => ?_) fun H3 s3 hD3 => ?_⟩
    · have hi := hA.inn d hm1
      exact ⟨_, rfl, _, rfl, c, _, _, _, rfl, rfl, SqL.of ((s.trans s1) _ _ hc), at_of (j := d.toNat) (by omega) (pick_get hi.1 hi.2).1, q1 H1 (Same.refl _)⟩
    rw [filter_yes] at hD3
    have hp : l.map (fun i => V.int (nms N i)) = iV (l.map (nms N)) := by
      show _ = List.map V.int (List.map (nms N) l)
      rw [List.map_map]
      rfl
    rw [hp] at hD3
    refine ⟨D2, l.map (nms N), rfl, SqL.of hD3, fun ns' p pm pw hp' => ⟨p, iV ns', rfl, .inl ⟨SqL.of upd_same, fun t2 ht2 => ?_⟩⟩⟩
    rw [← sortI_uniq pw pm] at q
    have s4 := Same.new (o := .lst (iV ns')) hp'
    have s5 := Same.new (o := .tup (iV ns')) ht2
    exact q _ t2 (s3.trans (s4.trans s5)) (SqT.of upd_same)
  · have e : ls.filter (fun _ => true) = ls := List.filter_eq_self.mpr fun _ _ => rfl
    rw [e] at tv2
    refine ⟨D, ys, _, rfl, SqL.of hD2, tv2, .inl fun l hl => ?_, fun zs p tv3 hp => ?_⟩
    · obtain ⟨m, hm, rfl⟩ := List.mem_map.mp hl
      intro q
      have z := congrArg List.length q
      rw [(sortI_perm _).length_eq, List.length_map] at z
      exact (hls m hm).1 (List.eq_nil_of_length_eq_zero z)
    · have s3 := Same.new (o := .lst zs) hp
      exact k _ p zs (s2.trans s3) upd_same (tv_mono tv3 s3)
theorem ok_needs {f : Addr} {fd : FuncData} (F : Fun K "_law_needs_right" "_law_needs_right" sNeeds f fd) (T : Txt K mg) (gS : mg "_law_dg_top" = some (.ref fS)) (kS : PySem.W.keepIn K (.ref fS) = true) (bS : Binds K dS ["evens", "odds"] [])
    (S : FnOk P w K mg base CX0 1 fS dS ["evens", "odds"] (spTop K)) : FnOk P w K mg base CX0 2 f fd ["evens", "odds"] (spNeeds K) := by
  refine F.ok scNeed (fun vs H Q E h => ?_) (fun cdv A outer s H vs Q E hr h => ?_)
  · obtain ⟨a, b, E', O, rfl, _⟩ := h; rfl
  obtain ⟨a, b, EV, OD, rfl, ha, hE, hb, hO, hB, k⟩ := h
  refine ⟨_, pss_cons (ps_if (PW.pt (pw_or (pt_cmpR op_lt (pe_callB call_len_seq (by rfl) T.len PySem.boot_len (pa_cons (pv 1) pa_nil)) (pe_callB call_len_seq (by rfl) T.len PySem.boot_len (pa_cons (pv 0) pa_nil)) (nomark _))
        (pw_or1 (pt_cmpR op_lt (pe_call S hr (by rfl) gS kS bS .nil pass0 (pa_cons (pv 0) (pa_cons (pv 1) pa_nil))) (pe_callB (cr_sumT rfl) (by rfl) T.sum bootSum (pa_cons (pv 0) pa_nil)) (nomark _))))) (pss_one (ps_ret pe_bl)) pss_nil)
    (pss_cons (ps_par (i := 2) (j := 3) rfl scNeed.nd rfl rfl (by decide) rfl rfl (pa_cons (pe_revL (pe_callB cr_sortedTu (by rfl) T.sorted bootSorted (pa_cons (pv 0) pa_nil))) (pa_cons (pe_revL (pe_callB cr_sortedTu (by rfl) T.sorted bootSorted (pa_cons (pv 1) pa_nil))) pa_nil)) (by rfl))
    (pss_one (ps_ret (pe_cmpR (op_eqD hr.units) (pe_lc (own := [("even", 4), ("odd", 5)]) (g := gTup K 2 (gCons (gName 4) (gCons (gName 5) gNil))) rfl scNeed.nd (pi_zip (by rfl) T.zip (pa_cons (pv 2) (pa_cons (pv 3) pa_nil))) (blkOk_by (N := nNeed) (sc := defScope sNeeds) (by decide +kernel))
        (fun _ _ _ _ _ => pg_tup (by rfl) (pgs_cons (pg_name (i := 4) scNeed.nd rfl (.inl rfl)) (pgs_cons (pg_name (i := 5) scNeed.nd rfl (.inl rfl)) pgs_nil))) (fun _ _ _ _ _ => pts_one (pt_cmpR op_lt (pe_op op_add (pv 5) pe_int) (pe_op op_mul pe_int (pv 4)) (nomark _))) (fun _ _ _ _ _ => pe_int)) (pe_lst pa_nil) (nomark _))))), ?_⟩
  have h1 : ∀ e ∈ EV, 1 ≤ e := fun e he => by
    have := hE.inn e he
    omega
  have h0 : ∀ o ∈ OD, 0 ≤ o := fun e he => by
    have := hO.inn e he
    omega
  have nl := needs_len h1 h0 hB
  refine ⟨_, rfl, b, _, rfl, .inr hb, _, rfl, a, _, rfl, .inr ha, _, _, rfl, rfl, _, rfl, ?_⟩
  rw [decide_eq_false (by rw [List.length_map, List.length_map]; omega)]
  have mono : ∀ {L : List Int}, (L.map fun x => x).Pairwise (· ≤ ·) → L.reverse.Pairwise (fun a b => b ≤ a) := fun {L} h => by
    rw [List.pairwise_reverse]
    rw [List.map_id'] at h
    exact h
  have su : ∀ {F G : List Int}, F.Perm EV → G.Perm OD → F.Pairwise (fun a b => b ≤ a) → G.Pairwise (fun a b => b ≤ a) → ∀ (n : Nat) (f g : Int), F[n]? = some f → G[n]? = some g → 2 * f ≤ g + 1 := fun hF hG sF sG n f g hf hg => needs_pairs h1 h0 hB hF hG sF sG hf hg
  have tot : 2 * EV.sum ≤ OD.sum + EV.length := by
    have pF : (sortI EV).reverse.Perm EV := (List.reverse_perm _).trans (sortI_perm _)
    have pG : (sortI OD).reverse.Perm OD := (List.reverse_perm _).trans (sortI_perm _)
    have q := sum_two (F := (sortI EV).reverse) (G := (sortI OD).reverse) (by rw [pF.length_eq, pG.length_eq]; exact nl) (su pF pG (by rw [List.pairwise_reverse]; exact sortI_le _) (by rw [List.pairwise_reverse]; exact sortI_le _)) fun g hg => h0 g (pG.mem_iff.mp hg)
    rw [sum_perm pF, sum_perm pG, pF.length_eq] at q
    exact q
  refine iteF ⟨_, rfl, _, rfl, a, b, EV, OD, rfl, ha, hb, _, rfl, a, EV, rfl, ha, _, _, rfl, rfl, _, rfl, ?_⟩
  rw [decide_eq_false (by omega)]
  refine iteF ⟨_, rfl, a, EV, rfl, ha, fun F p pF sF hp => ⟨p, iV F, rfl, SqL.of upd_same, fun p2 hp2 => ?_⟩⟩
  have s1 := Same.new (o := .lst (iV F)) hp
  have s2 := Same.new (o := .lst (iV F).reverse) hp2
  have g2 : upd (upd H p (.lst (iV F))) p2 (.lst (iV F).reverse) p2 = some (.lst (iV F.reverse)) := by
    rw [upd_same, ← List.map_reverse]
  have s12 := s1.trans s2
  generalize upd (upd H p (.lst (iV F))) p2 (.lst (iV F).reverse) = H2 at *
  refine ⟨_, rfl, b, OD, rfl, tupSame s12 hb, fun G p3 pG sG hp3 => ⟨p3, iV G, rfl, SqL.of upd_same, fun p4 hp4 => ⟨_, _, rfl, ?_⟩⟩⟩
  have s3 := Same.new (o := .lst (iV G)) hp3
  have s4 := Same.new (o := .lst (iV G).reverse) hp4
  have g4 : upd (upd H2 p3 (.lst (iV G))) p4 (.lst (iV G).reverse) p4 = some (.lst (iV G.reverse)) := by
    rw [upd_same, ← List.map_reverse]
  have s34 := s3.trans s4
  have g2' := s34 _ _ g2
  generalize upd (upd H2 p3 (.lst (iV G))) p4 (.lst (iV G).reverse) = H4 at *
  have pr := su ((List.reverse_perm _).trans pF) ((List.reverse_perm _).trans pG) (by rw [List.pairwise_reverse]; exact sF) (by rw [List.pairwise_reverse]; exact sG)
  refine ⟨_, rfl, _, rfl, p2, p4, iV F.reverse, iV G.reverse, rfl, SqL.of g2', SqL.of g4, fun D hD => ?_⟩
  refine lc_it (walk_zip (xs := iV F.reverse) (ys := iV G.reverse) rfl) (fun n H' => Same H4 H' ∧ H' D = some (.lst [])) ⟨Same.new hD, upd_same⟩ (fun _ H' _ p => ⟨p.1.seq (SqL.of g2'), p.1.seq (SqL.of g4)⟩) (fun n x H5 H6 hn q y => ?_) fun H5 q => ?_
  · obtain ⟨T', u, v, rfl, hT, rfl, hu, hv⟩ := y
    have hu : (iV F.reverse)[n]? = some u := hu
    have hv : (iV G.reverse)[n]? = some v := hv
    rw [List.getElem?_map] at hu hv
    obtain ⟨f, hf, rfl⟩ := Option.map_eq_some_iff.mp hu
    obtain ⟨g, hg, rfl⟩ := Option.map_eq_some_iff.mp hv
    have s5 : Same H5 (upd H5 T' (.tup [.int f, .int g])) := Same.new hT
    have hle := pr n f g hf hg
    refine ⟨T', [.int f, .int g], rfl, SqT.of upd_same, rfl, .int f, [.int g], rfl, .int g, [], rfl, rfl, rfl, _, rfl, _, _, rfl, rfl, _, rfl, _, _, rfl, rfl, .inl ⟨by decide, by decide⟩, _, _, rfl, rfl, _, rfl, ?_⟩
    rw [decide_eq_false (by omega)]
    exact iteF ⟨q.1.trans s5, s5 _ _ q.2⟩
  · refine ⟨(by show 0 ≤ sizeLine; decide), fun e he => ?_⟩
    have s6 := Same.new (o := .lst []) he
    refine ⟨.list (([] : List Int).map PyData.int), .list (([] : List Int).map PyData.int), .lst (SqL.of (s6 _ _ q.2)) .nil, .lst (SqL.of upd_same) .nil, (Shp.lst Shp.int ([] : List Int)).shaped (by decide), (Shp.lst Shp.int ([] : List Int)).shaped (by decide), ?_⟩
    rw [eqv_self (Shp.lst Shp.int ([] : List Int)) (by decide)]
    exact k _ (s12.trans (s34.trans (q.1.trans s6)))
end
end K4
namespace K4
open PySem PySem.Spec PyProof.Rows L2 RZ
/-- over range(n), each turn with the dice -/
theorem lc_dice {lo : Int} {N i : Nat} {te : TE} {vs : List Nat} {σ : L2.St} {H : Hp} {d D : Addr} {L : List V} {Qd : Hp → Prop} (Pj : Int → Prop) (hD : H D = none) (hd1 : H d = some (.lst L)) (hL : DiceL L) (ln : N ≤ 900)
    (hw : ∀ x : V, wipe ((wipe σ vs).set i (some x)) vs = wipe σ vs)
    (he : ∀ (n : Nat) (H2 : Hp) (L2 : List V) (Q : VK), n < N → But d H H2 → H2 d = some (.lst L2) → DiceL L2 → (∀ (H3 : Hp) (L3 : List V) (j : Int), But d H2 H3 → H3 d = some (.lst L3) → DiceL L3 → Pj j → Q (.int j) H3) → te ((wipe σ vs).set i (some (.int (lo + n)))) H2 Q)
    (hd : ∀ (H' : Hp) (L' : List V) (M : List Int), But d H H' → H' d = some (.lst L') → DiceL L' → H' D = some (.lst (iV M)) → M.length = N → (∀ j ∈ M, Pj j) → Qd H') : LcW (Itr lo N) (gName i) tYes te vs σ H D Qd := by
  have nD : D ≠ d := fun z => by rw [z, hd1] at hD; cases hD
  refine lc_it (walk_range (lo := lo) (n := N)) (fun n H' => ∃ (M : List Int) (L' : List V), M.length = n ∧ (∀ j ∈ M, Pj j) ∧ DiceL L' ∧ H' d = some (.lst L') ∧ H' D = some (.lst (iV M)) ∧ But d H H') ⟨[], L, rfl, (fun _ h => absurd h List.not_mem_nil), hL, ?_, upd_same, (But.refl d H).back hD⟩ (fun _ _ _ _ => trivial) (fun n x H2 H3 hn p y => ?_) fun H' p => ?_
  · rw [upd_ne nD.symm]
    exact hd1
  · obtain ⟨M, L', lM, tM, hL', hd2, hD2, B2⟩ := p
    obtain ⟨rfl, rfl⟩ := y
    refine ⟨hw _, iteT (B := True) (he n _ L' _ hn B2 hd2 hL' fun H3 L3 j B3 hd3 hL3 pj => ?_)⟩
    have hD3 := B3 _ _ nD hD2
    refine ⟨iV M, hD3, small1000 (by rw [List.length_map]; omega), M ++ [j], L3, by rw [List.length_append, lM]; rfl, ?_, hL3, ?_, ?_, (B2.trans B3).back hD⟩
    · intro e he
      rcases List.mem_append.mp he with z | z
      · exact tM e z
      · rw [List.mem_singleton.mp z]
        exact pj
    · rw [upd_ne nD.symm]
      exact hd3
    · rw [upd_same]
      show _ = some (HO.lst (List.map V.int (M ++ [j])))
      rw [List.map_append]
      rfl
  · obtain ⟨M, L', lM, tM, hL', hd2, hD2, B2⟩ := p
    exact hd H' L' M B2 hd2 hL' hD2 lM tM
theorem bits500 {g : Int} (a : 0 ≤ g) (b : g ≤ 1000) : g.natAbs < 2 ^ 500 := Nat.lt_of_le_of_lt (by omega : g.natAbs ≤ 1000) (by decide)
abbrev nMade : List Str := ["dice", "degrees", "number", "turn"]
theorem scMadeR : FnScope nMade ["dice"] (defScope sMadeR) := ⟨rfl, rfl, rfl, by decide +kernel, rfl, by decide +kernel, by decide +kernel⟩
def spTurn : Sp := fun vs H Q _ => ∃ (d : Addr) (L : List V), vs = [.ref d] ∧ H d = some (.lst L) ∧ DiceL L ∧ ∀ (H' : Hp) (L' : List V), DiceL L' → H' d = some (.lst L') → But d H H' → Q (.bl true) H'
section
variable {P : Program} {w : World} {K : PySem.W.Frag} {mg : Str → Option Value} {base : Heap} {fR fP fM fL : Addr} {dR dP dM dL : FuncData}
theorem ok_mader {f : Addr} {fd : FuncData} (F : Fun K "_law_made_right" "_law_made_right" sMadeR f fd) (T : Txt K mg) (gR : mg "_law_roll" = some (.ref fR)) (kR : PySem.W.keepIn K (.ref fR) = true) (bR : Binds K dR ["dice", "total"] []) (FR : FnOk P w K mg base CX0 1 fR dR ["dice", "total"] spRoll)
    (gP : mg "_law_pick" = some (.ref fP)) (kP : PySem.W.keepIn K (.ref fP) = true) (bP : Binds K dP ["dice", "items"] []) (FP : FnOk P w K mg base CX0 2 fP dP ["dice", "items"] spPick)
    (gM : mg "is_made" = some (.ref fM)) (kM : PySem.W.keepIn K (.ref fM) = true) (bM : Binds K dM ["number", "degrees"] []) (FM : FnOk P w K mg base CX0 5 fM dM ["number", "degrees"] (spMade K))
    (gL : mg "_law_dg_made" = some (.ref fL)) (kL : PySem.W.keepIn K (.ref fL) = true) (bL : Binds K dL ["number", "degrees"] []) (FL : FnOk P w K mg base CX0 2 fL dL ["number", "degrees"] (spMade K)) : FnOk P w K mg base CX0 6 f fd ["dice"] spTurn := by
  refine F.ok scMadeR (fun vs H Q E h => ?_) (fun cdv A outer s H vs Q E hr h => ?_)
  · obtain ⟨d, L, rfl, _⟩ := h; rfl
  obtain ⟨d, L, rfl, hd, hL, k⟩ := h
  have hr1 : Room 1 _ := hr.mono (by decide)
  have hr2 : Room 2 _ := hr.mono (by decide)
  refine ⟨_, pss_cons (ps_set (i := 1) scMadeR.nd rfl (.inl rfl) (pe_callTy call_tuple_of (by rfl) T.tuple bootTuple (pa_cons (pe_lc (own := [("turn", 3)]) (g := gName 3) rfl scMadeR.nd (pi_range1 rfl T.range (pa_cons (pe_call FR hr1 (by rfl) gR kR bR .nil pass0 (pa_cons (pv 0) (pa_cons pe_int pa_nil))) pa_nil))
      (blkOk_by (N := nMade) (sc := defScope sMadeR) (by decide +kernel)) (fun _ _ _ _ _ => pg_name (i := 3) scMadeR.nd rfl (.inl rfl)) (fun _ _ _ _ _ => pts_nil)
      (fun _ _ _ _ _ => pe_op op_add pe_int (pe_call FR hr1 (by rfl) gR kR bR .nil pass0 (by exact (pa_cons (pv 0) (pa_cons (pe_call FP hr2 (by rfl) gP kP bP .nil pass0 (by exact (pa_cons (pv 0) (pa_cons (pe_lst (pa_cons pe_int (pa_cons pe_int (pa_cons pe_int pa_nil)))) pa_nil)))) pa_nil)))))) pa_nil)))
    (pss_cons (ps_set (i := 2) scMadeR.nd rfl (.inl rfl) (pe_call FR hr1 (by rfl) gR kR bR .nil pass0 (pa_cons (pv 0) (pa_cons (pe_call FP hr2 (by rfl) gP kP bP .nil pass0 (pa_cons (pv 0) (pa_cons (pe_lst (pa_cons pe_int (pa_cons pe_int (pa_cons pe_int pa_nil)))) pa_nil))) pa_nil))))
    (pss_one (ps_ret (pe_cmpR op_eq (pe_callB call_repr_bl (by rfl) T.repr bootRepr (pa_cons (pe_call FM hr (by rfl) gM kM bM .nil pass0 (pa_cons (pv 2) (pa_cons (pv 1) pa_nil))) pa_nil)) (pe_callB call_repr_bl (by rfl) T.repr bootRepr (pa_cons (pe_call FL hr2 (by rfl) gL kL bL .nil pass0 (pa_cons (pv 2) (pa_cons (pv 1) pa_nil))) pa_nil)) (nomark _))))), ?_⟩
  refine ⟨_, rfl, d, 5, L, rfl, by decide, bits500 (by decide) (by decide), hd, hL, fun r L1 r0 r1 hL1 => ⟨r, rfl, by omega, by omega, fun D hD => ?_⟩⟩
  have B1 : But d H (upd H d (.lst L1)) := But.dice
  have hd1 : upd H d (.lst L1) d = some (.lst L1) := upd_same
  generalize upd H d (.lst L1) = H1 at *
  refine lc_dice (lo := 0) (N := r.toNat) (d := d) (L := L1) (fun j => 1 ≤ j ∧ j ≤ 40) hD hd1 hL1 (by omega) (fun _ => rfl) (fun n H2 L2 Q2 hn B2 hd2 hL2 q => ?_) fun H2 L2 M B2 hd2 hL2 hD2 lM tM => ?_
  · refine ⟨_, rfl, _, rfl, (by show 3 ≤ sizeLine; decide), fun l hl => ⟨d, l, [.int 6, .int 12, .int 40], L2, rfl, ?_, hL2, upd_same, ?_, by simp, by decide, fun x L3 hx hL3 => ?_⟩⟩
    · rw [upd_ne (ne_of_none hd2 hl)]
      exact hd2
    · exact (ne_of_none hd2 hl).symm
    obtain ⟨m, rfl, m0, m1⟩ : ∃ m : Int, x = .int m ∧ 0 < m ∧ m ≤ 40 := by
      simp only [List.mem_cons, List.not_mem_nil, or_false] at hx
      rcases hx with rfl | rfl | rfl
      · exact ⟨6, rfl, by decide, by decide⟩
      · exact ⟨12, rfl, by decide, by decide⟩
      · exact ⟨40, rfl, by decide, by decide⟩
    have B3 : But d H2 (upd (upd H2 l (.lst [.int 6, .int 12, .int 40])) d (.lst L3)) := (But.of (Same.new hl)).trans But.dice
    have hd3 : upd (upd H2 l (.lst [.int 6, .int 12, .int 40])) d (.lst L3) d = some (.lst L3) := upd_same
    generalize upd (upd H2 l (.lst [.int 6, .int 12, .int 40])) d (.lst L3) = H3 at *
    refine ⟨d, m, L3, rfl, m0, bits500 (by omega) (by omega), hd3, hL3, fun j L4 j0 j1 hL4 => ⟨_, _, rfl, rfl, ?_⟩⟩
    exact q _ L4 (1 + j) (B3.trans But.dice) upd_same hL4 ⟨by omega, by omega⟩
  refine ⟨D, _, rfl, .inl ⟨SqL.of hD2, fun t ht => ?_⟩⟩
  have B3 : But d H (upd H2 t (.tup (iV M))) := (B1.trans B2).trans (But.of (Same.new ht))
  have hd3 : upd H2 t (.tup (iV M)) d = some (.lst L2) := by
    rw [upd_ne (ne_of_none hd2 ht)]
    exact hd2
  have ht3 : SqT K (upd H2 t (.tup (iV M))) t (iV M) := SqT.of upd_same
  generalize upd H2 t (.tup (iV M)) = H3 at *
  refine ⟨_, rfl, _, rfl, (by show 3 ≤ sizeLine; decide), fun l hl => ⟨d, l, [.int 8, .int 40, .int 130], L2, rfl, ?_, hL2, upd_same, ?_, by simp, by decide, fun x L3 hx hL3 => ?_⟩⟩
  · rw [upd_ne (ne_of_none hd3 hl)]
    exact hd3
  · exact (ne_of_none hd3 hl).symm
  obtain ⟨m, rfl, m0, m1⟩ : ∃ m : Int, x = .int m ∧ 0 < m ∧ m ≤ 130 := by
    simp only [List.mem_cons, List.not_mem_nil, or_false] at hx
    rcases hx with rfl | rfl | rfl
    · exact ⟨8, rfl, by decide, by decide⟩
    · exact ⟨40, rfl, by decide, by decide⟩
    · exact ⟨130, rfl, by decide, by decide⟩
  have B4 : But d H3 (upd (upd H3 l (.lst [.int 8, .int 40, .int 130])) d (.lst L3)) := (But.of (Same.new hl)).trans But.dice
  have hd4 : upd (upd H3 l (.lst [.int 8, .int 40, .int 130])) d (.lst L3) d = some (.lst L3) := upd_same
  generalize upd (upd H3 l (.lst [.int 8, .int 40, .int 130])) d (.lst L3) = H4 at *
  refine ⟨d, m, L3, rfl, m0, bits500 (by omega) (by omega), hd4, hL3, fun j L4 j0 j1 hL4 => ?_⟩
  have B5 : But d H3 (upd H4 d (.lst L4)) := B4.trans But.dice
  have hd5 : upd H4 d (.lst L4) d = some (.lst L4) := upd_same
  have ht5 := B5.tup hd3 ht3
  generalize upd H4 d (.lst L4) = H5 at *
  refine ⟨_, rfl, _, rfl, t, M, j, rfl, ht5, by omega, tM, by omega, by omega, fun H6 s6 => ⟨_, rfl, _, rfl, _, rfl, t, M, j, rfl, tupSame s6 ht5, by omega, tM, by omega, by omega, fun H7 s7 => ⟨_, rfl, rfl, ?_⟩⟩⟩
  rw [decide_eq_true rfl]
  exact k H7 L4 hL4 ((s6.trans s7) _ _ hd5) ((B3.trans B5).trans (But.of (s6.trans s7)))
end
end K4
namespace K4
open PySem PySem.Spec PyProof.Rows L2 RZ
abbrev nRight : List Str := ["dice", "menu", "most", "evens", "odds", "due", "told", "names", "back", "mixed", "more", "turn", "odd", "index", "lot"]
theorem scRight : FnScope nRight ["dice"] (defScope sRight) := ⟨rfl, rfl, rfl, by decide +kernel, rfl, by decide +kernel, by decide +kernel⟩
theorem tv_but {K : PySem.W.Frag} {d : Addr} {H H' : Hp} {L : List V} {xs : List V} {ls : List (List Int)} (h : TupsV K H xs ls) (B : But d H H') (hd : H d = some (.lst L)) : TupsV K H' xs ls := Paired.mapP h fun _ _ ⟨t, e, q⟩ => ⟨t, e, B.tup hd q⟩
/-- an entry of a menu of even degrees -/
def EvN (j : Int) : Prop := 2 ≤ j ∧ j ≤ 40 ∧ j % 2 = 0
def clip (o : Int) : Int := if 3 ≤ o ∧ o < 40 then o else 39
theorem clip_od {M : List Int} (h : ∀ j ∈ M, j % 2 = 1) (l : M.length ≤ 10) : Od (M.map clip) := by
  refine ⟨by rw [List.length_map]; exact l, fun e he => ?_, fun e he => ?_⟩
  · obtain ⟨j, hj, rfl⟩ := List.mem_map.mp he
    unfold clip
    split <;> omega
  · obtain ⟨j, hj, rfl⟩ := List.mem_map.mp he
    have := h j hj
    unfold clip
    split <;> omega
theorem back_ev {E N : List Int} (hE : Ev E) (hN : Nm E.length N) : Ev (backOf E N) := by
  have bl : (backOf E N).length = E.length := by
    unfold backOf
    rw [List.length_map, List.length_range]
  have m : ∀ e ∈ backOf E N, e ∈ E := fun e he => by
    obtain ⟨j, hj, rfl⟩ := List.mem_map.mp he
    have := List.mem_range.mp hj
    have q := (hN.idx (j := (j : Int)) (by omega) (by omega)).1
    rw [List.getD_eq_getElem?_getD, List.getElem?_eq_getElem q]
    exact List.getElem_mem q
  exact ⟨by rw [bl]; exact hE.len, fun e he => hE.inn e (m e he), fun e he => hE.par e (m e he)⟩
theorem Od.perm {O G : List Int} (h : Od O) (p : G.Perm O) : Od G := ⟨by rw [p.length_eq]; exact h.len, fun e he => h.inn e (p.mem_iff.mp he), fun e he => h.par e (p.mem_iff.mp he)⟩
theorem idx_first : ∀ {N : List Int} {x : Int} {m : Nat} {z : Int}, m < N.idxOf x → N[m]? = some z → z ≠ x
  | [], _, _, _, _, h => by cases h
  | a :: N, x, 0, z, hm, h => by
    cases h
    intro e
    subst e
    rw [List.idxOf_cons_self] at hm
    omega
  | a :: N, x, m + 1, z, hm, h => by
    by_cases c : a = x
    · subst c
      rw [List.idxOf_cons_self] at hm
      omega
    · have e : (a :: N).idxOf x = N.idxOf x + 1 := by
        rw [List.idxOf_cons]
        have : (a == x) = false := by simpa using c
        rw [this]
        rfl
      rw [e] at hm
      exact idx_first (N := N) (by omega) h
section
variable {P : Program} {w : World} {K : PySem.W.Frag} {mg : Str → Option Value} {base : Heap} {fR fP fD fB fC fN fS fM : Addr} {dR dP dD dB dC dN dS dM : FuncData}
theorem ok_right {f : Addr} {fd : FuncData} (F : Fun K "_law_right" "_law_right" sRight f fd) (T : Txt K mg) (gR : mg "_law_roll" = some (.ref fR)) (kR : PySem.W.keepIn K (.ref fR) = true) (bR : Binds K dR ["dice", "total"] []) (FR : FnOk P w K mg base CX0 1 fR dR ["dice", "total"] spRoll)
    (gP : mg "_law_pick" = some (.ref fP)) (kP : PySem.W.keepIn K (.ref fP) = true) (bP : Binds K dP ["dice", "items"] []) (FP : FnOk P w K mg base CX0 2 fP dP ["dice", "items"] spPick)
    (gD : mg "_law_dg_barring" = some (.ref fD)) (kD : PySem.W.keepIn K (.ref fD) = true) (bD : Binds K dD ["evens", "odds"] []) (FD : FnOk P w K mg base CX0 3 fD dD ["evens", "odds"] (spLBarring K))
    (gB : mg "barring_lots" = some (.ref fB)) (kB : PySem.W.keepIn K (.ref fB) = true) (bB : Binds K dB ["evens", "odds"] []) (FB : FnOk P w K mg base CX0 6 fB dB ["evens", "odds"] (spBarring K))
    (gC : mg "can_end" = some (.ref fC)) (kC : PySem.W.keepIn K (.ref fC) = true) (bC : Binds K dC ["evens", "odds"] []) (FC : FnOk P w K mg base CX0 6 fC dC ["evens", "odds"] (spCanEnd K))
    (gN : mg "_law_needs_right" = some (.ref fN)) (kN : PySem.W.keepIn K (.ref fN) = true) (bN : Binds K dN ["evens", "odds"] []) (FN : FnOk P w K mg base CX0 2 fN dN ["evens", "odds"] (spNeeds K))
    (gS : mg "_law_shuffled" = some (.ref fS)) (kS : PySem.W.keepIn K (.ref fS) = true) (bS : Binds K dS ["dice", "items"] []) (FS : FnOk P w K mg base CX0 2 fS dS ["dice", "items"] (spShuf K))
    (gM : mg "_law_renamed" = some (.ref fM)) (kM : PySem.W.keepIn K (.ref fM) = true) (bM : Binds K dM ["lots", "names"] []) (FM : FnOk P w K mg base CX0 1 fM dM ["lots", "names"] (spRenamed K)) : FnOk P w K mg base CX0 7 f fd ["dice"] spTurn := by
  refine F.ok scRight (fun vs H Q E h => ?_) (fun cdv A outer s H vs Q E hr h => ?_)
  · obtain ⟨d, L, rfl, _⟩ := h; rfl
  obtain ⟨d, L, rfl, hd, hL, k⟩ := h
  have hr1 : Room 1 _ := hr.mono (by decide)
  have hr2 : Room 2 _ := hr.mono (by decide)
  have hr3 : Room 3 _ := hr.mono (by decide)
  have hu65 : (A.deeper (envOfC "_law_right" (defScope sRight) s.heap.objs.size f cdv)).units + 65 < cLine := by
    have := hr.un
    omega
  refine ⟨_, pss_cons (ps_asg (pe_tup (pa_cons (pe_call FP hr2 (by rfl) gP kP bP .nil pass0 (pa_cons (pv 0) (pa_cons (pe_lst (pa_cons (pe_lst (pa_cons pe_int (pa_cons pe_int (pa_cons pe_int pa_nil)))) (pa_cons (pe_lst (pa_cons pe_int (pa_cons pe_int (pa_cons pe_int (pa_cons pe_int (pa_cons pe_int pa_nil)))))) (pa_cons (pe_lst (pa_cons pe_int (pa_cons pe_int (pa_cons pe_int (pa_cons pe_int (pa_cons pe_int pa_nil)))))) pa_nil)))) pa_nil)))
        (pa_cons (pe_call FR hr1 (by rfl) gR kR bR .nil pass0 (pa_cons (pv 0) (pa_cons pe_int pa_nil))) pa_nil))) (pg_tup (by rfl) (pgs_cons (pg_name (i := 1) scRight.nd rfl (.inr rfl)) (pgs_cons (pg_name (i := 2) scRight.nd rfl (.inl rfl)) pgs_nil))))
    (pss_cons (ps_set (i := 3) scRight.nd rfl (.inr rfl) (pe_callTy call_tuple_of (by rfl) T.tuple bootTuple (pa_cons (pe_lc (own := [("turn", 11)]) (g := gName 11) rfl scRight.nd (pi_range1 rfl T.range (pa_cons (pv 2) pa_nil)) (blkOk_by (N := nRight) (sc := defScope sRight) (by decide +kernel)) (fun _ _ _ _ _ => pg_name (i := 11) scRight.nd rfl (.inl rfl)) (fun _ _ _ _ _ => pts_nil)
        (fun _ _ _ _ _ => pe_call FP hr2 (by rfl) gP kP bP .nil pass0 (by exact (pa_cons (pv 0) (pa_cons (pv 1) pa_nil))))) pa_nil)))
    (pss_cons (ps_set (i := 4) scRight.nd rfl (.inl rfl) (pe_callTy call_tuple_of (by rfl) T.tuple bootTuple (pa_cons (pe_lc (own := [("turn", 11)]) (g := gName 11) rfl scRight.nd (pi_range1 rfl T.range (pa_cons (pe_call FR hr1 (by rfl) gR kR bR .nil pass0 (pa_cons (pv 0) (pa_cons (pe_op op_add (pv 2) pe_int) pa_nil))) pa_nil)) (blkOk_by (N := nRight) (sc := defScope sRight) (by decide +kernel)) (fun _ _ _ _ _ => pg_name (i := 11) scRight.nd rfl (.inl rfl)) (fun _ _ _ _ _ => pts_nil)
        (fun _ _ _ _ _ => pe_op op_sub (pe_op op_sub (pe_op op_mul pe_int (pe_call FP hr2 (by rfl) gP kP bP .nil pass0 (by exact (pa_cons (pv 0) (pa_cons (pv 1) pa_nil))))) pe_int) (pe_op op_mul pe_int (pe_callTy call_int1 (by rfl) T.int bootInt (by exact (pa_cons (pe_cmpR op_eq (pe_call FR hr1 (by rfl) gR kR bR .nil pass0 (by exact (pa_cons (pv 0) (pa_cons pe_int pa_nil)))) pe_int (nomark _)) pa_nil)))))) pa_nil)))
    (pss_cons (ps_set (i := 4) scRight.nd rfl (.inl rfl) (pe_callTy call_tuple_of (by rfl) T.tuple bootTuple (pa_cons (pe_lc (own := [("odd", 12)]) (g := gName 12) rfl scRight.nd (pi_tup (pv 4)) (blkOk_by (N := nRight) (sc := defScope sRight) (by decide +kernel)) (fun _ _ _ _ _ => pg_name (i := 12) scRight.nd rfl (.inl rfl)) (fun _ _ _ _ _ => pts_nil)
        (fun _ _ _ _ _ => pe_ifExp (pt_chain op_le op_lt pe_int (pv 12) pe_int) (pv 12) pe_int)) pa_nil)))
    (pss_cons (ps_asg (pe_tup (pa_cons (pe_call FD hr3 (by rfl) gD kD bD .nil pass0 (pa_cons (pv 3) (pa_cons (pv 4) pa_nil))) (pa_cons (pe_call FB hr (by rfl) gB kB bB .nil pass0 (pa_cons (pv 3) (pa_cons (pv 4) pa_nil))) pa_nil))) (pg_tup (by rfl) (pgs_cons (pg_name (i := 5) scRight.nd rfl (.inr rfl)) (pgs_cons (pg_name (i := 6) scRight.nd rfl (.inl rfl)) pgs_nil))))
    (pss_cons (ps_if (PW.pt (pw_or (pt_cmpR (op_neD hr.units) (pv 6) (pe_callTy call_tuple_of (by rfl) T.tuple bootTuple (pa_cons (pv 5) pa_nil)) (nomark _))
        (pw_or1 (pt_cmpR op_ne (pe_callB call_repr_bl (by rfl) T.repr bootRepr (pa_cons (pe_call FC hr (by rfl) gC kC bC .nil pass0 (pa_cons (pv 3) (pa_cons (pv 4) pa_nil))) pa_nil)) (pe_callB call_repr_bl (by rfl) T.repr bootRepr (pa_cons (pe_cmpR (op_eqD hr.units) (pv 5) (pe_lst pa_nil) (nomark _)) pa_nil)) (nomark _))))) (pss_one (ps_ret pe_bl)) pss_nil)
    (C8.pss_cut (ps_if (PW.pt (pw_and (pt_cmpR (op_eqD hr.units) (pv 5) (pe_lst pa_nil) (nomark _)) (pw_and1 (pt_not (pt_val (pe_call FN hr2 (by rfl) gN kN bN .nil pass0 (pa_cons (pv 3) (pa_cons (pv 4) pa_nil)))))))) (pss_one (ps_ret pe_bl)) pss_nil)
    (pss_cons (ps_set (i := 7) scRight.nd rfl (.inr rfl) (pe_call FS hr2 (by rfl) gS kS bS .nil pass0 (pa_cons (pv 0) (pa_cons (pe_listRg rfl (by rfl) T.list (prg_1 (by rfl) T.range (pe_callB call_len_seq (by rfl) T.len PySem.boot_len (pa_cons (pv 3) pa_nil)))) pa_nil))))
    (pss_cons (ps_set (i := 8) scRight.nd rfl (.inl rfl) (pe_callTy call_tuple_of (by rfl) T.tuple bootTuple (pa_cons (pe_lc (te := tOp (rIxT K) (tVar 3) (tBM K "list" (rIndex K) (tVar 7) (tCons (tVar 13) tNil))) (own := [("index", 13)]) (g := gName 13) rfl scRight.nd (pi_range1 rfl T.range (pa_cons (pe_callB call_len_seq (by rfl) T.len PySem.boot_len (pa_cons (pv 3) pa_nil)) pa_nil)) (blkOk_by (N := nRight) (sc := defScope sRight) (by decide +kernel)) (fun _ _ _ _ _ => pg_name (i := 13) scRight.nd rfl (.inl rfl)) (fun _ _ _ _ _ => pts_nil)
        (fun _ _ _ _ _ => by exact (pe_ix ix_tup (pv 3) (pe_bm PySem.F.plainAttrs_list PySem.F.slot_list_index PySem.F.type_list_index mt_index (pv 7) (by exact (pa_cons (pv 13) pa_nil))) (fun _ _ => rfl)))) pa_nil)))
    (pss_cons (ps_set (i := 9) scRight.nd rfl (.inl rfl) (pe_callTy call_tuple_of (by rfl) T.tuple bootTuple (pa_cons (pe_call FS hr2 (by rfl) gS kS bS .nil pass0 (pa_cons (pv 0) (pa_cons (pv 4) pa_nil))) pa_nil)))
    (pss_cons (ps_if (pt_cmpR (op_neD hr.units) (pe_callTy call_list_of (by rfl) T.list bootList (pa_cons (pe_call FB hr (by rfl) gB kB bB .nil pass0 (pa_cons (pv 8) (pa_cons (pv 9) pa_nil))) pa_nil)) (pe_call FM hr1 (by rfl) gM kM bM .nil pass0 (pa_cons (pv 5) (pa_cons (pv 7) pa_nil))) (nomark _)) (pss_one (ps_ret pe_bl)) pss_nil)
    (pss_cons (ps_set (i := 10) scRight.nd rfl (.inl rfl) (pe_op op_catA (pv 4) (pe_tup (pa_cons (pe_op op_add pe_int (pe_op op_mul pe_int (pe_call FR hr1 (by rfl) gR kR bR .nil pass0 (pa_cons (pv 0) (pa_cons pe_int pa_nil))))) pa_nil))))
    (pss_one (ps_ret (pe_or (pe_cmpR op_gt (pe_callB call_len_seq (by rfl) T.len PySem.boot_len (pa_cons (pv 10) pa_nil)) pe_int (nomark _))
        (pe_one (pe_cmpR (op_eqD hr.units) (pe_lc (tt := tTest (tOp (rNotInD K) (tVar 14) (tVar 5))) (own := [("lot", 14)]) (g := gName 14) rfl scRight.nd (pi_tup (pe_call FB hr (by rfl) gB kB bB .nil pass0 (pa_cons (pv 3) (pa_cons (pv 10) pa_nil)))) (blkOk_by (N := nRight) (sc := defScope sRight) (by decide +kernel)) (fun _ _ _ _ _ => pg_name (i := 14) scRight.nd rfl (.inl rfl))
          (fun _ _ _ _ _ => pts_one (pt_cmpR (op_notInD hu65) (pv 14) (pv 5) (by rfl))) (fun _ _ _ _ _ => pv 14)) (pe_lst pa_nil) (nomark _))))))))))))))))), ?_⟩
  -- the menu
  refine ⟨_, rfl, (by show 3 ≤ sizeLine; decide), fun l1 h1 => ⟨(by show 5 ≤ sizeLine; decide), fun l2 h2 => ⟨(by show 5 ≤ sizeLine; decide), fun l3 h3 => ⟨(by show 3 ≤ sizeLine; decide), fun l4 h4 => ?_⟩⟩⟩⟩
  have e1 := Same.new (o := .lst [.int 2, .int 4, .int 6]) h1
  have e2 := Same.new (o := .lst [.int 2, .int 2, .int 4, .int 6, .int 8]) h2
  have e3 := Same.new (o := .lst [.int 2, .int 6, .int 10, .int 14, .int 40]) h3
  have e4 := Same.new (o := .lst [.ref l1, .ref l2, .ref l3]) h4
  have g1 := e4 _ _ (e3 _ _ (e2 _ _ (upd_same (H := H) (a := l1) (o := .lst [.int 2, .int 4, .int 6]))))
  have g2 := e4 _ _ (e3 _ _ (upd_same (H := upd H l1 (.lst [.int 2, .int 4, .int 6])) (a := l2) (o := .lst [.int 2, .int 2, .int 4, .int 6, .int 8])))
  have g3 := e4 _ _ (upd_same (H := upd (upd H l1 (.lst [.int 2, .int 4, .int 6])) l2 (.lst [.int 2, .int 2, .int 4, .int 6, .int 8])) (a := l3) (o := .lst [.int 2, .int 6, .int 10, .int 14, .int 40]))
  have n1 : l1 ≠ d := (ne_of_none hd h1).symm
  have n2 : l2 ≠ d := (ne_of_none (e1 _ _ hd) h2).symm
  have n3 : l3 ≠ d := (ne_of_none (e2 _ _ (e1 _ _ hd)) h3).symm
  have n4 : l4 ≠ d := (ne_of_none (e3 _ _ (e2 _ _ (e1 _ _ hd))) h4).symm
  have e14 := e1.trans (e2.trans (e3.trans e4))
  refine ⟨d, l4, [.ref l1, .ref l2, .ref l3], L, rfl, e14 _ _ hd, hL, upd_same, n4, by simp, by show 3 < 1000; decide, fun x L1 hx hL1 => ?_⟩
  have B1 : But d H (upd (upd (upd (upd (upd H l1 (.lst [.int 2, .int 4, .int 6])) l2 (.lst [.int 2, .int 2, .int 4, .int 6, .int 8])) l3 (.lst [.int 2, .int 6, .int 10, .int 14, .int 40])) l4 (.lst [.ref l1, .ref l2, .ref l3])) d (.lst L1)) := (But.of e14).trans But.dice
  obtain ⟨m, mm, rfl, gm, nm, mne, mlen, mev⟩ : ∃ (m : Addr) (mm : List Int), x = .ref m ∧ upd (upd (upd (upd (upd H l1 (.lst [.int 2, .int 4, .int 6])) l2 (.lst [.int 2, .int 2, .int 4, .int 6, .int 8])) l3 (.lst [.int 2, .int 6, .int 10, .int 14, .int 40])) l4 (.lst [.ref l1, .ref l2, .ref l3])) d (.lst L1) m = some (.lst (iV mm)) ∧ m ≠ d ∧ mm ≠ [] ∧ mm.length < 1000 ∧ ∀ e ∈ mm, EvN e := by
    simp only [List.mem_cons, List.not_mem_nil, or_false] at hx
    rcases hx with rfl | rfl | rfl
    · refine ⟨l1, [2, 4, 6], rfl, by rw [upd_ne n1]; exact g1, n1, by simp, by decide, ?_⟩
      unfold EvN
      decide
    · refine ⟨l2, [2, 2, 4, 6, 8], rfl, by rw [upd_ne n2]; exact g2, n2, by simp, by decide, ?_⟩
      unfold EvN
      decide
    · refine ⟨l3, [2, 6, 10, 14, 40], rfl, by rw [upd_ne n3]; exact g3, n3, by simp, by decide, ?_⟩
      unfold EvN
      decide
  have hd1 : upd (upd (upd (upd (upd H l1 (.lst [.int 2, .int 4, .int 6])) l2 (.lst [.int 2, .int 2, .int 4, .int 6, .int 8])) l3 (.lst [.int 2, .int 6, .int 10, .int 14, .int 40])) l4 (.lst [.ref l1, .ref l2, .ref l3])) d (.lst L1) d = some (.lst L1) := upd_same
  generalize upd (upd (upd (upd (upd H l1 (.lst [.int 2, .int 4, .int 6])) l2 (.lst [.int 2, .int 2, .int 4, .int 6, .int 8])) l3 (.lst [.int 2, .int 6, .int 10, .int 14, .int 40])) l4 (.lst [.ref l1, .ref l2, .ref l3])) d (.lst L1) = H1 at *
  -- how many
  refine ⟨_, rfl, d, 6, L1, rfl, by decide, bits500 (by decide) (by decide), hd1, hL1, fun r L2 r0 r1 hL2 => ?_⟩
  have B2 : But d H1 (upd H1 d (.lst L2)) := But.dice
  have hd2 : upd H1 d (.lst L2) d = some (.lst L2) := upd_same
  have gm2 := B2 _ _ nm gm
  generalize upd H1 d (.lst L2) = H2 at *
  refine ⟨(by show 2 ≤ sizeLine; decide), fun t1 ht1 => ⟨t1, [.ref m, .int r], rfl, SqT.of upd_same, rfl, .ref m, [.int r], rfl, .int r, [], rfl, rfl, ?_⟩⟩
  have e5 := Same.new (o := .tup [.ref m, .int r]) ht1
  have hd3 := e5 _ _ hd2
  have gm3 := e5 _ _ gm2
  have B3 : But d H (upd H2 t1 (.tup [.ref m, .int r])) := B1.trans (B2.trans (But.of e5))
  generalize upd H2 t1 (.tup [.ref m, .int r]) = H3 at *
  -- the even ones
  refine ⟨_, rfl, r, rfl, by omega, by omega, fun D hD => ?_⟩
  refine lc_dice (lo := 0) (N := r.toNat) (d := d) (L := L2) EvN hD hd3 hL2 (by omega) (fun _ => rfl) (fun n J1 L3 Q2 hn C1 hj1 hL3 q => ?_) fun H4 L3 EV B4 hd4 hL3 hD4 lE tE => ?_
  · refine ⟨_, rfl, _, rfl, d, m, iV mm, L3, rfl, hj1, hL3, C1 _ _ nm gm3, nm, by simpa using mne, by rw [List.length_map]; exact mlen, fun x L4 hx hL4 => ?_⟩
    obtain ⟨j, hj, rfl⟩ := List.mem_map.mp hx
    exact q _ L4 j But.dice upd_same hL4 (mev j hj)
  refine ⟨D, _, rfl, .inl ⟨SqL.of hD4, fun tE' htE => ?_⟩⟩
  have hE : Ev EV := ⟨by omega, fun e he => ⟨(tE e he).1, (tE e he).2.1⟩, fun e he => (tE e he).2.2⟩
  have e6 := Same.new (o := .tup (iV EV)) htE
  have hd5 := e6 _ _ hd4
  have gm5 := e6 _ _ (B4 _ _ nm gm3)
  have B5 : But d H (upd H4 tE' (.tup (iV EV))) := B3.trans (B4.trans (But.of e6))
  have ha : SqT K (upd H4 tE' (.tup (iV EV))) tE' (iV EV) := SqT.of upd_same
  generalize upd H4 tE' (.tup (iV EV)) = H5 at *
  -- the odd ones
  refine ⟨_, rfl, _, rfl, _, _, rfl, rfl, d, r + 3, L3, rfl, by omega, bits500 (by omega) (by omega), hd5, hL3, fun u L4 u0 u1 hL4 => ⟨u, rfl, by omega, by omega, fun D2 hD2 => ?_⟩⟩
  have B6 : But d H5 (upd H5 d (.lst L4)) := But.dice
  have hd6 : upd H5 d (.lst L4) d = some (.lst L4) := upd_same
  have gm6 := B6 _ _ nm gm5
  have ha6 := B6.tup hd5 ha
  generalize upd H5 d (.lst L4) = H6 at *
  refine lc_dice (lo := 0) (N := u.toNat) (d := d) (L := L4) (fun j => j % 2 = 1) hD2 hd6 hL4 (by omega) (fun _ => rfl) (fun n J1 L5 Q2 hn C1 hj1 hL5 q => ?_) fun H7 L5 M B7 hd7 hL5 hD7 lM tM => ?_
  · refine ⟨_, rfl, _, rfl, d, m, iV mm, L5, rfl, hj1, hL5, C1 _ _ nm gm6, nm, by simpa using mne, by rw [List.length_map]; exact mlen, fun x L6 hx hL6 => ?_⟩
    obtain ⟨j, hj, rfl⟩ := List.mem_map.mp hx
    have ej := mev j hj
    have j40 := ej.2.1
    have j2 := ej.1
    refine ⟨_, _, rfl, rfl, .inl ⟨by decide, by decide⟩, _, _, rfl, rfl, _, rfl, d, 4, L6, rfl, by decide, bits500 (by decide) (by decide), upd_same, hL6, fun y L7 y0 y1 hL7 => ⟨rfl, ?_⟩⟩
    rw [dInt]
    refine .inr ⟨_, rfl, _, _, rfl, rfl, .inl ⟨by decide, by decide⟩, _, _, rfl, rfl, ?_⟩
    refine q _ L7 _ (But.dice.trans But.dice) upd_same hL7 ?_
    have e2 := ej.2.2
    split <;> omega
  refine ⟨D2, _, rfl, .inl ⟨SqL.of hD7, fun t2 ht2 => ?_⟩⟩
  have e7 := Same.new (o := .tup (iV M)) ht2
  have hd8 := e7 _ _ hd7
  have ha8 := tupSame e7 (B7.tup hd6 ha6)
  have B8 : But d H (upd H7 t2 (.tup (iV M))) := B5.trans (B6.trans (B7.trans (But.of e7)))
  have hM8 : SqT K (upd H7 t2 (.tup (iV M))) t2 (iV M) := SqT.of upd_same
  generalize upd H7 t2 (.tup (iV M)) = H8 at *
  -- to 39
  refine ⟨_, rfl, t2, rfl, ⟨_, hM8⟩, fun D3 hD3 => lc_ints (K := K) (a := t2) (L := M) (fun o => .int (clip o)) (fun _ => true) hD3 hM8 (by omega) (fun _ => rfl) (fun o J1 Q1 _ s q => q J1 (Same.refl _)) (fun o J1 Q1 _ _ s q => ?_) fun H9 s9 hD9 => ?_⟩
  · have q := q J1 (Same.refl _)
    refine ⟨_, rfl, _, _, rfl, rfl, _, rfl, ?_⟩
    unfold clip at q
    by_cases c1 : 3 ≤ o
    · rw [decide_eq_true c1]
      refine iteT ⟨_, _, rfl, rfl, _, rfl, ?_⟩
      by_cases c2 : o < 40
      · rw [if_pos ⟨c1, c2⟩] at q
        rw [decide_eq_true c2]
        exact iteT ⟨_, rfl, q⟩
      · rw [if_neg fun z => c2 z.2] at q
        rw [decide_eq_false c2]
        exact iteF q
    · rw [if_neg fun z => c1 z.1] at q
      rw [decide_eq_false c1]
      exact iteF ⟨_, rfl, iteF q⟩
  rw [filter_yes] at hD9
  have hp : M.map (fun o => V.int (clip o)) = iV (M.map clip) := by
    show _ = List.map V.int (List.map clip M)
    rw [List.map_map]
    rfl
  rw [hp] at hD9
  have hO : Od (M.map clip) := clip_od tM (by omega)
  have lO : (M.map clip).length ≤ 7 := by
    rw [List.length_map]
    omega
  generalize M.map clip = OD at *
  refine ⟨D3, _, rfl, .inl ⟨SqL.of hD9, fun t3 ht3 => ?_⟩⟩
  have e9 := Same.new (o := .tup (iV OD)) ht3
  have s10 := s9.trans e9
  have hdA := s10 _ _ hd8
  have haA := tupSame s10 ha8
  have BA : But d H (upd H9 t3 (.tup (iV OD))) := B8.trans (But.of s10)
  have hbA : SqT K (upd H9 t3 (.tup (iV OD))) t3 (iV OD) := SqT.of upd_same
  generalize upd H9 t3 (.tup (iV OD)) = HA at *
  -- what bars
  have lb : (barring EV OD).length ≤ 1000 := by
    have h6 : EV.length ≤ 6 := hE.len
    have : 2 ^ EV.length ≤ 2 ^ 6 := Nat.pow_le_pow_right (by decide) h6
    have q := List.length_filter_le (bars EV OD) (lotsOf EV.length)
    have z : (lotsOf EV.length).length ≤ 64 := by
      unfold lotsOf
      rw [(srt_perm _).length_eq, List.length_tail, pow_len]
      omega
    unfold barring
    omega
  refine ⟨_, rfl, _, rfl, tE', t3, EV, OD, rfl, haA, hE, hbA, hO, fun HB p ys sB pn hp tv => ⟨_, rfl, _, rfl, tE', t3, EV, OD, rfl, tupSame sB haA, hE, tupSame sB hbA, hO, fun HC u ws sC hu tw => ⟨(by show 2 ≤ sizeLine; decide), fun t4 ht4 => ⟨t4, [.ref p, .ref u], rfl, SqT.of upd_same, rfl, .ref p, [.ref u], rfl, .ref u, [], rfl, rfl, ?_⟩⟩⟩⟩
  have np : p ≠ d := (ne_of_none hdA pn).symm
  have eC := Same.new (o := .tup [.ref p, .ref u]) ht4
  have sAD := sB.trans (sC.trans eC)
  have hpD := eC _ _ (sC _ _ hp)
  have huD := eC _ _ hu
  have tvD := tv_mono tv (sC.trans eC)
  have twD := tv_mono tw eC
  have hdD := sAD _ _ hdA
  have haD := tupSame sAD haA
  have hbD := tupSame sAD hbA
  have BD : But d H (upd HC t4 (.tup [.ref p, .ref u])) := BA.trans (But.of sAD)
  generalize upd HC t4 (.tup [.ref p, .ref u]) = HD at *
  -- told is due
  refine ⟨_, rfl, _, rfl, p, ys, rfl, .inl ⟨SqL.of hpD, fun t5 ht5 => ?_⟩⟩
  have e5' := Same.new (o := .tup ys) ht5
  refine ⟨.tuple ((barring EV OD).map dI), .tuple ((barring EV OD).map dI), .tup (SqT.of (e5' _ _ huD)) (dp_tups (tv_mono twD e5')), .tup (SqT.of upd_same) (dp_tups (tv_mono tvD e5')), (Shp.tup shp_dI _).shaped (by decide), (Shp.tup shp_dI _).shaped (by decide), _, rfl, ?_⟩
  rw [eqv_self (Shp.tup shp_dI _) (by decide)]
  have hdE := e5' _ _ hdD
  have hpE := e5' _ _ hpD
  have tvE := tv_mono tvD e5'
  have haE := tupSame e5' haD
  have hbE := tupSame e5' hbD
  have BE := BD.trans (But.of e5')
  generalize upd HD t5 (.tup ys) = HE at *
  refine iteF ⟨_, rfl, _, rfl, tE', t3, EV, OD, rfl, haE, hE, hbE, hO, fun HF sF => ⟨_, rfl, _, rfl, (by show 0 ≤ sizeLine; decide), fun t6 ht6 => ?_⟩⟩
  have e6' := Same.new (o := .lst []) ht6
  have sEF := sF.trans e6'
  have ee : PyData.eqv (.list ((barring EV OD).map dI)) (.list []) = decide (barring EV OD = []) := by
    rw [eqv_empty (Shp.lst shp_dI _) (by decide)]
    exact decide_eq_decide.mpr List.map_eq_nil_iff
  refine ⟨.list ((barring EV OD).map dI), .list [], .lst (SqL.of (sEF _ _ hpE)) (dp_tups (tv_mono tvE sEF)), .lst (SqL.of upd_same) .nil, (Shp.lst shp_dI _).shaped (by decide), (Shp.lst shp_dI ([] : List (List Int))).shaped (by decide), _, rfl, rfl, _, rfl, ?_⟩
  rw [ee, decide_eq_true rfl]
  have hdF := sEF _ _ hdE
  have hpF := sEF _ _ hpE
  have tvF := tv_mono tvE sEF
  have haF := tupSame sEF haE
  have hbF := tupSame sEF hbE
  have BF := BE.trans (But.of sEF)
  generalize upd HF t6 (.lst []) = HG at *
  -- the needs
  refine iteF ⟨fun σ HI => σ = [some (.ref d), some (.ref m), some (.int r), some (.ref tE'), some (.ref t3), some (.ref p), some (.ref u), none, none, none, none, none, none, none, none] ∧ Same HG HI, ⟨_, rfl, (by show 0 ≤ sizeLine; decide), fun t7 ht7 => ?_⟩, ?_⟩
  · have e7' := Same.new (o := .lst []) ht7
    refine ⟨.list ((barring EV OD).map dI), .list [], .lst (SqL.of (e7' _ _ hpF)) (dp_tups (tv_mono tvF e7')), .lst (SqL.of upd_same) .nil, (Shp.lst shp_dI _).shaped (by decide), (Shp.lst shp_dI ([] : List (List Int))).shaped (by decide), _, rfl, ?_⟩
    rw [ee]
    by_cases c : barring EV OD = []
    · rw [decide_eq_true c]
      exact iteT ⟨_, rfl, _, rfl, tE', t3, EV, OD, rfl, tupSame e7' haF, hE, tupSame e7' hbF, hO, c, fun HI sI => ⟨_, rfl, iteF ⟨rfl, e7'.trans sI⟩⟩⟩
    · rw [decide_eq_false c]
      exact iteF (iteF ⟨rfl, e7'⟩)
  rintro σ HH ⟨rfl, sGH⟩
  have hdG := sGH _ _ hdF
  have hpG := sGH _ _ hpF
  have tvG := tv_mono tvF sGH
  have haG := tupSame sGH haF
  have hbG := tupSame sGH hbF
  have BG := BF.trans (But.of sGH)
  -- names
  have lE : EV.length ≤ 6 := hE.len
  refine ⟨_, rfl, _, rfl, tE', _, rfl, .inr haG, _, rfl, RgOk.of_le (by decide) (by rw [List.length_map]; omega) (by decide) (by omega), fun q hq => ?_⟩
  have e8 := Same.new (o := .lst (rgV 0 ((iV EV).length : Nat))) hq
  have er : rgV 0 ((iV EV).length : Nat) = iV ((List.range EV.length).map fun j : Nat => (j : Int)) := by
    unfold rgV
    rw [List.length_map, show ((EV.length : Nat) - 0 : Int).toNat = EV.length by omega]
    show _ = List.map V.int (List.map _ _)
    rw [List.map_map]
    refine List.map_congr_left fun j _ => ?_
    show V.int (0 + (j : Int)) = V.int (j : Int)
    rw [Int.zero_add]
  rw [er] at e8 ⊢
  refine ⟨d, q, L5, (List.range EV.length).map (fun j : Nat => (j : Int)), rfl, e8 _ _ hdG, hL5, .inl (SqL.of upd_same), by rw [List.length_map, List.length_range]; omega, fun HI q2 L6 N hL6 hdI pN hq2 nq2 BI => ?_⟩
  have hN : Nm EV.length N := ⟨pN⟩
  have hpI := BI _ _ np (e8 _ _ hpG)
  have tvI := tv_but (tv_mono tvG e8) BI (e8 _ _ hdG)
  have haI := BI.tup (e8 _ _ hdG) (tupSame e8 haG)
  have hbI := BI.tup (e8 _ _ hdG) (tupSame e8 hbG)
  have BI' : But d H HI := BG.trans ((But.of e8).trans BI)
  -- back
  refine ⟨_, rfl, tE', _, rfl, .inr haI, (EV.length : Int), by rw [List.length_map], by omega, by omega, fun D4 hD4 => lc_range1 (lo := 0) (N := ((EV.length : Int)).toNat) (fun i => .int (EV.getD (N.idxOf i) 0)) hD4 (by omega) (fun _ => rfl) (fun n J1 Q1 hn s q => ?_) fun HJ sJ hDJ => ?_⟩
  · have ix := hN.idx (j := 0 + (n : Int)) (by omega) (by omega)
    have lN := hN.len
    have gN' : (iV N)[N.idxOf (0 + (n : Int))]? = some (.int (0 + (n : Int))) := by
      rw [List.getElem?_map, ix.2]
      rfl
    have gE' := pick_get (E := EV) (i := ((N.idxOf (0 + (n : Int)) : Nat) : Int)) (by omega) (by omega)
    refine ⟨_, rfl, _, rfl, .inl ⟨rfl, _, SqL.of (s _ _ hq2)⟩, _, rfl, q2, iV N, .int (0 + (n : Int)), N.idxOf (0 + (n : Int)), .int (0 + (n : Int)), rfl, rfl, SqL.of (s _ _ hq2), rfl, flat_ints, gN', ?_, fun m' z' hm' hz' => ?_, tE', _, _, _, rfl, rfl, tupSame s haI, at_of (j := N.idxOf (0 + (n : Int))) rfl ?_, q J1 (Same.refl _)⟩
    · show ((0 + (n : Int)) == (0 + (n : Int))) = true
      exact beq_self_eq_true _
    · rw [List.getElem?_map] at hz'
      obtain ⟨z, hz, rfl⟩ := Option.map_eq_some_iff.mp hz'
      have ne := idx_first hm' hz
      show (z == (0 + (n : Int))) = false
      exact beq_false_of_ne ne
    · rw [show (((N.idxOf (0 + (n : Int)) : Nat) : Int)).toNat = N.idxOf (0 + (n : Int)) by omega] at gE'
      exact gE'.1
  have hp2 : ((List.range ((EV.length : Int)).toNat).map fun n : Nat => V.int (EV.getD (N.idxOf (0 + (n : Int))) 0)) = iV (backOf EV N) := by
    unfold backOf
    rw [show ((EV.length : Int)).toNat = EV.length by omega]
    show _ = List.map V.int (List.map _ _)
    rw [List.map_map]
    refine List.map_congr_left fun j _ => ?_
    rw [Int.zero_add]
    rfl
  rw [hp2] at hDJ
  refine ⟨D4, _, rfl, .inl ⟨SqL.of hDJ, fun t8 ht8 => ?_⟩⟩
  have e9' := Same.new (o := .tup (iV (backOf EV N))) ht8
  have sK := sJ.trans e9'
  have hkK : SqT K (upd HJ t8 (.tup (iV (backOf EV N)))) t8 (iV (backOf EV N)) := SqT.of upd_same
  have hdK := sK _ _ hdI
  have hpK := sK _ _ hpI
  have hqK := sK _ _ hq2
  have tvK := tv_mono tvI sK
  have haK := tupSame sK haI
  have hbK := tupSame sK hbI
  have BK := BI'.trans (But.of sK)
  generalize upd HJ t8 (.tup (iV (backOf EV N))) = HK at *
  -- mixed
  refine ⟨_, rfl, _, rfl, d, t3, L6, OD, rfl, hdK, hL6, .inr hbK, by omega, fun HL q3 L7 G hL7 hdL pG hq3 nq3 BL => ⟨q3, _, rfl, .inl ⟨SqL.of hq3, fun t9 ht9 => ?_⟩⟩⟩
  have e10 := Same.new (o := .tup (iV G)) ht9
  have hG : Od G := hO.perm pG
  have hdM := e10 _ _ hdL
  have hpM := e10 _ _ (BL _ _ np hpK)
  have hqM := e10 _ _ (BL _ _ nq2 hqK)
  have tvM := tv_mono (tv_but tvK BL hdK) e10
  have haM := tupSame e10 (BL.tup hdK haK)
  have hbM := tupSame e10 (BL.tup hdK hbK)
  have hkM := tupSame e10 (BL.tup hdK hkK)
  have BM := BK.trans (BL.trans (But.of e10))
  have hgM : SqT K (upd HL t9 (.tup (iV G))) t9 (iV G) := SqT.of upd_same
  generalize upd HL t9 (.tup (iV G)) = HM at *
  -- the same lots by other names
  refine ⟨_, rfl, _, rfl, t8, t9, backOf EV N, G, rfl, hkM, back_ev hE hN, hgM, hG, fun HO1 u1 ws1 sO hu1 tw1 => ⟨u1, ws1, rfl, .inr (SqT.of hu1), fun l5 hl5 => ?_⟩⟩
  have e11 := Same.new (o := .lst ws1) hl5
  have sO' := sO.trans e11
  have lN := hN.len
  refine ⟨_, rfl, _, rfl, p, q2, ys, barring EV OD, N, rfl, sO' _ _ hpM, tv_mono tvM sO', fun l hl => ?_, lb, sO' _ _ hqM, by omega, fun HP p3 zs sP hp3 tz => ?_⟩
  · have z := (mem_barring.mp hl).1
    rw [lN]
    exact z
  refine ⟨.list ((barring (backOf EV N) G).map dI), .list ((renamed N (barring EV OD)).map dI), .lst (SqL.of (sP _ _ upd_same)) (dp_tups (tv_mono (tv_mono tw1 e11) sP)), .lst (SqL.of hp3) (dp_tups tz), (Shp.lst shp_dI _).shaped (by decide), (Shp.lst shp_dI _).shaped (by decide), _, rfl, ?_⟩
  rw [renamed_eq hN pG, eqv_self (Shp.lst shp_dI _) (by decide)]
  have sMP := sO'.trans sP
  have hdP := sMP _ _ hdM
  have hpP := sMP _ _ hpM
  have tvP := tv_mono tvM sMP
  have haP := tupSame sMP haM
  have hbP := tupSame sMP hbM
  have BP := BM.trans (But.of sMP)
  -- one more
  refine iteF ⟨_, rfl, _, rfl, d, 19, L7, rfl, by decide, bits500 (by decide) (by decide), hdP, hL7, fun j L8 j0 j1 hL8 => ⟨_, _, rfl, rfl, .inl ⟨by decide, by decide⟩, _, _, rfl, rfl, (by show 1 ≤ sizeLine; decide), fun t10 ht10 => ?_⟩⟩
  have e12 := Same.new (o := .tup [.int (3 + 2 * j)]) ht10
  have C1 : But d HP (upd HP d (.lst L8)) := But.dice
  have hdQ : upd HP d (.lst L8) d = some (.lst L8) := upd_same
  refine cat_tup (tupSame e12 (C1.tup hdP hbP)) (SqT.of upd_same) (by rw [List.length_map]; show OD.length + 1 ≤ 1000; omega) fun HR t11 sR hR => ?_
  have hR : SqT K HR t11 (iV (OD ++ [3 + 2 * j])) := by
    show SqT K HR t11 (List.map V.int (OD ++ [3 + 2 * j]))
    rw [List.map_append]
    exact hR
  have eR := e12.trans sR
  have hdR := eR _ _ hdQ
  have hpR := eR _ _ (C1 _ _ np hpP)
  have tvR := tv_mono (tv_but tvP C1 hdP) eR
  have haR := tupSame eR (C1.tup hdP haP)
  have BR := BP.trans (C1.trans (But.of eR))
  have hOR : Od (OD ++ [3 + 2 * j]) := by
    refine ⟨by rw [List.length_append, List.length_singleton]; omega, fun e he => ?_, fun e he => ?_⟩
    · rcases List.mem_append.mp he with z | z
      · exact hO.inn e z
      · rw [List.mem_singleton.mp z]
        omega
    · rcases List.mem_append.mp he with z | z
      · exact hO.par e z
      · rw [List.mem_singleton.mp z]
        omega
  refine ⟨_, rfl, t11, _, rfl, .inr hR, _, _, rfl, rfl, _, rfl, ?_⟩
  rw [decide_eq_false (by rw [List.length_map, List.length_append, List.length_singleton]; omega)]
  refine iteF ⟨_, rfl, _, rfl, tE', t11, EV, OD ++ [3 + 2 * j], rfl, haR, hE, hR, hOR, fun HS u2 ws2 sS hu2 tw2 => ⟨u2, rfl, ⟨_, SqT.of hu2⟩, fun D5 hD5 => ?_⟩⟩
  have hpS := sS _ _ hpR
  have tvS := tv_mono tvR sS
  have lb2 : (barring EV (OD ++ [3 + 2 * j])).length ≤ 1000 := by
    have h6 : EV.length ≤ 6 := hE.len
    have : 2 ^ EV.length ≤ 2 ^ 6 := Nat.pow_le_pow_right (by decide) h6
    have q := List.length_filter_le (bars EV (OD ++ [3 + 2 * j])) (lotsOf EV.length)
    have z : (lotsOf EV.length).length ≤ 64 := by
      unfold lotsOf
      rw [(srt_perm _).length_eq, List.length_tail, pow_len]
      omega
    unfold barring
    omega
  refine lc_tupsT (K := K) (a := u2) (g := id) (p := fun _ => false) hD5 (SqT.of hu2) tw2 lb2 (fun _ => rfl) (fun t l J1 Q1 hm hT s q => ?_) (fun t l J1 Q1 hm hT z s q => nomatch z) fun HT zs2 sT hDT tz2 => ?_
  · have hm' : l ∈ barring EV OD := barring_more hm
    refine ⟨_, rfl, _, rfl, dI l, (barring EV OD).map dI, .tup hT (dp_ints _), .lst (SqL.of (s _ _ hpS)) (dp_tups (tv_mono tvS s)), (shp_dI l).shaped (by decide), (Shp.lst shp_dI _).shaped (by decide), _, rfl, ?_⟩
    have e : ((barring EV OD).map dI).any (fun z => PyData.eqv z (dI l)) = true := by
      rw [List.any_eq_true]
      exact ⟨dI l, List.mem_map.mpr ⟨l, hm', rfl⟩, eqv_self (shp_dI l) (by decide)⟩
    rw [e]
    exact q J1 (Same.refl _)
  · have ez : (barring EV (OD ++ [3 + 2 * j])).filter (fun _ => false) = [] := List.filter_eq_nil_iff.mpr fun _ _ => Bool.false_ne_true
    rw [ez] at tz2
    cases tz2
    refine ⟨(by show 0 ≤ sizeLine; decide), fun l6 hl6 => ?_⟩
    have e13 := Same.new (o := .lst []) hl6
    refine ⟨.list (([] : List Int).map PyData.int), .list (([] : List Int).map PyData.int), .lst (SqL.of (e13 _ _ hDT)) .nil, .lst (SqL.of upd_same) .nil, (Shp.lst Shp.int ([] : List Int)).shaped (by decide), (Shp.lst Shp.int ([] : List Int)).shaped (by decide), ?_⟩
    rw [eqv_self (Shp.lst Shp.int ([] : List Int)) (by decide)]
    have sRE := sS.trans (sT.trans e13)
    exact k _ L8 hL8 (sRE _ _ hdR) (BR.trans (But.of sRE))
end
end K4
namespace K4
open PySem PySem.Spec PyProof.Rows L2 RZ
abbrev nLaw : List Str := ["script", "spot", "dice", "turn", "told"]
theorem scLaw : FnScope nLaw ["script"] (defScope sLaw) := ⟨rfl, rfl, rfl, by decide +kernel, rfl, by decide +kernel, by decide +kernel⟩
def spLaw (K : PySem.W.Frag) : Sp := fun vs H Q _ => ∃ (a : Addr) (ns : List Int), vs = [.ref a] ∧ SqL K H a (ns.map V.int) ∧ ns.length ≤ 1000 ∧ ∀ H', Q (.bl true) H'
theorem seqBut {K : PySem.W.Frag} {H H' : Hp} {a d : Addr} {xs : List V} {o : HO} (h : SqL K H a xs) (hd : H d = none) (B : But d (upd H d o) H') : SqL K H' a xs := by
  rcases h with (h | ⟨ob, h⟩) | h
  · have ne := ne_of_none h hd
    exact .inl (.inl (B _ _ ne (by rw [upd_ne ne]; exact h)))
  · have ne := ne_of_none h hd
    exact .inl (.inr ⟨ob, B _ _ ne (by rw [upd_ne ne]; exact h)⟩)
  · exact .inr h
/-- a tuple of lots -/
def BV (K : PySem.W.Frag) (H : Hp) (v : V) (ls : List (List Int)) : Prop := ∃ p ys, v = .ref p ∧ SqT K H p ys ∧ TupsV K H ys ls
theorem BV.mono {K : PySem.W.Frag} {H H' : Hp} {v : V} {ls : List (List Int)} (h : BV K H v ls) (s : Same H H') : BV K H' v ls := by
  obtain ⟨p, ys, e, h1, h2⟩ := h
  exact ⟨p, ys, e, tupSame s h1, tv_mono h2 s⟩
theorem BV.dp {K : PySem.W.Frag} {H : Hp} {v : V} {ls : List (List Int)} (h : BV K H v ls) : Dp K H v (.tuple (ls.map dI)) := by
  obtain ⟨p, ys, rfl, h1, h2⟩ := h
  exact .tup h1 (dp_tups h2)
theorem shp_lots (ls : List (List Int)) : Shp 2 (.tuple (ls.map dI)) := .tup shp_dI ls
theorem b1 : barring [4, 6] [9, 9] = [[0], [1]] := by decide +kernel
theorem b2 : barring [4, 6] [9, 23] = [] := by decide +kernel
theorem b3 : barring [2, 2] [3] = [[0, 1]] := by decide +kernel
theorem b4 : barring [4, 6] [9, 13] = [[0], [1]] := by decide +kernel
theorem b5 : barring [] [3, 5] = [] := by decide +kernel
theorem ce2 : barring [2] [] = [[0]] := by decide +kernel
theorem ce3 : barring [2, 4] [7, 5] = [] := by decide +kernel
theorem ce4 : barring [2] [3, 5] = [] := by decide +kernel
theorem ce5 : barring [6] [9] = [[0]] := by decide +kernel
theorem ce6 : barring [] [] = [] := by decide +kernel
theorem m1 : made [4, 6] 10 = true := by decide +kernel
theorem m2 : made [4, 6] 4 = false := by decide +kernel
theorem m3 : made [4, 6] 14 = true := by decide +kernel
theorem m4 : made [2] 0 = false := by decide +kernel
theorem m5 : made [5, 7] 12 = true := by decide +kernel
theorem m6 : made [] 6 = false := by decide +kernel
theorem ev (E : List Int) (h : (decide (E.length ≤ 6) && E.all fun e => decide (2 ≤ e) && decide (e ≤ 40) && decide (e % 2 = 0)) = true) : Ev E := by
  rw [Bool.and_eq_true, decide_eq_true_eq, List.all_eq_true] at h
  have q : ∀ e ∈ E, (2 ≤ e ∧ e ≤ 40) ∧ e % 2 = 0 := fun e he => by
    have z := h.2 e he
    rw [Bool.and_eq_true, Bool.and_eq_true, decide_eq_true_eq, decide_eq_true_eq, decide_eq_true_eq] at z
    exact z
  exact ⟨h.1, fun e he => (q e he).1, fun e he => (q e he).2⟩
theorem od (O : List Int) (h : (decide (O.length ≤ 10) && O.all fun e => decide (3 ≤ e) && decide (e ≤ 40) && decide (e % 2 = 1)) = true) : Od O := by
  rw [Bool.and_eq_true, decide_eq_true_eq, List.all_eq_true] at h
  have q : ∀ e ∈ O, (3 ≤ e ∧ e ≤ 40) ∧ e % 2 = 1 := fun e he => by
    have z := h.2 e he
    rw [Bool.and_eq_true, Bool.and_eq_true, decide_eq_true_eq, decide_eq_true_eq, decide_eq_true_eq] at z
    exact z
  exact ⟨h.1, fun e he => (q e he).1, fun e he => (q e he).2⟩
section
variable {P : Program} {w : World} {K : PySem.W.Frag} {mg : Str → Option Value} {base : Heap} {fD fR fM fB fC fI : Addr} {dD dR dM dB dC dI' : FuncData}
theorem ok_law {f : Addr} {fd : FuncData} (F : Fun K "law" "law" sLaw f fd) (T : Txt K mg) (gD : mg "_law_dice" = some (.ref fD)) (kD : PySem.W.keepIn K (.ref fD) = true) (bD : Binds K dD ["script", "spot"] []) (FD : FnOk P w K mg base CX0 1 fD dD ["script", "spot"] (spDice K))
    (gR : mg "_law_right" = some (.ref fR)) (kR : PySem.W.keepIn K (.ref fR) = true) (bR : Binds K dR ["dice"] []) (FR : FnOk P w K mg base CX0 7 fR dR ["dice"] spTurn)
    (gM : mg "_law_made_right" = some (.ref fM)) (kM : PySem.W.keepIn K (.ref fM) = true) (bM : Binds K dM ["dice"] []) (FM : FnOk P w K mg base CX0 6 fM dM ["dice"] spTurn)
    (gB : mg "barring_lots" = some (.ref fB)) (kB : PySem.W.keepIn K (.ref fB) = true) (bB : Binds K dB ["evens", "odds"] []) (FB : FnOk P w K mg base CX0 6 fB dB ["evens", "odds"] (spBarring K))
    (gC : mg "can_end" = some (.ref fC)) (kC : PySem.W.keepIn K (.ref fC) = true) (bC : Binds K dC ["evens", "odds"] []) (FC : FnOk P w K mg base CX0 6 fC dC ["evens", "odds"] (spCanEnd K))
    (gI : mg "is_made" = some (.ref fI)) (kI : PySem.W.keepIn K (.ref fI) = true) (bI : Binds K dI' ["number", "degrees"] []) (FI : FnOk P w K mg base CX0 5 fI dI' ["number", "degrees"] (spMade K)) : FnOk P w K mg base CX0 8 f fd ["script"] (spLaw K) := by
  refine F.ok scLaw (fun vs H Q E h => ?_) (fun cdv A outer s H vs Q E hr h => ?_)
  · obtain ⟨a, ns, rfl, _⟩ := h; rfl
  obtain ⟨a, ns, rfl, hS, ln, k⟩ := h
  have hr1 : Room 1 _ := hr.mono (by decide)
  have hr5 : Room 5 _ := hr.mono (by decide)
  have hr6 : Room 6 _ := hr.mono (by decide)
  refine ⟨_, pss_cons (ps_for PassesOwn.never rfl (pi_range1 rfl T.range (pa_cons (pe_callB (call_max2 rfl) (by rfl) T.max bootMax (pa_cons pe_int (pa_cons (pe_callB (call_min2 rfl) (by rfl) T.min bootMin (pa_cons pe_int (pa_cons (pe_callB call_len_seq (by rfl) T.len PySem.boot_len (pa_cons (pv 0) pa_nil)) pa_nil))) pa_nil))) pa_nil))
      (pg_name (i := 1) scLaw.nd rfl (.inl rfl))
      (pss_cons (ps_set (i := 2) scLaw.nd rfl (.inl rfl) (pe_call FD hr1 (by rfl) gD kD bD .nil pass0 (pa_cons (pv 0) (pa_cons (pv 1) pa_nil))))
      (pss_one (ps_for PassesOwn.never rfl (pi_range1 rfl T.range (pa_cons pe_int pa_nil)) (pg_name (i := 3) scLaw.nd rfl (.inl rfl))
        (pss_one (ps_if (PW.pt (pw_or (pt_not (pt_val (pe_call FR hr (by rfl) gR kR bR .nil pass0 (pa_cons (pv 2) pa_nil)))) (pw_or1 (pt_not (pt_val (pe_call FM hr6 (by rfl) gM kM bM .nil pass0 (pa_cons (pv 2) pa_nil))))))) (pss_one (ps_ret pe_bl)) pss_nil))))))
    (pss_cons (ps_set (i := 4) scLaw.nd rfl (.inl rfl) (pe_lst (pa_cons (pe_call FB hr6 (by rfl) gB kB bB .nil pass0 (pa_cons (pe_tup (pa_cons pe_int (pa_cons pe_int pa_nil))) (pa_cons (pe_tup (pa_cons pe_int (pa_cons pe_int pa_nil))) pa_nil)))
        (pa_cons (pe_call FB hr6 (by rfl) gB kB bB .nil pass0 (pa_cons (pe_tup (pa_cons pe_int (pa_cons pe_int pa_nil))) (pa_cons (pe_tup (pa_cons pe_int (pa_cons pe_int pa_nil))) pa_nil)))
        (pa_cons (pe_call FB hr6 (by rfl) gB kB bB .nil pass0 (pa_cons (pe_tup (pa_cons pe_int (pa_cons pe_int pa_nil))) (pa_cons (pe_tup (pa_cons pe_int pa_nil)) pa_nil)))
        (pa_cons (pe_call FB hr6 (by rfl) gB kB bB .nil pass0 (pa_cons (pe_tup (pa_cons pe_int (pa_cons pe_int pa_nil))) (pa_cons (pe_tup (pa_cons pe_int (pa_cons pe_int pa_nil))) pa_nil))) pa_nil))))))
    (pss_cons (ps_if (PW.pt (pw_or (pt_cmpR (op_neD hr.units) (pv 4) (pe_lst (pa_cons (pe_tup (pa_cons (pe_tup (pa_cons pe_int pa_nil)) (pa_cons (pe_tup (pa_cons pe_int pa_nil)) pa_nil))) (pa_cons (pe_tup pa_nil) (pa_cons (pe_tup (pa_cons (pe_tup (pa_cons pe_int (pa_cons pe_int pa_nil))) pa_nil))
          (pa_cons (pe_tup (pa_cons (pe_tup (pa_cons pe_int pa_nil)) (pa_cons (pe_tup (pa_cons pe_int pa_nil)) pa_nil))) pa_nil))))) (nomark _))
        (pw_or1 (pt_cmpR (op_neD hr.units) (pe_call FB hr6 (by rfl) gB kB bB .nil pass0 (pa_cons (pe_tup pa_nil) (pa_cons (pe_tup (pa_cons pe_int (pa_cons pe_int pa_nil))) pa_nil))) (pe_tup pa_nil) (nomark _))))) (pss_one (ps_ret pe_bl)) pss_nil)
    (pss_cons (ps_set (i := 4) scLaw.nd rfl (.inl rfl) (pe_lst (pa_cons (pe_call FC hr6 (by rfl) gC kC bC .nil pass0 (pa_cons (pe_tup (pa_cons pe_int (pa_cons pe_int pa_nil))) (pa_cons (pe_tup (pa_cons pe_int (pa_cons pe_int pa_nil))) pa_nil)))
        (pa_cons (pe_call FC hr6 (by rfl) gC kC bC .nil pass0 (pa_cons (pe_tup (pa_cons pe_int pa_nil)) (pa_cons (pe_tup pa_nil) pa_nil)))
        (pa_cons (pe_call FC hr6 (by rfl) gC kC bC .nil pass0 (pa_cons (pe_tup (pa_cons pe_int (pa_cons pe_int pa_nil))) (pa_cons (pe_tup (pa_cons pe_int (pa_cons pe_int pa_nil))) pa_nil)))
        (pa_cons (pe_call FC hr6 (by rfl) gC kC bC .nil pass0 (pa_cons (pe_tup (pa_cons pe_int pa_nil)) (pa_cons (pe_tup (pa_cons pe_int (pa_cons pe_int pa_nil))) pa_nil)))
        (pa_cons (pe_call FC hr6 (by rfl) gC kC bC .nil pass0 (pa_cons (pe_tup (pa_cons pe_int pa_nil)) (pa_cons (pe_tup (pa_cons pe_int pa_nil)) pa_nil)))
        (pa_cons (pe_call FC hr6 (by rfl) gC kC bC .nil pass0 (pa_cons (pe_tup pa_nil) (pa_cons (pe_tup pa_nil) pa_nil))) pa_nil))))))))
    (pss_cons (ps_if (pt_cmpR (op_neD hr.units) (pv 4) (pe_lst (pa_cons pe_bl (pa_cons pe_bl (pa_cons pe_bl (pa_cons pe_bl (pa_cons pe_bl (pa_cons pe_bl pa_nil))))))) (nomark _)) (pss_one (ps_ret pe_bl)) pss_nil)
    (pss_cons (ps_set (i := 4) scLaw.nd rfl (.inl rfl) (pe_lst (pa_cons (pe_call FI hr5 (by rfl) gI kI bI .nil pass0 (pa_cons pe_int (pa_cons (pe_tup (pa_cons pe_int (pa_cons pe_int pa_nil))) pa_nil)))
        (pa_cons (pe_call FI hr5 (by rfl) gI kI bI .nil pass0 (pa_cons pe_int (pa_cons (pe_tup (pa_cons pe_int (pa_cons pe_int pa_nil))) pa_nil)))
        (pa_cons (pe_call FI hr5 (by rfl) gI kI bI .nil pass0 (pa_cons pe_int (pa_cons (pe_tup (pa_cons pe_int (pa_cons pe_int pa_nil))) pa_nil)))
        (pa_cons (pe_call FI hr5 (by rfl) gI kI bI .nil pass0 (pa_cons pe_int (pa_cons (pe_tup (pa_cons pe_int pa_nil)) pa_nil)))
        (pa_cons (pe_call FI hr5 (by rfl) gI kI bI .nil pass0 (pa_cons pe_int (pa_cons (pe_tup (pa_cons pe_int (pa_cons pe_int pa_nil))) pa_nil)))
        (pa_cons (pe_call FI hr5 (by rfl) gI kI bI .nil pass0 (pa_cons pe_int (pa_cons (pe_tup pa_nil) pa_nil))) pa_nil))))))))
    (pss_one (ps_ret (pe_cmpR (op_eqD hr.units) (pv 4) (pe_lst (pa_cons pe_bl (pa_cons pe_bl (pa_cons pe_bl (pa_cons pe_bl (pa_cons pe_bl (pa_cons pe_bl pa_nil))))))) (nomark _))))))))), ?_⟩
  refine ⟨_, rfl, a, _, rfl, .inl hS, _, _, rfl, _, _, rfl, _, rfl, ?_, ?_, ?_⟩
  · split <;> split <;> omega
  · split <;> split <;> omega
  refine for_range (lo := 0) (fun _ σ' H' => ∃ o1 o2 o3 : Option V, σ' = [some (.ref a), o1, o2, o3, none] ∧ SqL K H' a (ns.map V.int)) ⟨none, none, none, rfl, hS⟩ ?_ ?_
  · rintro i σ' H' _ ⟨o1, o2, o3, rfl, hs⟩
    refine ⟨_, rfl, _, rfl, a, _, ns, rfl, hs, by omega, fun L p hL hp => ?_⟩
    refine ⟨2, rfl, by decide, by decide, for_range (lo := 0) (fun _ σ' H2 => ∃ (o3 : Option V) (L' : List V), σ' = [some (.ref a), some (.int (0 + (i : Int))), some (.ref p), o3, none] ∧ H2 p = some (.lst L') ∧ DiceL L' ∧ But p (upd H' p (.lst L)) H2) ⟨o3, L, rfl, upd_same, hL, But.refl _ _⟩ ?_ ?_⟩
    · rintro j σ2 H2 _ ⟨o3, L', rfl, h2, hL', B⟩
      refine ⟨_, rfl, p, L', rfl, h2, hL', fun H3 L3 hL3 h3 B3 => ⟨_, rfl, iteF ⟨_, rfl, p, L3, rfl, h3, hL3, fun H4 L4 hL4 h4 B4 => ⟨_, rfl, iteF ⟨_, L4, rfl, h4, hL4, B.trans (B3.trans B4)⟩⟩⟩⟩⟩
    · rintro σ2 H2 ⟨o3, L', rfl, h2, hL', B⟩
      exact ⟨_, _, _, rfl, seqBut hs hp B⟩
  rintro σ' H0 ⟨o1, o2, o3, rfl, hs⟩
  -- lots that bar
  refine ⟨(by show 2 ≤ sizeLine; decide), fun t1a ht1a => ⟨(by show 2 ≤ sizeLine; decide), fun t1b ht1b => ?_⟩⟩
  have e1a := Same.new (o := .tup [.int 4, .int 6]) ht1a
  have e1b := Same.new (o := .tup [.int 9, .int 9]) ht1b
  have x1a : SqT K (upd (upd H0 t1a (.tup [.int 4, .int 6])) t1b (.tup [.int 9, .int 9])) t1a (iV [4, 6]) := SqT.of (e1b _ _ upd_same)
  have x1b : SqT K (upd (upd H0 t1a (.tup [.int 4, .int 6])) t1b (.tup [.int 9, .int 9])) t1b (iV [9, 9]) := SqT.of upd_same
  have e1 := e1a.trans e1b
  generalize upd (upd H0 t1a (.tup [.int 4, .int 6])) t1b (.tup [.int 9, .int 9]) = G1 at *
  refine ⟨t1a, t1b, [4, 6], [9, 9], rfl, x1a, ev _ (by decide), x1b, od _ (by decide), fun J1 p1 y1 s1 h1 v1 => ?_⟩
  rw [b1] at v1
  have B1 : BV K J1 (.ref p1) [[0], [1]] := ⟨p1, y1, rfl, SqT.of h1, v1⟩
  have r1 := e1.trans s1
  refine ⟨(by show 2 ≤ sizeLine; decide), fun t2a ht2a => ⟨(by show 2 ≤ sizeLine; decide), fun t2b ht2b => ?_⟩⟩
  have e2a := Same.new (o := .tup [.int 4, .int 6]) ht2a
  have e2b := Same.new (o := .tup [.int 9, .int 23]) ht2b
  have x2a : SqT K (upd (upd J1 t2a (.tup [.int 4, .int 6])) t2b (.tup [.int 9, .int 23])) t2a (iV [4, 6]) := SqT.of (e2b _ _ upd_same)
  have x2b : SqT K (upd (upd J1 t2a (.tup [.int 4, .int 6])) t2b (.tup [.int 9, .int 23])) t2b (iV [9, 23]) := SqT.of upd_same
  have e2 := e2a.trans e2b
  generalize upd (upd J1 t2a (.tup [.int 4, .int 6])) t2b (.tup [.int 9, .int 23]) = G2 at *
  refine ⟨t2a, t2b, [4, 6], [9, 23], rfl, x2a, ev _ (by decide), x2b, od _ (by decide), fun J2 p2 y2 s2 h2 v2 => ?_⟩
  rw [b2] at v2
  have B2 : BV K J2 (.ref p2) [] := ⟨p2, y2, rfl, SqT.of h2, v2⟩
  have r2 := e2.trans s2
  replace B1 := B1.mono r2
  refine ⟨(by show 2 ≤ sizeLine; decide), fun t3a ht3a => ⟨(by show 1 ≤ sizeLine; decide), fun t3b ht3b => ?_⟩⟩
  have e3a := Same.new (o := .tup [.int 2, .int 2]) ht3a
  have e3b := Same.new (o := .tup [.int 3]) ht3b
  have x3a : SqT K (upd (upd J2 t3a (.tup [.int 2, .int 2])) t3b (.tup [.int 3])) t3a (iV [2, 2]) := SqT.of (e3b _ _ upd_same)
  have x3b : SqT K (upd (upd J2 t3a (.tup [.int 2, .int 2])) t3b (.tup [.int 3])) t3b (iV [3]) := SqT.of upd_same
  have e3 := e3a.trans e3b
  generalize upd (upd J2 t3a (.tup [.int 2, .int 2])) t3b (.tup [.int 3]) = G3 at *
  refine ⟨t3a, t3b, [2, 2], [3], rfl, x3a, ev _ (by decide), x3b, od _ (by decide), fun J3 p3 y3 s3 h3 v3 => ?_⟩
  rw [b3] at v3
  have B3 : BV K J3 (.ref p3) [[0, 1]] := ⟨p3, y3, rfl, SqT.of h3, v3⟩
  have r3 := e3.trans s3
  replace B1 := B1.mono r3
  replace B2 := B2.mono r3
  refine ⟨(by show 2 ≤ sizeLine; decide), fun t4a ht4a => ⟨(by show 2 ≤ sizeLine; decide), fun t4b ht4b => ?_⟩⟩
  have e4a := Same.new (o := .tup [.int 4, .int 6]) ht4a
  have e4b := Same.new (o := .tup [.int 9, .int 13]) ht4b
  have x4a : SqT K (upd (upd J3 t4a (.tup [.int 4, .int 6])) t4b (.tup [.int 9, .int 13])) t4a (iV [4, 6]) := SqT.of (e4b _ _ upd_same)
  have x4b : SqT K (upd (upd J3 t4a (.tup [.int 4, .int 6])) t4b (.tup [.int 9, .int 13])) t4b (iV [9, 13]) := SqT.of upd_same
  have e4 := e4a.trans e4b
  generalize upd (upd J3 t4a (.tup [.int 4, .int 6])) t4b (.tup [.int 9, .int 13]) = G4 at *
  refine ⟨t4a, t4b, [4, 6], [9, 13], rfl, x4a, ev _ (by decide), x4b, od _ (by decide), fun J4 p4 y4 s4 h4 v4 => ?_⟩
  rw [b4] at v4
  have B4 : BV K J4 (.ref p4) [[0], [1]] := ⟨p4, y4, rfl, SqT.of h4, v4⟩
  have r4 := e4.trans s4
  replace B1 := B1.mono r4
  replace B2 := B2.mono r4
  replace B3 := B3.mono r4
  refine ⟨(by show 4 ≤ sizeLine; decide), fun t5 ht5 => ?_⟩
  have e5 := Same.new (o := .lst [.ref p1, .ref p2, .ref p3, .ref p4]) ht5
  replace B1 := B1.mono e5
  replace B2 := B2.mono e5
  replace B3 := B3.mono e5
  replace B4 := B4.mono e5
  have g5 : upd J4 t5 (.lst [.ref p1, .ref p2, .ref p3, .ref p4]) t5 = some (.lst [.ref p1, .ref p2, .ref p3, .ref p4]) := upd_same
  generalize upd J4 t5 (.lst [.ref p1, .ref p2, .ref p3, .ref p4]) = J5 at *
  refine ⟨_, rfl, ?_⟩
  refine ⟨(by show 1 ≤ sizeLine; decide), fun c1 hc1 => ?_⟩
  have ec1 := Same.new (o := .tup [.int 0]) hc1
  have gc1 : upd J5 c1 (.tup [.int 0]) c1 = some (.tup [.int 0]) := upd_same
  generalize upd J5 c1 (.tup [.int 0]) = K1 at *
  refine ⟨(by show 1 ≤ sizeLine; decide), fun c2 hc2 => ?_⟩
  have ec2 := Same.new (o := .tup [.int 1]) hc2
  have gc2 : upd K1 c2 (.tup [.int 1]) c2 = some (.tup [.int 1]) := upd_same
  generalize upd K1 c2 (.tup [.int 1]) = K2 at *
  refine ⟨(by show 2 ≤ sizeLine; decide), fun c3 hc3 => ?_⟩
  have ec3 := Same.new (o := .tup [.ref c1, .ref c2]) hc3
  have gc3 : upd K2 c3 (.tup [.ref c1, .ref c2]) c3 = some (.tup [.ref c1, .ref c2]) := upd_same
  generalize upd K2 c3 (.tup [.ref c1, .ref c2]) = K3 at *
  have D1 : BV K K3 (.ref c3) [[0], [1]] := ⟨c3, _, rfl, SqT.of gc3, .cons ⟨c1, rfl, SqT.of (ec3 _ _ (ec2 _ _ gc1))⟩ (.cons ⟨c2, rfl, SqT.of (ec3 _ _ gc2)⟩ .nil)⟩
  refine ⟨(by show 0 ≤ sizeLine; decide), fun c4 hc4 => ?_⟩
  have ec4 := Same.new (o := .tup []) hc4
  have gc4 : upd K3 c4 (.tup []) c4 = some (.tup []) := upd_same
  generalize upd K3 c4 (.tup []) = K4 at *
  have D2 : BV K K4 (.ref c4) [] := ⟨c4, _, rfl, SqT.of gc4, .nil⟩
  refine ⟨(by show 2 ≤ sizeLine; decide), fun c5 hc5 => ?_⟩
  have ec5 := Same.new (o := .tup [.int 0, .int 1]) hc5
  have gc5 : upd K4 c5 (.tup [.int 0, .int 1]) c5 = some (.tup [.int 0, .int 1]) := upd_same
  generalize upd K4 c5 (.tup [.int 0, .int 1]) = K5 at *
  refine ⟨(by show 1 ≤ sizeLine; decide), fun c6 hc6 => ?_⟩
  have ec6 := Same.new (o := .tup [.ref c5]) hc6
  have gc6 : upd K5 c6 (.tup [.ref c5]) c6 = some (.tup [.ref c5]) := upd_same
  generalize upd K5 c6 (.tup [.ref c5]) = K6 at *
  have D3 : BV K K6 (.ref c6) [[0, 1]] := ⟨c6, _, rfl, SqT.of gc6, .cons ⟨c5, rfl, SqT.of (ec6 _ _ gc5)⟩ .nil⟩
  refine ⟨(by show 1 ≤ sizeLine; decide), fun c7 hc7 => ?_⟩
  have ec7 := Same.new (o := .tup [.int 0]) hc7
  have gc7 : upd K6 c7 (.tup [.int 0]) c7 = some (.tup [.int 0]) := upd_same
  generalize upd K6 c7 (.tup [.int 0]) = K7 at *
  refine ⟨(by show 1 ≤ sizeLine; decide), fun c8 hc8 => ?_⟩
  have ec8 := Same.new (o := .tup [.int 1]) hc8
  have gc8 : upd K7 c8 (.tup [.int 1]) c8 = some (.tup [.int 1]) := upd_same
  generalize upd K7 c8 (.tup [.int 1]) = K8 at *
  refine ⟨(by show 2 ≤ sizeLine; decide), fun c9 hc9 => ?_⟩
  have ec9 := Same.new (o := .tup [.ref c7, .ref c8]) hc9
  have gc9 : upd K8 c9 (.tup [.ref c7, .ref c8]) c9 = some (.tup [.ref c7, .ref c8]) := upd_same
  generalize upd K8 c9 (.tup [.ref c7, .ref c8]) = K9 at *
  have D4 : BV K K9 (.ref c9) [[0], [1]] := ⟨c9, _, rfl, SqT.of gc9, .cons ⟨c7, rfl, SqT.of (ec9 _ _ (ec8 _ _ gc7))⟩ (.cons ⟨c8, rfl, SqT.of (ec9 _ _ gc8)⟩ .nil)⟩
  refine ⟨(by show 4 ≤ sizeLine; decide), fun t6 ht6 => ?_⟩
  have e6 := Same.new (o := .lst [.ref c3, .ref c4, .ref c6, .ref c9]) ht6
  have z9 := e6
  have z46 := ec5.trans (ec6.trans (ec7.trans (ec8.trans (ec9.trans e6))))
  have z5 := ec1.trans (ec2.trans (ec3.trans (ec4.trans z46)))
  have dt : DpAll K (upd K9 t6 (.lst [.ref c3, .ref c4, .ref c6, .ref c9])) [.ref p1, .ref p2, .ref p3, .ref p4] ([[[0], [1]], [], [[0, 1]], [[0], [1]]].map fun ls : List (List Int) => .tuple (ls.map dI)) := .cons (B1.mono z5).dp (.cons (B2.mono z5).dp (.cons (B3.mono z5).dp (.cons (B4.mono z5).dp .nil)))
  have dc : DpAll K (upd K9 t6 (.lst [.ref c3, .ref c4, .ref c6, .ref c9])) [.ref c3, .ref c4, .ref c6, .ref c9] ([[[0], [1]], [], [[0, 1]], [[0], [1]]].map fun ls : List (List Int) => .tuple (ls.map dI)) := .cons (D1.mono (ec4.trans z46)).dp (.cons (D2.mono z46).dp (.cons (D3.mono (ec7.trans (ec8.trans (ec9.trans e6)))).dp (.cons (D4.mono e6).dp .nil)))
  refine ⟨.list _, .list _, .lst (SqL.of (z5 _ _ g5)) dt, .lst (SqL.of upd_same) dc, (Shp.lst shp_lots _).shaped (by decide), (Shp.lst shp_lots _).shaped (by decide), _, rfl, ?_⟩
  rw [eqv_self (Shp.lst shp_lots _) (by decide)]
  generalize upd K9 t6 (.lst [.ref c3, .ref c4, .ref c6, .ref c9]) = J6 at *
  refine iteF ?_
  refine ⟨(by show 0 ≤ sizeLine; decide), fun t7a ht7a => ⟨(by show 2 ≤ sizeLine; decide), fun t7b ht7b => ?_⟩⟩
  have e7a := Same.new (o := .tup []) ht7a
  have e7b := Same.new (o := .tup [.int 3, .int 5]) ht7b
  have x7a : SqT K (upd (upd J6 t7a (.tup [])) t7b (.tup [.int 3, .int 5])) t7a (iV []) := SqT.of (e7b _ _ upd_same)
  have x7b : SqT K (upd (upd J6 t7a (.tup [])) t7b (.tup [.int 3, .int 5])) t7b (iV [3, 5]) := SqT.of upd_same
  have e7 := e7a.trans e7b
  generalize upd (upd J6 t7a (.tup [])) t7b (.tup [.int 3, .int 5]) = G7 at *
  refine ⟨t7a, t7b, [], [3, 5], rfl, x7a, ev _ (by decide), x7b, od _ (by decide), fun J7 p7 y7 s7 h7 v7 => ?_⟩
  rw [b5] at v7
  have B7 : BV K J7 (.ref p7) [] := ⟨p7, y7, rfl, SqT.of h7, v7⟩
  refine ⟨(by show 0 ≤ sizeLine; decide), fun t8 ht8 => ?_⟩
  have e8 := Same.new (o := .tup []) ht8
  have D8 : BV K (upd J7 t8 (.tup [])) (.ref t8) [] := ⟨t8, _, rfl, SqT.of upd_same, .nil⟩
  refine ⟨.tuple (([] : List (List Int)).map dI), .tuple (([] : List (List Int)).map dI), (B7.mono e8).dp, D8.dp, (shp_lots []).shaped (by decide), (shp_lots []).shaped (by decide), _, rfl, ?_⟩
  rw [eqv_self (shp_lots []) (by decide)]
  generalize upd J7 t8 (.tup []) = N0 at *
  refine iteF ?_
  -- whether classes can end
  refine ⟨(by show 2 ≤ sizeLine; decide), fun t11a ht11a => ⟨(by show 2 ≤ sizeLine; decide), fun t11b ht11b => ?_⟩⟩
  have e11a := Same.new (o := .tup [.int 4, .int 6]) ht11a
  have e11b := Same.new (o := .tup [.int 9, .int 23]) ht11b
  have x11a : SqT K (upd (upd N0 t11a (.tup [.int 4, .int 6])) t11b (.tup [.int 9, .int 23])) t11a (iV [4, 6]) := SqT.of (e11b _ _ upd_same)
  have x11b : SqT K (upd (upd N0 t11a (.tup [.int 4, .int 6])) t11b (.tup [.int 9, .int 23])) t11b (iV [9, 23]) := SqT.of upd_same
  have e11 := e11a.trans e11b
  generalize upd (upd N0 t11a (.tup [.int 4, .int 6])) t11b (.tup [.int 9, .int 23]) = G11 at *
  refine ⟨t11a, t11b, [4, 6], [9, 23], rfl, x11a, ev _ (by decide), x11b, od _ (by decide), fun N1 s11 => ?_⟩
  rw [decide_eq_true b2]
  refine ⟨(by show 1 ≤ sizeLine; decide), fun t12a ht12a => ⟨(by show 0 ≤ sizeLine; decide), fun t12b ht12b => ?_⟩⟩
  have e12a := Same.new (o := .tup [.int 2]) ht12a
  have e12b := Same.new (o := .tup []) ht12b
  have x12a : SqT K (upd (upd N1 t12a (.tup [.int 2])) t12b (.tup [])) t12a (iV [2]) := SqT.of (e12b _ _ upd_same)
  have x12b : SqT K (upd (upd N1 t12a (.tup [.int 2])) t12b (.tup [])) t12b (iV []) := SqT.of upd_same
  have e12 := e12a.trans e12b
  generalize upd (upd N1 t12a (.tup [.int 2])) t12b (.tup []) = G12 at *
  refine ⟨t12a, t12b, [2], [], rfl, x12a, ev _ (by decide), x12b, od _ (by decide), fun N2 s12 => ?_⟩
  rw [decide_eq_false (by rw [ce2]; exact fun z => nomatch z)]
  refine ⟨(by show 2 ≤ sizeLine; decide), fun t13a ht13a => ⟨(by show 2 ≤ sizeLine; decide), fun t13b ht13b => ?_⟩⟩
  have e13a := Same.new (o := .tup [.int 2, .int 4]) ht13a
  have e13b := Same.new (o := .tup [.int 7, .int 5]) ht13b
  have x13a : SqT K (upd (upd N2 t13a (.tup [.int 2, .int 4])) t13b (.tup [.int 7, .int 5])) t13a (iV [2, 4]) := SqT.of (e13b _ _ upd_same)
  have x13b : SqT K (upd (upd N2 t13a (.tup [.int 2, .int 4])) t13b (.tup [.int 7, .int 5])) t13b (iV [7, 5]) := SqT.of upd_same
  have e13 := e13a.trans e13b
  generalize upd (upd N2 t13a (.tup [.int 2, .int 4])) t13b (.tup [.int 7, .int 5]) = G13 at *
  refine ⟨t13a, t13b, [2, 4], [7, 5], rfl, x13a, ev _ (by decide), x13b, od _ (by decide), fun N3 s13 => ?_⟩
  rw [decide_eq_true ce3]
  refine ⟨(by show 1 ≤ sizeLine; decide), fun t14a ht14a => ⟨(by show 2 ≤ sizeLine; decide), fun t14b ht14b => ?_⟩⟩
  have e14a := Same.new (o := .tup [.int 2]) ht14a
  have e14b := Same.new (o := .tup [.int 3, .int 5]) ht14b
  have x14a : SqT K (upd (upd N3 t14a (.tup [.int 2])) t14b (.tup [.int 3, .int 5])) t14a (iV [2]) := SqT.of (e14b _ _ upd_same)
  have x14b : SqT K (upd (upd N3 t14a (.tup [.int 2])) t14b (.tup [.int 3, .int 5])) t14b (iV [3, 5]) := SqT.of upd_same
  have e14 := e14a.trans e14b
  generalize upd (upd N3 t14a (.tup [.int 2])) t14b (.tup [.int 3, .int 5]) = G14 at *
  refine ⟨t14a, t14b, [2], [3, 5], rfl, x14a, ev _ (by decide), x14b, od _ (by decide), fun N4 s14 => ?_⟩
  rw [decide_eq_true ce4]
  refine ⟨(by show 1 ≤ sizeLine; decide), fun t15a ht15a => ⟨(by show 1 ≤ sizeLine; decide), fun t15b ht15b => ?_⟩⟩
  have e15a := Same.new (o := .tup [.int 6]) ht15a
  have e15b := Same.new (o := .tup [.int 9]) ht15b
  have x15a : SqT K (upd (upd N4 t15a (.tup [.int 6])) t15b (.tup [.int 9])) t15a (iV [6]) := SqT.of (e15b _ _ upd_same)
  have x15b : SqT K (upd (upd N4 t15a (.tup [.int 6])) t15b (.tup [.int 9])) t15b (iV [9]) := SqT.of upd_same
  have e15 := e15a.trans e15b
  generalize upd (upd N4 t15a (.tup [.int 6])) t15b (.tup [.int 9]) = G15 at *
  refine ⟨t15a, t15b, [6], [9], rfl, x15a, ev _ (by decide), x15b, od _ (by decide), fun N5 s15 => ?_⟩
  rw [decide_eq_false (by rw [ce5]; exact fun z => nomatch z)]
  refine ⟨(by show 0 ≤ sizeLine; decide), fun t16a ht16a => ⟨(by show 0 ≤ sizeLine; decide), fun t16b ht16b => ?_⟩⟩
  have e16a := Same.new (o := .tup []) ht16a
  have e16b := Same.new (o := .tup []) ht16b
  have x16a : SqT K (upd (upd N5 t16a (.tup [])) t16b (.tup [])) t16a (iV []) := SqT.of (e16b _ _ upd_same)
  have x16b : SqT K (upd (upd N5 t16a (.tup [])) t16b (.tup [])) t16b (iV []) := SqT.of upd_same
  have e16 := e16a.trans e16b
  generalize upd (upd N5 t16a (.tup [])) t16b (.tup []) = G16 at *
  refine ⟨t16a, t16b, [], [], rfl, x16a, ev _ (by decide), x16b, od _ (by decide), fun N6 s16 => ?_⟩
  rw [decide_eq_true ce6]
  refine ⟨(by show 6 ≤ sizeLine; decide), fun t20 ht20 => ⟨_, rfl, (by show 6 ≤ sizeLine; decide), fun t21 ht21 => ?_⟩⟩
  have e21 := Same.new (o := .lst [.bl true, .bl false, .bl true, .bl true, .bl false, .bl true]) ht21
  refine ⟨.list ([true, false, true, true, false, true].map PyData.bool), .list ([true, false, true, true, false, true].map PyData.bool), .lst (SqL.of (e21 _ _ upd_same)) (dp_bools [true, false, true, true, false, true]), .lst (SqL.of upd_same) (dp_bools [true, false, true, true, false, true]), (Shp.lst Shp.bool _).shaped (by decide), (Shp.lst Shp.bool _).shaped (by decide), _, rfl, ?_⟩
  rw [eqv_self (Shp.lst Shp.bool _) (by decide)]
  generalize upd (upd N6 t20 (.lst [.bl true, .bl false, .bl true, .bl true, .bl false, .bl true])) t21 (.lst [.bl true, .bl false, .bl true, .bl true, .bl false, .bl true]) = M0 at *
  refine iteF ?_
  -- what is made
  refine ⟨(by show 2 ≤ sizeLine; decide), fun t31 ht31 => ?_⟩
  have x31 : SqT K (upd M0 t31 (.tup [.int 4, .int 6])) t31 (iV [4, 6]) := SqT.of upd_same
  generalize upd M0 t31 (.tup [.int 4, .int 6]) = G31 at *
  refine ⟨t31, [4, 6], 10, rfl, x31, by decide, by decide, by decide, by decide, fun M1 s31 => ?_⟩
  rw [show ((10 : Int)).toNat = 10 from rfl, m1]
  refine ⟨(by show 2 ≤ sizeLine; decide), fun t32 ht32 => ?_⟩
  have x32 : SqT K (upd M1 t32 (.tup [.int 4, .int 6])) t32 (iV [4, 6]) := SqT.of upd_same
  generalize upd M1 t32 (.tup [.int 4, .int 6]) = G32 at *
  refine ⟨t32, [4, 6], 4, rfl, x32, by decide, by decide, by decide, by decide, fun M2 s32 => ?_⟩
  rw [show ((4 : Int)).toNat = 4 from rfl, m2]
  refine ⟨(by show 2 ≤ sizeLine; decide), fun t33 ht33 => ?_⟩
  have x33 : SqT K (upd M2 t33 (.tup [.int 4, .int 6])) t33 (iV [4, 6]) := SqT.of upd_same
  generalize upd M2 t33 (.tup [.int 4, .int 6]) = G33 at *
  refine ⟨t33, [4, 6], 14, rfl, x33, by decide, by decide, by decide, by decide, fun M3 s33 => ?_⟩
  rw [show ((14 : Int)).toNat = 14 from rfl, m3]
  refine ⟨(by show 1 ≤ sizeLine; decide), fun t34 ht34 => ?_⟩
  have x34 : SqT K (upd M3 t34 (.tup [.int 2])) t34 (iV [2]) := SqT.of upd_same
  generalize upd M3 t34 (.tup [.int 2]) = G34 at *
  refine ⟨t34, [2], 0, rfl, x34, by decide, by decide, by decide, by decide, fun M4 s34 => ?_⟩
  rw [show ((0 : Int)).toNat = 0 from rfl, m4]
  refine ⟨(by show 2 ≤ sizeLine; decide), fun t35 ht35 => ?_⟩
  have x35 : SqT K (upd M4 t35 (.tup [.int 5, .int 7])) t35 (iV [5, 7]) := SqT.of upd_same
  generalize upd M4 t35 (.tup [.int 5, .int 7]) = G35 at *
  refine ⟨t35, [5, 7], 12, rfl, x35, by decide, by decide, by decide, by decide, fun M5 s35 => ?_⟩
  rw [show ((12 : Int)).toNat = 12 from rfl, m5]
  refine ⟨(by show 0 ≤ sizeLine; decide), fun t36 ht36 => ?_⟩
  have x36 : SqT K (upd M5 t36 (.tup [])) t36 (iV []) := SqT.of upd_same
  generalize upd M5 t36 (.tup []) = G36 at *
  refine ⟨t36, [], 6, rfl, x36, by decide, by decide, by decide, by decide, fun M6 s36 => ?_⟩
  rw [show ((6 : Int)).toNat = 6 from rfl, m6]
  refine ⟨(by show 6 ≤ sizeLine; decide), fun t40 ht40 => ⟨_, rfl, (by show 6 ≤ sizeLine; decide), fun t41 ht41 => ?_⟩⟩
  have e41 := Same.new (o := .lst [.bl true, .bl false, .bl true, .bl false, .bl true, .bl false]) ht41
  refine ⟨.list ([true, false, true, false, true, false].map PyData.bool), .list ([true, false, true, false, true, false].map PyData.bool), .lst (SqL.of (e41 _ _ upd_same)) (dp_bools [true, false, true, false, true, false]), .lst (SqL.of upd_same) (dp_bools [true, false, true, false, true, false]), (Shp.lst Shp.bool _).shaped (by decide), (Shp.lst Shp.bool _).shaped (by decide), ?_⟩
  rw [eqv_self (Shp.lst Shp.bool _) (by decide)]
  exact k _
end
end K4
namespace K4
open PySem PySem.Spec PyProof.Rows L2
/-! ### the facts of the written part -/
structure Has (K : PySem.W.Frag) (x : Str) (st : Stmt) (f : Addr) : Prop where
  at' : PySem.W.nsIn K mainGlobals x = some (some (.ref f))
  kp : PySem.W.keepIn K (.ref f) = true
  look : ∃ (oc : Value) (od : Option Addr) (kV doc pm : Value) (an : Option Addr) (cdv ct : Value) (osl : Array (Option Value)),
    K.lookup f = some ⟨oc, od, .func (PySem.W.fnOf x x (defArgs st) (defBody st) (defScope st) .none kV doc pm an cdv ct), osl⟩ ∧ PySem.W.codeIn K cdv x = true
theorem has_of {K : PySem.W.Frag} {x : Str} {st : Stmt} {f : Addr} {oc kV doc pm cdv ct : Value} {od an : Option Addr} {osl : Array (Option Value)} (a : PySem.W.nsIn K mainGlobals x = some (some (.ref f)))
    (l : K.lookup f = some ⟨oc, od, .func (PySem.W.fnOf x x (defArgs st) (defBody st) (defScope st) .none kV doc pm an cdv ct), osl⟩) (c : PySem.W.codeIn K cdv x = true) (k : PySem.W.keepIn K (.ref f) = true) : Has K x st f :=
  ⟨a, k, oc, od, kV, doc, pm, an, cdv, ct, osl, l, c⟩
theorem Has.fn {K : PySem.W.Frag} {x : Str} {st : Stmt} {f : Addr} (F : Has K x st f) : ∃ fd, Fun K x x st f fd := by
  obtain ⟨oc, od, kV, doc, pm, an, cdv, ct, osl, l, c⟩ := F.look
  exact ⟨_, fun_mk (st := st) l c F.kp⟩
theorem all_mk {l : PySem.W.OpenLaw} {w : World} {K : PySem.W.Frag} {h : Heap} {mg : Str → Option Value} {fa : Addr} (X : K.In h) (G : h.Ns mainGlobals mg) (hfa : mg "law" = some (.ref fa))
    {fWh fII fBe fCB fIM fBL fCE fID fCD fST fBa fLo fDB fDi fRo fPi fSh fLS fLM fLL fLB fLR fLT fRe fNe fMR fRi f2 : Addr} {oc2 kV2 dc2 pm2 cd2 ct2 : Value} {od2 an2 : Option Addr} {sl2 : Array (Option Value)}
    (z_int : PySem.W.nsIn K mainGlobals "int" = some none)
    (z_bool : PySem.W.nsIn K mainGlobals "bool" = some none)
    (z_tuple : PySem.W.nsIn K mainGlobals "tuple" = some none)
    (z_list : PySem.W.nsIn K mainGlobals "list" = some none)
    (z_isinstance : PySem.W.nsIn K mainGlobals "isinstance" = some none)
    (z_len : PySem.W.nsIn K mainGlobals "len" = some none)
    (z_abs : PySem.W.nsIn K mainGlobals "abs" = some none)
    (z_max : PySem.W.nsIn K mainGlobals "max" = some none)
    (z_min : PySem.W.nsIn K mainGlobals "min" = some none)
    (z_range : PySem.W.nsIn K mainGlobals "range" = some none)
    (z_repr : PySem.W.nsIn K mainGlobals "repr" = some none)
    (z_sum : PySem.W.nsIn K mainGlobals "sum" = some none)
    (z_all : PySem.W.nsIn K mainGlobals "all" = some none)
    (z_any : PySem.W.nsIn K mainGlobals "any" = some none)
    (z_zip : PySem.W.nsIn K mainGlobals "zip" = some none)
    (z_sorted : PySem.W.nsIn K mainGlobals "sorted" = some none)
    (y_0 : ∃ t, mg "_LIMIT" = some (.int (10 ^ 60) t))
    (y_1 : ∃ t, mg "MAX_LETTER" = some (.int (40) t))
    (y_2 : ∃ t, mg "MAX_EVENS" = some (.int (6) t))
    (y_3 : ∃ t, mg "MAX_ODDS" = some (.int (10) t))
    (y_4 : ∃ t, mg "_MOST_MADE" = some (.int (1000) t))
    (hWh : Has K "is_whole" sIsWhole fWh)
    (hII : Has K "is_integer" sIsInt fII)
    (hBe : Has K "is_between" sBetween fBe)
    (hCB : Has K "check_between" sChkB fCB)
    (hIM : Has K "is_made" sIsMade fIM)
    (hBL : Has K "barring_lots" sBarLots fBL)
    (hCE : Has K "can_end" sCanEnd fCE)
    (hID : Has K "_is_degrees" sIsDeg fID)
    (hCD : Has K "_check_degrees" sChkD fCD)
    (hST : Has K "_is_sum_of_two" sSumTwo fST)
    (hBa : Has K "_barring" sBarring fBa)
    (hLo : Has K "_lots" sLots fLo)
    (hDB : Has K "_does_bar" sDoesBar fDB)
    (hDi : Has K "_law_dice" sDice fDi)
    (hRo : Has K "_law_roll" sRoll fRo)
    (hPi : Has K "_law_pick" sPick fPi)
    (hSh : Has K "_law_shuffled" sShuf fSh)
    (hLS : Has K "_law_dg_sums" sLSums fLS)
    (hLM : Has K "_law_dg_made" sLMade fLM)
    (hLL : Has K "_law_dg_lots" sLLots fLL)
    (hLB : Has K "_law_dg_does_bar" sLBar fLB)
    (hLR : Has K "_law_dg_barring" sLBarring fLR)
    (hLT : Has K "_law_dg_top" sLTop fLT)
    (hRe : Has K "_law_renamed" sRenamed fRe)
    (hNe : Has K "_law_needs_right" sNeeds fNe)
    (hMR : Has K "_law_made_right" sMadeR fMR)
    (hRi : Has K "_law_right" sRight fRi)
    (a2 : PySem.W.nsIn K mainGlobals "law" = some (some (.ref f2))) (l2 : K.lookup f2 = some ⟨oc2, od2, .func (PySem.W.fnOf "law" "law" (defArgs sLaw) (defBody sLaw) (defScope sLaw) .none kV2 dc2 pm2 an2 cd2 ct2), sl2⟩) (c2 : PySem.W.codeIn K cd2 "law" = true) (k2 : PySem.W.keepIn K (.ref f2) = true) :
    ∃ fd : FuncData, (∀ (s : Shared) (v : Value), BindsTo s fd ⟨[v], []⟩ [("script", v)]) ∧ ∀ base : Heap, K.In base → base.Ns mainGlobals mg → FnOk l.prog w K mg base CX0 8 fa fd ["script"] (spLaw K) := by
  have e := hfa.symm.trans (PySem.W.mg_of X G a2)
  cases e
  have F2 := fun_mk (st := sLaw) l2 c2 k2
  have T : Txt K mg := ⟨PySem.W.mg_none_of X G z_int, PySem.W.mg_none_of X G z_bool, PySem.W.mg_none_of X G z_tuple, PySem.W.mg_none_of X G z_list, PySem.W.mg_none_of X G z_isinstance, PySem.W.mg_none_of X G z_len, PySem.W.mg_none_of X G z_abs, PySem.W.mg_none_of X G z_max, PySem.W.mg_none_of X G z_min, PySem.W.mg_none_of X G z_range, PySem.W.mg_none_of X G z_repr, PySem.W.mg_none_of X G z_sum, PySem.W.mg_none_of X G z_all, PySem.W.mg_none_of X G z_any, PySem.W.mg_none_of X G z_zip, PySem.W.mg_none_of X G z_sorted, y_0, y_1, y_2, y_3, y_4⟩
  obtain ⟨dWh, FWh⟩ := hWh.fn
  have gWh := PySem.W.mg_of X G hWh.at'
  have kWh := hWh.kp
  have bWh := FWh.binds (ps := ["value"]) fun _ _ _ _ _ _ us hl => match us, hl with | [_], _ => rfl
  obtain ⟨dII, FII⟩ := hII.fn
  have gII := PySem.W.mg_of X G hII.at'
  have kII := hII.kp
  have bII := FII.binds (ps := ["value"]) fun _ _ _ _ _ _ us hl => match us, hl with | [_], _ => rfl
  obtain ⟨dBe, FBe⟩ := hBe.fn
  have gBe := PySem.W.mg_of X G hBe.at'
  have kBe := hBe.kp
  have bBe := FBe.binds (ps := ["value", "least", "most"]) fun _ _ _ _ _ _ us hl => match us, hl with | [_, _, _], _ => rfl
  obtain ⟨dCB, FCB⟩ := hCB.fn
  have gCB := PySem.W.mg_of X G hCB.at'
  have kCB := hCB.kp
  have bCB := FCB.binds (ps := ["value", "least", "most"]) fun _ _ _ _ _ _ us hl => match us, hl with | [_, _, _], _ => rfl
  obtain ⟨dIM, FIM⟩ := hIM.fn
  have gIM := PySem.W.mg_of X G hIM.at'
  have kIM := hIM.kp
  have bIM := FIM.binds (ps := ["number", "degrees"]) fun _ _ _ _ _ _ us hl => match us, hl with | [_, _], _ => rfl
  obtain ⟨dBL, FBL⟩ := hBL.fn
  have gBL := PySem.W.mg_of X G hBL.at'
  have kBL := hBL.kp
  have bBL := FBL.binds (ps := ["evens", "odds"]) fun _ _ _ _ _ _ us hl => match us, hl with | [_, _], _ => rfl
  obtain ⟨dCE, FCE⟩ := hCE.fn
  have gCE := PySem.W.mg_of X G hCE.at'
  have kCE := hCE.kp
  have bCE := FCE.binds (ps := ["evens", "odds"]) fun _ _ _ _ _ _ us hl => match us, hl with | [_, _], _ => rfl
  obtain ⟨dID, FID⟩ := hID.fn
  have gID := PySem.W.mg_of X G hID.at'
  have kID := hID.kp
  have bID := FID.binds (ps := ["value", "many", "least", "most"]) fun _ _ _ _ _ _ us hl => match us, hl with | [_, _, _, _], _ => rfl
  obtain ⟨dCD, FCD⟩ := hCD.fn
  have gCD := PySem.W.mg_of X G hCD.at'
  have kCD := hCD.kp
  have bCD := FCD.binds (ps := ["evens", "odds"]) fun _ _ _ _ _ _ us hl => match us, hl with | [_, _], _ => rfl
  obtain ⟨dST, FST⟩ := hST.fn
  have gST := PySem.W.mg_of X G hST.at'
  have kST := hST.kp
  have bST := FST.binds (ps := ["number", "degrees"]) fun _ _ _ _ _ _ us hl => match us, hl with | [_, _], _ => rfl
  obtain ⟨dBa, FBa⟩ := hBa.fn
  have gBa := PySem.W.mg_of X G hBa.at'
  have kBa := hBa.kp
  have bBa := FBa.binds (ps := ["evens", "odds"]) fun _ _ _ _ _ _ us hl => match us, hl with | [_, _], _ => rfl
  obtain ⟨dLo, FLo⟩ := hLo.fn
  have gLo := PySem.W.mg_of X G hLo.at'
  have kLo := hLo.kp
  have bLo := FLo.binds (ps := ["size"]) fun _ _ _ _ _ _ us hl => match us, hl with | [_], _ => rfl
  obtain ⟨dDB, FDB⟩ := hDB.fn
  have gDB := PySem.W.mg_of X G hDB.at'
  have kDB := hDB.kp
  have bDB := FDB.binds (ps := ["evens", "odds", "lot"]) fun _ _ _ _ _ _ us hl => match us, hl with | [_, _, _], _ => rfl
  obtain ⟨dDi, FDi⟩ := hDi.fn
  have gDi := PySem.W.mg_of X G hDi.at'
  have kDi := hDi.kp
  have bDi := FDi.binds (ps := ["script", "spot"]) fun _ _ _ _ _ _ us hl => match us, hl with | [_, _], _ => rfl
  obtain ⟨dRo, FRo⟩ := hRo.fn
  have gRo := PySem.W.mg_of X G hRo.at'
  have kRo := hRo.kp
  have bRo := FRo.binds (ps := ["dice", "total"]) fun _ _ _ _ _ _ us hl => match us, hl with | [_, _], _ => rfl
  obtain ⟨dPi, FPi⟩ := hPi.fn
  have gPi := PySem.W.mg_of X G hPi.at'
  have kPi := hPi.kp
  have bPi := FPi.binds (ps := ["dice", "items"]) fun _ _ _ _ _ _ us hl => match us, hl with | [_, _], _ => rfl
  obtain ⟨dSh, FSh⟩ := hSh.fn
  have gSh := PySem.W.mg_of X G hSh.at'
  have kSh := hSh.kp
  have bSh := FSh.binds (ps := ["dice", "items"]) fun _ _ _ _ _ _ us hl => match us, hl with | [_, _], _ => rfl
  obtain ⟨dLS, FLS⟩ := hLS.fn
  have gLS := PySem.W.mg_of X G hLS.at'
  have kLS := hLS.kp
  have bLS := FLS.binds (ps := ["most", "degrees"]) fun _ _ _ _ _ _ us hl => match us, hl with | [_, _], _ => rfl
  obtain ⟨dLM, FLM⟩ := hLM.fn
  have gLM := PySem.W.mg_of X G hLM.at'
  have kLM := hLM.kp
  have bLM := FLM.binds (ps := ["number", "degrees"]) fun _ _ _ _ _ _ us hl => match us, hl with | [_, _], _ => rfl
  obtain ⟨dLL, FLL⟩ := hLL.fn
  have gLL := PySem.W.mg_of X G hLL.at'
  have kLL := hLL.kp
  have bLL := FLL.binds (ps := ["size"]) fun _ _ _ _ _ _ us hl => match us, hl with | [_], _ => rfl
  obtain ⟨dLB, FLB⟩ := hLB.fn
  have gLB := PySem.W.mg_of X G hLB.at'
  have kLB := hLB.kp
  have bLB := FLB.binds (ps := ["evens", "odds", "lot"]) fun _ _ _ _ _ _ us hl => match us, hl with | [_, _, _], _ => rfl
  obtain ⟨dLR, FLR⟩ := hLR.fn
  have gLR := PySem.W.mg_of X G hLR.at'
  have kLR := hLR.kp
  have bLR := FLR.binds (ps := ["evens", "odds"]) fun _ _ _ _ _ _ us hl => match us, hl with | [_, _], _ => rfl
  obtain ⟨dLT, FLT⟩ := hLT.fn
  have gLT := PySem.W.mg_of X G hLT.at'
  have kLT := hLT.kp
  have bLT := FLT.binds (ps := ["evens", "odds"]) fun _ _ _ _ _ _ us hl => match us, hl with | [_, _], _ => rfl
  obtain ⟨dRe, FRe⟩ := hRe.fn
  have gRe := PySem.W.mg_of X G hRe.at'
  have kRe := hRe.kp
  have bRe := FRe.binds (ps := ["lots", "names"]) fun _ _ _ _ _ _ us hl => match us, hl with | [_, _], _ => rfl
  obtain ⟨dNe, FNe⟩ := hNe.fn
  have gNe := PySem.W.mg_of X G hNe.at'
  have kNe := hNe.kp
  have bNe := FNe.binds (ps := ["evens", "odds"]) fun _ _ _ _ _ _ us hl => match us, hl with | [_, _], _ => rfl
  obtain ⟨dMR, FMR⟩ := hMR.fn
  have gMR := PySem.W.mg_of X G hMR.at'
  have kMR := hMR.kp
  have bMR := FMR.binds (ps := ["dice"]) fun _ _ _ _ _ _ us hl => match us, hl with | [_], _ => rfl
  obtain ⟨dRi, FRi⟩ := hRi.fn
  have gRi := PySem.W.mg_of X G hRi.at'
  have kRi := hRi.kp
  have bRi := FRi.binds (ps := ["dice"]) fun _ _ _ _ _ _ us hl => match us, hl with | [_], _ => rfl
  refine ⟨PySem.W.fnOf "law" "law" (defArgs sLaw) (defBody sLaw) (defScope sLaw) .none kV2 dc2 pm2 an2 cd2 ct2, fun s v => .of_eq rfl, fun base _ _ => ?_⟩
  have qWh := ok_iswhole (P := l.prog) (w := w) (base := base) FWh T 
  have qII := ok_isint FII T gWh kWh bWh qWh
  have qBe := ok_betw FBe gII kII bII qII
  have qCB := ok_chkb FCB gBe kBe bBe qBe
  have qID := ok_isdeg FID T gBe kBe bBe qBe
  have qCD := ok_chkd FCD T gID kID bID qID
  have qST := ok_sumtwo (P := l.prog) (w := w) (base := base) FST T 
  have qLo := ok_lots (P := l.prog) (w := w) (base := base) FLo T 
  have qDB := ok_doesbar FDB T gST kST bST qST
  have qBa := ok_barring FBa T gLo kLo bLo qLo gDB kDB bDB qDB
  have qBL := ok_barlots FBL gCD kCD bCD qCD gBa kBa bBa qBa
  have qCE := ok_canend FCE T gCD kCD bCD qCD gBa kBa bBa qBa
  have qIM := ok_ismade FIM T gCB kCB bCB qCB gID kID bID qID gST kST bST qST
  have qRo := ok_roll (P := l.prog) (w := w) (base := base) FRo T 
  have qDi := ok_dice (P := l.prog) (w := w) (base := base) FDi T 
  have qPi := ok_pick FPi T gRo kRo bRo qRo
  have qSh := ok_shuf FSh T gRo kRo bRo qRo
  have qLST := ok_lsumsT (P := l.prog) (w := w) (base := base) FLS T 
  have qLSL := ok_lsumsL (P := l.prog) (w := w) (base := base) FLS T 
  have qLM := ok_lmade FLM gLS kLS bLS qLST
  have qLL := ok_llots (P := l.prog) (w := w) (base := base) FLL T 
  have qLB := ok_lbar FLB T gLS kLS bLS qLSL
  have qLR := ok_lbarring FLR T gLL kLL bLL qLL gLB kLB bLB qLB
  have qLT := ok_top (P := l.prog) (w := w) (base := base) FLT T 
  have qRe := ok_renamed (P := l.prog) (w := w) (base := base) FRe T 
  have qNe := ok_needs FNe T gLT kLT bLT qLT
  have qMR := ok_mader FMR T gRo kRo bRo qRo gPi kPi bPi qPi gIM kIM bIM qIM gLM kLM bLM qLM
  have qRi := ok_right FRi T gRo kRo bRo qRo gPi kPi bPi qPi gLR kLR bLR qLR gBL kBL bBL qBL gCE kCE bCE qCE gNe kNe bNe qNe gSh kSh bSh qSh gRe kRe bRe qRe
  exact ok_law F2 T gDi kDi bDi qDi gRi kRi bRi qRi gMR kMR bMR qMR gBL kBL bBL qBL gCE kCE bCE qCE gIM kIM bIM qIM
end K4
open PySem PySem.W PyProof.Rows
set_option maxRecDepth 100000 in
set_option maxHeartbeats 0 in
theorem PySem.Challenge.cw_stepletters_k34_whole_lots_that_bar_holds : PySem.Challenge.rw_stepletters_k34_whole_lots_that_bar.Holds := by
  w_on; o_law; k_head; (case hw => w_witness2)
  k_fill
  refine L2.walk_of (l := PySem.Challenge.rw_stepletters_k34_whole_lots_that_bar) (n := 63) (k := 8) (x := "script") (CX := fun _ => L2.CX0) (sp := fun w => K4.spLaw _) rfl (by decide) rfl ⟨rfl, by decide, by decide⟩ (fun w h Y => PySem.W.kIn_of Y) ?F (fun _ _ a ns hl _ hS => ⟨a, ns, rfl, hS, by omega, fun _ => rfl⟩) (fun _ _ _ _ _ h => h)
  case F =>
    intro w mg fa h KX G hmg
    refine' K4.all_mk KX G hmg ?z_int ?z_bool ?z_tuple ?z_list ?z_isinstance ?z_len ?z_abs ?z_max ?z_min ?z_range ?z_repr ?z_sum ?z_all ?z_any ?z_zip ?z_sorted ?y_0 ?y_1 ?y_2 ?y_3 ?y_4 ?hWh ?hII ?hBe ?hCB ?hIM ?hBL ?hCE ?hID ?hCD ?hST ?hBa ?hLo ?hDB ?hDi ?hRo ?hPi ?hSh ?hLS ?hLM ?hLL ?hLB ?hLR ?hLT ?hRe ?hNe ?hMR ?hRi ?a2 ?l2 ?c2 ?k2
    (case z_int => k_is)
    (case z_bool => k_is)
    (case z_tuple => k_is)
    (case z_list => k_is)
    (case z_isinstance => k_is)
    (case z_len => k_is)
    (case z_abs => k_is)
    (case z_max => k_is)
    (case z_min => k_is)
    (case z_range => k_is)
    (case z_repr => k_is)
    (case z_sum => k_is)
    (case z_all => k_is)
    (case z_any => k_is)
    (case z_zip => k_is)
    (case z_sorted => k_is)
    (case y_0 => exact ⟨_, PySem.W.mg_of KX G (by k_is)⟩)
    (case y_1 => exact ⟨_, PySem.W.mg_of KX G (by k_is)⟩)
    (case y_2 => exact ⟨_, PySem.W.mg_of KX G (by k_is)⟩)
    (case y_3 => exact ⟨_, PySem.W.mg_of KX G (by k_is)⟩)
    (case y_4 => exact ⟨_, PySem.W.mg_of KX G (by k_is)⟩)
    (case hWh => refine' K4.has_of ?a ?l ?c ?k; (case a => k_is); (case l => k_is); (case c => k_is); (case k => k_is))
    (case hII => refine' K4.has_of ?a ?l ?c ?k; (case a => k_is); (case l => k_is); (case c => k_is); (case k => k_is))
    (case hBe => refine' K4.has_of ?a ?l ?c ?k; (case a => k_is); (case l => k_is); (case c => k_is); (case k => k_is))
    (case hCB => refine' K4.has_of ?a ?l ?c ?k; (case a => k_is); (case l => k_is); (case c => k_is); (case k => k_is))
    (case hIM => refine' K4.has_of ?a ?l ?c ?k; (case a => k_is); (case l => k_is); (case c => k_is); (case k => k_is))
    (case hBL => refine' K4.has_of ?a ?l ?c ?k; (case a => k_is); (case l => k_is); (case c => k_is); (case k => k_is))
    (case hCE => refine' K4.has_of ?a ?l ?c ?k; (case a => k_is); (case l => k_is); (case c => k_is); (case k => k_is))
    (case hID => refine' K4.has_of ?a ?l ?c ?k; (case a => k_is); (case l => k_is); (case c => k_is); (case k => k_is))
    (case hCD => refine' K4.has_of ?a ?l ?c ?k; (case a => k_is); (case l => k_is); (case c => k_is); (case k => k_is))
    (case hST => refine' K4.has_of ?a ?l ?c ?k; (case a => k_is); (case l => k_is); (case c => k_is); (case k => k_is))
    (case hBa => refine' K4.has_of ?a ?l ?c ?k; (case a => k_is); (case l => k_is); (case c => k_is); (case k => k_is))
    (case hLo => refine' K4.has_of ?a ?l ?c ?k; (case a => k_is); (case l => k_is); (case c => k_is); (case k => k_is))
    (case hDB => refine' K4.has_of ?a ?l ?c ?k; (case a => k_is); (case l => k_is); (case c => k_is); (case k => k_is))
    (case hDi => refine' K4.has_of ?a ?l ?c ?k; (case a => k_is); (case l => k_is); (case c => k_is); (case k => k_is))
    (case hRo => refine' K4.has_of ?a ?l ?c ?k; (case a => k_is); (case l => k_is); (case c => k_is); (case k => k_is))
    (case hPi => refine' K4.has_of ?a ?l ?c ?k; (case a => k_is); (case l => k_is); (case c => k_is); (case k => k_is))
    (case hSh => refine' K4.has_of ?a ?l ?c ?k; (case a => k_is); (case l => k_is); (case c => k_is); (case k => k_is))
    (case hLS => refine' K4.has_of ?a ?l ?c ?k; (case a => k_is); (case l => k_is); (case c => k_is); (case k => k_is))
    (case hLM => refine' K4.has_of ?a ?l ?c ?k; (case a => k_is); (case l => k_is); (case c => k_is); (case k => k_is))
    (case hLL => refine' K4.has_of ?a ?l ?c ?k; (case a => k_is); (case l => k_is); (case c => k_is); (case k => k_is))
    (case hLB => refine' K4.has_of ?a ?l ?c ?k; (case a => k_is); (case l => k_is); (case c => k_is); (case k => k_is))
    (case hLR => refine' K4.has_of ?a ?l ?c ?k; (case a => k_is); (case l => k_is); (case c => k_is); (case k => k_is))
    (case hLT => refine' K4.has_of ?a ?l ?c ?k; (case a => k_is); (case l => k_is); (case c => k_is); (case k => k_is))
    (case hRe => refine' K4.has_of ?a ?l ?c ?k; (case a => k_is); (case l => k_is); (case c => k_is); (case k => k_is))
    (case hNe => refine' K4.has_of ?a ?l ?c ?k; (case a => k_is); (case l => k_is); (case c => k_is); (case k => k_is))
    (case hMR => refine' K4.has_of ?a ?l ?c ?k; (case a => k_is); (case l => k_is); (case c => k_is); (case k => k_is))
    (case hRi => refine' K4.has_of ?a ?l ?c ?k; (case a => k_is); (case l => k_is); (case c => k_is); (case k => k_is))
    (case a2 => k_is)
    (case l2 => k_is)
    (case c2 => k_is)
    (case k2 => k_is)
