/-
  What goes: parts, slices, a plan; no program.
-/
import Derived.Test.YtocpjajafocdaaaGMem
namespace Go.Proofs.Ytocpjajafocdaaa

/-- What a stream has to send. -/
structure Pt where
  id : Int
  left : Int
  pend : Int
  fin : Bool
/-- What goes in a frame. -/
structure Sl where
  id : Int
  n : Int
  fin : Bool
def leastI (left most pl pd : Int) : Int := min (min (min pd pl) left) most
def goN (most id : Int) (fin : Bool) : Nat → Int → Int → Int → List Sl
  | 0, _, _, _ => []
  | k + 1, left, pl, pd =>
    if 0 < leastI left most pl pd then
      ⟨id, leastI left most pl pd, fin && decide (pd - leastI left most pl pd = 0)⟩ :: goN most id fin k (left - leastI left most pl pd) (pl - leastI left most pl pd) (pd - leastI left most pl pd)
    else []
/-- What goes of a part. -/
def goL (most id : Int) (fin : Bool) (left pl pd : Int) : List Sl := goN most id fin pd.toNat left pl pd
/-- How much of it. -/
def goes (most left pl pd : Int) : Int := if 0 < most then max 0 (min (min pd pl) left) else 0
/-- An end without bytes. -/
def endL (p : Pt) : List Sl := if p.pend = 0 ∧ p.fin = true then [⟨p.id, 0, true⟩] else []
def planL (most : Int) : Int → List Pt → List Sl
  | _, [] => []
  | left, p :: ps => endL p ++ (goL most p.id p.fin left p.left p.pend ++ planL most (left - goes most left p.left p.pend) ps)
def sumL : List Sl → Int
  | [] => 0
  | s :: l => s.n + sumL l
theorem least_le (left most pl pd : Int) : leastI left most pl pd ≤ pd ∧ leastI left most pl pd ≤ pl ∧ leastI left most pl pd ≤ left ∧ leastI left most pl pd ≤ most := by
  unfold leastI
  omega
theorem least_pos (left most pl pd : Int) : 0 < leastI left most pl pd ↔ 0 < left ∧ 0 < most ∧ 0 < pl ∧ 0 < pd := by
  unfold leastI
  omega
theorem goN_same (most id : Int) (fin : Bool) (k m : Nat) (left pl pd : Int) (hk : pd.toNat ≤ k) (hm : pd.toNat ≤ m) : goN most id fin k left pl pd = goN most id fin m left pl pd := by
  induction k generalizing m left pl pd with
  | zero =>
    cases m with
    | zero => rfl
    | succ m =>
      have : ¬ 0 < leastI left most pl pd := by rw [least_pos]; omega
      rw [goN, goN, if_neg this]
  | succ k ih =>
    cases m with
    | zero =>
      have : ¬ 0 < leastI left most pl pd := by rw [least_pos]; omega
      rw [goN, goN, if_neg this]
    | succ m =>
      rw [goN, goN]
      by_cases h : 0 < leastI left most pl pd
      · have h1 := (least_le left most pl pd).1
        rw [if_pos h, if_pos h, ih m _ _ _ (by omega) (by omega)]
      · rw [if_neg h, if_neg h]
theorem go_none (most id : Int) (fin : Bool) (left pl pd : Int) (h : ¬ 0 < leastI left most pl pd) : goL most id fin left pl pd = [] := by
  unfold goL
  cases pd.toNat with
  | zero => rfl
  | succ k => rw [goN, if_neg h]
theorem go_step (most id : Int) (fin : Bool) (left pl pd n : Int) (hn : leastI left most pl pd = n) (h : 0 < n) : goL most id fin left pl pd = ⟨id, n, fin && decide (pd - n = 0)⟩ :: goL most id fin (left - n) (pl - n) (pd - n) := by
  subst hn
  have h1 := (least_le left most pl pd).1
  have e : pd.toNat = (pd.toNat - 1) + 1 := by omega
  rw [goL, e, goN, if_pos h, goL, goN_same most id fin (pd.toNat - 1) (pd - leastI left most pl pd).toNat _ _ _ (by omega) (by omega)]
theorem goes_step (most left pl pd n : Int) (hn : leastI left most pl pd = n) (h : 0 < n) : left - goes most left pl pd = left - n - goes most (left - n) (pl - n) (pd - n) := by
  subst hn
  unfold goes leastI at *
  split <;> omega
theorem goes_none (most left pl pd : Int) (h : ¬ 0 < leastI left most pl pd) : goes most left pl pd = 0 := by
  rw [least_pos] at h
  unfold goes
  split <;> omega
theorem sumL_append (a b : List Sl) : sumL (a ++ b) = sumL a + sumL b := by
  induction a with
  | nil => simp [sumL]
  | cons x a ih => simp [sumL, ih]; omega
/-- Where nothing goes: only an end without bytes. -/
theorem go_zero (most id : Int) (fin : Bool) (left pl pd : Int) (h : pd = 0 ∨ left = 0) : goL most id fin left pl pd = [] ∧ goes most left pl pd = 0 := by
  have : ¬ 0 < leastI left most pl pd := by rw [least_pos]; omega
  exact ⟨go_none _ _ _ _ _ _ this, goes_none _ _ _ _ this⟩
/-- Induction on what goes. -/
theorem go_ind (most : Int) {P : Int → Int → Int → Prop} (hno : ∀ left pl pd, ¬ 0 < leastI left most pl pd → P left pl pd)
    (hyes : ∀ left pl pd n, leastI left most pl pd = n → 0 < n → P (left - n) (pl - n) (pd - n) → P left pl pd) (left pl pd : Int) : P left pl pd := by
  have key : ∀ k : Nat, ∀ left pl pd : Int, pd.toNat ≤ k → P left pl pd := by
    intro k
    induction k with
    | zero => intro left pl pd h; exact hno _ _ _ (by rw [least_pos]; omega)
    | succ k ih =>
      intro left pl pd h
      by_cases hp : 0 < leastI left most pl pd
      · have h1 := (least_le left most pl pd).1
        exact hyes _ _ _ _ rfl hp (ih _ _ _ (by omega))
      · exact hno _ _ _ hp
  exact key pd.toNat left pl pd (Nat.le_refl _)
theorem go_sum (most id : Int) (fin : Bool) (left pl pd : Int) : sumL (goL most id fin left pl pd) = goes most left pl pd := by
  refine go_ind most (P := fun left pl pd => sumL (goL most id fin left pl pd) = goes most left pl pd) ?_ ?_ left pl pd
  · intro left pl pd h
    rw [go_none _ _ _ _ _ _ h, goes_none _ _ _ _ h]
    rfl
  · intro left pl pd n hn h ih
    have := goes_step most left pl pd n hn h
    rw [go_step _ _ _ _ _ _ n hn h, sumL, ih]
    show n + _ = _
    omega
/-- Each slice has its part's number, more than no bytes, no more than may be. -/
theorem go_each (most id : Int) (fin : Bool) (left pl pd : Int) : ∀ s ∈ goL most id fin left pl pd, s.id = id ∧ 0 < s.n ∧ s.n ≤ most := by
  refine go_ind most (P := fun left pl pd => ∀ s ∈ goL most id fin left pl pd, s.id = id ∧ 0 < s.n ∧ s.n ≤ most) ?_ ?_ left pl pd
  · intro left pl pd h s hs
    rw [go_none _ _ _ _ _ _ h] at hs
    cases hs
  · intro left pl pd n hn h ih s hs
    rw [go_step _ _ _ _ _ _ n hn h] at hs
    rcases List.mem_cons.1 hs with rfl | hs
    · have := (least_le left most pl pd).2.2.2
      exact ⟨rfl, h, by show n ≤ most; omega⟩
    · exact ih s hs
theorem go_few (most id : Int) (fin : Bool) (left pl pd : Int) : (goL most id fin left pl pd).length ≤ pd.toNat := by
  unfold goL
  generalize pd.toNat = k
  induction k generalizing left pl pd with
  | zero => simp [goN]
  | succ k ih =>
    rw [goN]
    split
    · simp only [List.length_cons]
      have := ih (left - leastI left most pl pd) (pl - leastI left most pl pd) (pd - leastI left most pl pd)
      omega
    · simp
theorem end_few (p : Pt) : (endL p).length ≤ 1 := by
  unfold endL
  split <;> simp
theorem plan_few (most left : Int) (l : List Pt) (h : ∀ p ∈ l, p.pend ≤ 4000) : (planL most left l).length ≤ l.length * 4001 := by
  induction l generalizing left with
  | nil => simp [planL]
  | cons p l ih =>
    have h1 := ih (left - goes most left p.left p.pend) (fun q hq => h q (List.mem_cons_of_mem _ hq))
    have h2 := go_few most p.id p.fin left p.left p.pend
    have h3 := end_few p
    have h4 := h p List.mem_cons_self
    simp only [planL, List.length_append, List.length_cons]
    have : p.pend.toNat ≤ 4000 := by omega
    omega
theorem end_each (p : Pt) : ∀ s ∈ endL p, s.id = p.id ∧ s.n = 0 := by
  intro s hs
  unfold endL at hs
  split at hs
  · simp at hs; subst hs; exact ⟨rfl, rfl⟩
  · cases hs
theorem plan_each (most left : Int) (l : List Pt) : ∀ s ∈ planL most left l, 0 ≤ s.n ∧ ∃ p ∈ l, s.id = p.id := by
  induction l generalizing left with
  | nil => intro s hs; cases hs
  | cons p l ih =>
    intro s hs
    simp only [planL, List.mem_append] at hs
    rcases hs with hs | hs | hs
    · have := end_each p s hs
      exact ⟨by omega, p, List.mem_cons_self, this.1⟩
    · have := go_each _ _ _ _ _ _ s hs
      exact ⟨by omega, p, List.mem_cons_self, this.1⟩
    · obtain ⟨h1, q, hq, h2⟩ := ih _ s hs
      exact ⟨h1, q, List.mem_cons_of_mem _ hq, h2⟩
theorem end_sum (p : Pt) : sumL (endL p) = 0 := by
  unfold endL
  split <;> simp [sumL]
theorem sum_nonneg (l : List Sl) (h : ∀ s ∈ l, 0 ≤ s.n) : 0 ≤ sumL l := by
  induction l with
  | nil => simp [sumL]
  | cons s l ih =>
    have h1 := h s List.mem_cons_self
    have h2 := ih fun r hr => h r (List.mem_cons_of_mem _ hr)
    simp only [sumL]
    omega
theorem goes_le (most left pl pd : Int) : 0 ≤ goes most left pl pd ∧ goes most left pl pd ≤ max left 0 := by
  unfold goes
  split <;> omega
theorem plan_sum_le (most left : Int) (l : List Pt) : sumL (planL most left l) ≤ max left 0 := by
  induction l generalizing left with
  | nil => simp only [planL, sumL]; omega
  | cons p l ih =>
    have h1 := goes_le most left p.left p.pend
    have h2 := ih (left - goes most left p.left p.pend)
    simp only [planL, sumL_append, end_sum, go_sum]
    omega
/-- The slices told as a plan of what is left. -/
theorem plan_drop (most left : Int) (l : List Pt) (j : Nat) (p : Pt) (h : l[j]? = some p) : planL most left (l.drop j) = endL p ++ (goL most p.id p.fin left p.left p.pend ++ planL most (left - goes most left p.left p.pend) (l.drop (j + 1))) := by
  obtain ⟨hj, rfl⟩ := List.getElem?_eq_some_iff.1 h
  rw [List.drop_eq_getElem_cons hj]
  rfl
end Go.Proofs.Ytocpjajafocdaaa
