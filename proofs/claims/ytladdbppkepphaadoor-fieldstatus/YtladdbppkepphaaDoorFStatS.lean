/-
  FieldStatus: a number's digits; what a status makes of a response.
-/
import Derived.Test.YtladdbppkepphaaDoorFMoreW
namespace Go.Proofs.YtladdbppkepphaaDoor
open Go.RowKit

/-- A number's digits. -/
def decD (n : Nat) : List Nat := if n < 10 then [48 + n] else decD (n / 10) ++ [48 + n % 10]
termination_by n
decreasing_by omega
theorem decD_step (n : Nat) : decD n = (if n / 10 = 0 then [] else decD (n / 10)) ++ [48 + n % 10] := by
  rw [decD]
  by_cases h : n < 10
  · rw [if_pos h, if_pos (by omega), Nat.mod_eq_of_lt h]
    rfl
  · rw [if_neg h, if_neg (by omega)]
theorem decD_digits (n : Nat) : ∀ c ∈ decD n, 48 ≤ c ∧ c ≤ 57 := by
  induction n using Nat.strongRecOn with
  | ind n ih =>
    intro c hc
    rw [decD_step] at hc
    rcases List.mem_append.1 hc with hc | hc
    · by_cases h : n / 10 = 0
      · rw [if_pos h] at hc; cases hc
      · rw [if_neg h] at hc
        exact ih (n / 10) (by omega) c hc
    · simp only [List.mem_singleton] at hc
      omega
theorem decD_len (n : Nat) (h : n ≤ 100000) : (decD n).length ≤ 6 := by
  have step : ∀ m k, (m / 10 ≠ 0 → (decD (m / 10)).length ≤ k) → (decD m).length ≤ k + 1 := by
    intro m k hm
    rw [decD_step]
    by_cases h : m / 10 = 0
    · rw [if_pos h]; simp
    · rw [if_neg h]; simpa using hm h
  refine step n 5 fun h1 => step _ 4 fun h2 => step _ 3 fun h3 => step _ 2 fun h4 => step _ 1 fun h5 => step _ 0 fun h6 => ?_
  omega
theorem str_list (l : List Nat) : (str l).data.toList = l.map UInt8.ofNat := by rw [str_data]
theorem digits_value (l : List Nat) (hl : l.length ≤ 200) (h : ∀ c ∈ l, 48 ≤ c ∧ c ≤ 57) : valueB (str l) = true := by
  have hb : ∀ c ∈ l, c < 256 := fun c hc => by have := h c hc; omega
  have hn : ∀ b ∈ (str l).data.toList, b ≠ 32 := by
    rw [str_list]
    intro b hb2
    obtain ⟨c, hc, rfl⟩ := List.mem_map.1 hb2
    have := h c hc
    intro e
    have e2 := congrArg UInt8.toNat e
    simp at e2
    omega
  have p1 : Lib.hasPrefix (str l).data.toList [32] = false := by
    rw [Bool.eq_false_iff]
    intro e
    unfold Lib.hasPrefix at e
    rw [List.isPrefixOf_iff_prefix] at e
    exact hn 32 (e.subset (by simp)) rfl
  have p2 : Lib.hasSuffix (str l).data.toList [32] = false := by
    rw [Bool.eq_false_iff]
    intro e
    unfold Lib.hasSuffix at e
    rw [List.isSuffixOf_iff_suffix] at e
    exact hn 32 (e.subset (by simp)) rfl
  have p3 : allB okV (str l) = true := by
    unfold allB
    rw [nums_str l hb, List.all_eq_true]
    intro c hc
    have := h c hc
    unfold okV
    rw [decide_eq_true_eq]
    omega
  unfold valueB
  rw [p1, p2, p3, str_size, decide_eq_true hl]
  rfl
theorem okD_dig (k : Nat) (h : k < 10) : okD (48 + k) = true := by unfold okD; rw [decide_eq_true_eq]; omega
theorem stat_dec (n : Nat) (h : n ≤ 100000) : statB (str (decD n)) = decide (100 ≤ n ∧ n ≤ 599) := by
  have hb : ∀ c ∈ decD n, c < 256 := fun c hc => by have := decD_digits n c hc; omega
  unfold statB
  rw [nums_str _ hb]
  rw [decD_step]
  by_cases h1 : n / 10 = 0
  · rw [if_pos h1, decide_eq_false (by omega)]
    rfl
  · rw [if_neg h1, decD_step]
    by_cases h2 : n / 10 / 10 = 0
    · rw [if_pos h2, decide_eq_false (by omega)]
      rfl
    · rw [if_neg h2, decD_step]
      by_cases h3 : n / 10 / 10 / 10 = 0
      · rw [if_pos h3]
        simp only [List.nil_append, List.cons_append]
        rw [okD_dig _ (by omega), okD_dig _ (by omega), Bool.and_true, Bool.and_true, Bool.eq_iff_iff, decide_eq_true_eq, decide_eq_true_eq]
        omega
      · rw [if_neg h3, decide_eq_false (by omega)]
        have hne : ∀ m, 0 < (decD m).length := by
          intro m
          rw [decD_step]
          simp
        split
        · rename_i a b c e
          have := congrArg List.length e
          simp only [List.length_append, List.length_cons, List.length_nil] at this
          have := hne (n / 10 / 10 / 10)
          omega
        · rfl

/-- All of a list that may be trailers are plain. -/
theorem trl_all (l : List Fld) : ∀ a, listE [] a l = 0 → ∀ f ∈ l, trailersE [f] = 0 := by
  induction l with
  | nil => intro a _ f hf; cases hf
  | cons g l ih =>
    intro a h f hf
    simp only [listE] at h
    have hg : nextE [] a g = 0 := by
      by_cases e : nextE [] a g = 0
      · exact e
      · rw [if_neg e] at h; exact h
    rw [if_pos hg] at h
    rcases List.mem_cons.1 hf with rfl | hf
    · rw [trl_f, ← next_none a]
      exact hg
    · exact ih _ h f hf
theorem own1_not (f : Fld) (h : trailersE [f] = 0) : hasB own1 f.1 = false := by
  have a4 := name_not f (plain_f f h).1 _ names_none.2.2.2.2
  unfold hasB
  simp [a4.symm]
theorem list_plain (l : List Fld) : ∀ a, (∀ f ∈ l, trailersE [f] = 0) → listE own1 a l = 0 := by
  induction l with
  | nil => intro a _; rfl
  | cons g l ih =>
    intro a h
    have hg := h g (by simp)
    simp only [listE]
    rw [if_pos (next_plain own1 a g hg (own1_not g hg))]
    exact ih _ fun f hf => h f (by simp [hf])
theorem forb_stat (v : ByteArray) : forbB (sStatus, v) = false := by
  unfold forbB
  rw [decide_eq_false_iff_not]
  simp only
  rintro (h | h | h | h | ⟨h, _⟩) <;> exact absurd h (by decide +kernel)
theorem has_stat : hasB own1 sStatus = true := by decide +kernel
theorem status_ahead (s : ByteArray) (more : List Fld) (hv : valueB s = true) (h : trailersE more = 0) : responseE ([(sStatus, s)] ++ more) = if statB s = true then 0 else 3 := by
  have h0 : nextE own1 [] (sStatus, s) = 0 := by
    unfold nextE
    simp only
    rw [has_stat, forb_stat, hv]
    rfl
  have hl : listE own1 [] ([(sStatus, s)] ++ more) = 0 := by
    rw [List.singleton_append]
    simp only [listE]
    rw [if_pos h0]
    exact list_plain more _ (trl_all more [] h)
  have hg : valL sStatus ([(sStatus, s)] ++ more) = s := by unfold valL; rw [getL_first]; rfl
  unfold responseE
  rw [hl, hg, if_pos rfl]
theorem status_behind (more : List Fld) (h : trailersE more = 0) (hne : more ≠ []) : responseE (more ++ [(sStatus, ⟨#[50, 48, 48]⟩)]) = 7 := by
  have hl : listE own1 [] more = 0 := list_plain more _ (trl_all more [] h)
  have hm : misB sStatus more = true := by
    unfold misB
    rw [List.getLast?_eq_some_getLast hne]
    simp only
    rw [(plain_f _ (trl_all more [] h _ (List.getLast_mem hne))).1]
    rfl
  have hn : nextE own1 more (sStatus, ⟨#[50, 48, 48]⟩) = 7 := by
    unfold nextE
    simp only
    have hv : valueB ⟨#[50, 48, 48]⟩ = true := by decide +kernel
    rw [has_stat, forb_stat, hv, hm]
    rfl
  have e : listE own1 [] (more ++ [(sStatus, ⟨#[50, 48, 48]⟩)]) = 7 := by
    rw [listE_append, hl, if_pos rfl, List.nil_append, hn]
  unfold responseE
  rw [e]
  rfl
end Go.Proofs.YtladdbppkepphaaDoor
