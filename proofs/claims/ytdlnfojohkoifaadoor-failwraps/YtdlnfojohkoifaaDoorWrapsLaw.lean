/-
  The law FailWraps as a walk.
-/
import Derived.Test.YtdlnfojohkoifaaDoorTexts
namespace Go.Proofs.YtdlnfojohkoifaaDoor
open Go.RowKit Go.Extern.Stop Go.Stop Go.Extern

/-- The chain behind the first k wraps. -/
def wrapped (c : Int) (l : List ByteArray) : List (ByteArray × Int) := l.reverse.map (fun s => (s, c)) ++ [(⟨#[]⟩, c)]
theorem wrapped_nil (c : Int) : wrapped c [] = [(⟨#[]⟩, c)] := rfl
theorem wrapped_snoc (c : Int) (l : List ByteArray) (s : ByteArray) : wrapped c (l ++ [s]) = (s, c) :: wrapped c l := by simp [wrapped]
theorem wrapped_cons (c : Int) (l : List ByteArray) : ∃ s m, wrapped c l = (s, c) :: m := by
  unfold wrapped
  cases l.reverse with
  | nil => exact ⟨_, _, rfl⟩
  | cons s m => exact ⟨s, _, rfl⟩
theorem words_cons {x y : ByteArray × Int} {l : List (ByteArray × Int)} : words (x :: y :: l) = pre x.1 ++ words (y :: l) := rfl
theorem words_wrapped (c : Int) (l : List ByteArray) (s : ByteArray) : words (wrapped c (l ++ [s])) = pre s ++ words (wrapped c l) := by
  rw [wrapped_snoc]
  obtain ⟨t, m, e⟩ := wrapped_cons c l
  rw [e]; rfl
theorem words_wrapped_nil (c : Int) : words (wrapped c []) = (nameOf c).data.toList := by
  rw [wrapped_nil]
  simp [words, pre_empty empty_isEmpty]
theorem opsOf_wrapped (c : Int) (l : List ByteArray) (s : ByteArray) : opsOf (wrapped c (l ++ [s])) = (if s.toList.isEmpty then [] else [s]) ++ opsOf (wrapped c l) := by
  rw [wrapped_snoc]
  unfold opsOf
  cases h : s.toList.isEmpty <;> simp [h]
theorem opsOf_nil (c : Int) : opsOf (wrapped c []) = [] := by
  rw [wrapped_nil]
  unfold opsOf
  simp
theorem pre_length (s : ByteArray) : (pre s).length ≤ s.size + 2 := by
  have e : s.size = s.data.toList.length := rfl
  unfold pre
  split <;> simp <;> omega
theorem words_map_le (c : Int) (m : List ByteArray) (h : ∀ s ∈ m, s.size ≤ 30) : (words (m.map (fun s => (s, c)) ++ [(⟨#[]⟩, c)])).length ≤ 32 * m.length + 7 := by
  induction m with
  | nil =>
    have e2 : words ([].map (fun s => (s, c)) ++ [((⟨#[]⟩ : ByteArray), c)]) = (nameOf c).data.toList := words_wrapped_nil c
    rw [e2]
    have := nameOf_size c
    have e : (nameOf c).size = (nameOf c).data.toList.length := rfl
    simp only [List.length_nil]; omega
  | cons s m ih =>
    have h1 := ih (fun t ht => h t (by simp [ht]))
    have h2 := pre_length s
    have h3 := h s (by simp)
    have e : words ((s :: m).map (fun s => (s, c)) ++ [(⟨#[]⟩, c)]) = pre s ++ words (m.map (fun s => (s, c)) ++ [(⟨#[]⟩, c)]) := by
      cases m <;> rfl
    rw [e]
    simp only [List.length_append, List.length_cons]
    omega
theorem words_wrapped_le (c : Int) (l : List ByteArray) (h : ∀ s ∈ l, s.size ≤ 30) : (words (wrapped c l)).length ≤ 32 * l.length + 7 := by
  have := words_map_le c l.reverse (fun s hs => h s (by simpa using hs))
  simpa [wrapped] using this
theorem hasT_wrapped (c : Int) (l : List ByteArray) : hasT c (wrapped c l) = true := by
  obtain ⟨s, m, e⟩ := wrapped_cons c l
  rw [e]; simp [hasT]
theorem wrapped_length (c : Int) (l : List ByteArray) : (wrapped c l).length = l.length + 1 := by simp [wrapped]

set_option maxRecDepth 100000 in
set_option maxHeartbeats 2000000 in
theorem failWraps_short (a : Int) (ao : Option Addr) (n cap : Nat) (w : World) (hE : Env w) (hn : n ≤ maxLen) (h : (a == 0) = true ∨ (a == 0) = false ∧ 20 < n) :
    Calls Tryd.prog 4 #[.int .i64 a, .slice ao n cap] w fun e w' => e = .returned (.bool true) ∧ Below w.heap.size w w' := by
  unfold maxLen at hn
  have HA : Hid (Calls Tryd.prog 8 #[] w fun e w' => e = .returned (.bool true) ∧ Below w.heap.size w w') := alive_true w hE
  rcases h with h | ⟨h, h3⟩
  all_goals
    go_enter Tryd.func4, Tryd.ntmps4
    go_wp2_with fail
    refine Calls.mono HA.out ?_
    rintro e w1 ⟨rfl, hB⟩
    go_wp2_with fail
    go_ret
    exact ⟨rfl, hB⟩

/-- The first j of the texts. -/
def first (ss : Nat → ByteArray) (j : Nat) : List ByteArray := (List.range j).map ss
theorem first_succ (ss : Nat → ByteArray) (j : Nat) : first ss (j + 1) = first ss j ++ [ss j] := by simp [first, List.range_succ]
theorem first_length (ss : Nat → ByteArray) (j : Nat) : (first ss j).length = j := by simp [first]

/-- What holds when j of the texts have gone round. -/
structure Round (a : Int) (ss : Nat → ByteArray) (w : World) (j : Nat) (err path : Value) (s : ByteArray) (wr : World) : Prop where
  chain : Chain wr err (wrapped a (first ss j))
  own : wr.ownsRow w.heap.size 9 1 path (opsOf (wrapped a (first ss j))).length (strs (opsOf (wrapped a (first ss j))))
  told : s.data.toList = words (wrapped a (first ss j))
  below : Below w.heap.size w wr
  small : ∀ t ∈ first ss j, t.size ≤ 30

theorem Round.size {a : Int} {ss : Nat → ByteArray} {w : World} {j : Nat} {err path : Value} {s : ByteArray} {wr : World} (h : Round a ss w j err path s wr) (hj : j ≤ 20) : s.size ≤ 700 := by
  have e : s.size = s.data.toList.length := rfl
  have := words_wrapped_le a (first ss j) h.small
  rw [first_length] at this
  rw [e, h.told]; omega

set_option maxRecDepth 100000 in
set_option maxHeartbeats 4000000 in
theorem failWraps_main (a : Int) (ao : Option Addr) (n cap : Nat) (ss : Nat → ByteArray) (w : World) (hE : Env w) (ha : (a == 0) = false) (hn : n ≤ 20)
    (hc : ∀ k, k < n → ∃ b off, ao = some ⟨b, off, none⟩ ∧ w.cell? ⟨b, off + k, none⟩ = some (.string (ss k))) (hs : ∀ k, k < n → (ss k).size ≤ maxLen) :
    Calls Tryd.prog 4 #[.int .i64 a, .slice ao n cap] w fun e w' => e = .returned (.bool true) ∧ Below w.heap.size w w' := by
  have mE := methodError
  obtain ⟨i9, hi9, hz9⟩ := Option.map_eq_some_iff.1 info9
  simp only [Prod.mk.injEq] at hz9
  obtain ⟨hz0, hz1, hz2⟩ := hz9
  go_enter Tryd.func4, Tryd.ntmps4
  go_wp2_with fail
  refine (alive_true w hE).mono ?_
  rintro e w1 ⟨rfl, hB1⟩
  have hE1 := hE.grown hB1
  go_wp2_with fail
  refine (new_some a w1 ha).mono ?_
  rintro e w2 ⟨rfl, rfl⟩
  have hB2 : Below w.heap.size w (w1.alloc (.cells #[.string ⟨#[]⟩, .int .i64 a, .nilIface] 28)) := hB1.alloc hB1.size _
  have hch2 : Chain (w1.alloc (.cells #[.string ⟨#[]⟩, .int .i64 a, .nilIface] 28)) (.iface 24 (.pointer (some ⟨w1.heap.size, 0, none⟩))) (wrapped a []) := .cons (heap_alloc_new w1 _) .nil
  generalize (w1.alloc (.cells #[.string ⟨#[]⟩, .int .i64 a, .nilIface] 28)) = w2 at *
  have hE2 := hE.grown hB2
  clear hB1 hE1
  go_wp2_with fail
  refine (name_any a w2 hE2).mono ?_
  rintro e w3 ⟨rfl, rfl⟩
  go_wp2_with fail
  go_loopg [5, 6, 7, 28] n (fun k err path wd idx wr => ∃ (j : Nat) (s : ByteArray), k = n - j ∧ j ≤ n ∧ idx = .int .i64 j ∧ wd = .string s ∧ Round a ss w j err path s wr)
  case atStart =>
    refine ⟨0, nameOf a, by omega, by omega, rfl, rfl, hch2, ?_, (words_wrapped_nil a).symm, hB2, fun t ht => by simp [first] at ht⟩
    have e : opsOf (wrapped a (first ss 0)) = [] := opsOf_nil a
    rw [e]
    exact World.ownsRow_nil _ _ _ _
  case round =>
    obtain ⟨j, s, hk, hj, rfl, rfl, hR⟩ := hrel
    have HK : Hid (gk = n - j) := hk
    have hsz := hR.size (by omega)
    clear hk hch2
    by_cases hlt : j < n
    · obtain ⟨b, off, rfl, hcell⟩ := hc j hlt
      have hm := hs j hlt
      unfold maxLen at hm
      have cj : ∀ wr', Below w.heap.size w wr' → wr'.cell? ⟨b, off + j, none⟩ = some (.string (ss j)) := fun wr' h => (h.cell (p := ⟨b, off + j, none⟩) (lt_of_cell hcell)).trans hcell
      have c1 := cj wr hR.below
      have hlti : (j : Int) < (n : Int) := by omega
      clear hc hs cj
      by_cases h30 : (30 : Int) < ((ss j).size : Int)
      · go_wp2_with fail
        go_ret
        exact ⟨rfl, hR.below⟩
      · go_wp2_with fail
        obtain ⟨t0, m0, ewr⟩ := wrapped_cons a (first ss j)
        have hch := hR.chain
        rw [ewr] at hch
        refine (wrap_chain (ss j) u5 t0 a m0 wr (hE.grown hR.below) hch).mono ?_
        rintro e w4 ⟨v4, rfl, hch4, hB4⟩
        rw [← ewr, ← wrapped_snoc, ← first_succ] at hch4
        clear hch ewr
        have hown4 := ownsRow_kept hR.own hB4
        have hB5 : Below w.heap.size w w4 := hR.below.trans (hB4.mono hR.below.size)
        have HT : Hid (s.data.toList = words (wrapped a (first ss j))) := hR.told
        have hsm : ∀ t ∈ first ss (j + 1), t.size ≤ 30 := by
          intro t ht
          rw [first_succ] at ht
          rcases List.mem_append.1 ht with h | h
          · exact hR.small t h
          · simp at h; subst h; omega
        have hol : (opsOf (wrapped a (first ss j))).length ≤ 21 := by
          have h1 := List.length_filter_le (fun s : ByteArray => !s.toList.isEmpty) ((wrapped a (first ss j)).map (·.1))
          have h2 := wrapped_length a (first ss j)
          rw [first_length] at h2
          have h3 : (opsOf (wrapped a (first ss j))).length ≤ (wrapped a (first ss j)).length := by simpa [opsOf] using h1
          omega
        have hw4 := hB5.size
        clear hR hB4 c1 hcell
        cases hem : (ss j).toList.isEmpty with
        | true =>
          have hR2 : Round a ss w (j + 1) v4 u6 s w4 := by
            refine ⟨hch4, ?_, ?_, hB5, hsm⟩
            · rw [first_succ, opsOf_wrapped, hem]; exact hown4
            · rw [first_succ, words_wrapped, pre_empty hem]; exact HT.out
          clear hch4 hown4 hsm
          go_wp2_with fail
          go_roundg (n - (j + 1))
          case measure => rw [HK.out]; omega
          case rel => exact ⟨j + 1, s, rfl, by omega, by go_num, rfl, hR2⟩
        | false =>
          have hR2 : ∀ v' w', w'.ownsRow w.heap.size 9 1 v' (1 + (opsOf (wrapped a (first ss j))).length) ([.string (ss j)] ++ strs (opsOf (wrapped a (first ss j)))) → Below w4.heap.size w4 w' → Round a ss w (j + 1) v4 v' (ss j ++ ⟨#[58, 32]⟩ ++ s) w' := by
            intro v' w' ho hb
            refine ⟨hch4.grown hb, ?_, ?_, hB5.trans (hb.mono hw4), hsm⟩
            · have e : opsOf (wrapped a (first ss (j + 1))) = ss j :: opsOf (wrapped a (first ss j)) := by rw [first_succ, opsOf_wrapped, hem]; rfl
              rw [e]
              have e2 : 1 + (opsOf (wrapped a (first ss j))).length = (ss j :: opsOf (wrapped a (first ss j))).length := by simp; omega
              rw [e2] at ho
              simpa [strs] using ho
            · rw [first_succ, words_wrapped, pre_nonempty hem, ← HT.out]
              simp
          have HR2 : Hid (∀ v' w', w'.ownsRow w.heap.size 9 1 v' (1 + (opsOf (wrapped a (first ss j))).length) ([.string (ss j)] ++ strs (opsOf (wrapped a (first ss j)))) → Below w4.heap.size w4 w' → Round a ss w (j + 1) v4 v' (ss j ++ ⟨#[58, 32]⟩ ++ s) w') := hR2
          clear hR2 hch4 hsm HT
          have hnew : (w4.alloc (.cells #[.string (ss j)] 9)).ownsRow w.heap.size 9 1 (.slice (some ⟨w4.heap.size, 0, none⟩) 1 1) 1 [.string (ss j)] := ⟨rfl, .inr ⟨w4.heap.size, 1, #[.string (ss j)], rfl, hw4, heap_alloc_new w4 _, Nat.le_refl _, by unfold maxLen; decide, rfl, rfl⟩⟩
          generalize hL : opsOf (wrapped a (first ss j)) = L at *
          clear hL
          rcases hown4.2 with ⟨hv, hl0⟩ | ⟨g, cp, cur, hv, hbg, hgg, hle, hmx, hcs, htk⟩
          · subst hv
            have hL0 : L = [] := List.eq_nil_of_length_eq_zero hl0
            subst hL0
            clear hl0 hol hown4
            go_wp2_with fail
            go_roundg (n - (j + 1))
            case measure => rw [HK.out]; omega
            case rel => exact ⟨j + 1, _, rfl, by omega, by go_num, rfl, HR2.out _ _ hnew ((Below.refl _ _).alloc (Nat.le_refl _) _)⟩
          · subst hv
            go_wp2_with (at_builtin; refine wpList_append_own _ rfl _ _ 41 rfl w.heap.size 9 i9 (.string ⟨#[]⟩) 1 16 Tryd.underlying41 hi9 hz0 hz1 hz2 rfl (by decide) _ _ _ rfl hnew ⟨g, 0, none⟩ L.length cp (strs L) rfl (by simp [strs]) ?c1 ?c2 ?c3 ?c4 ?c5 ?_)
            case c1 =>
              intro i u hi
              have hgl := lt_of_heap hgg
              rw [Addr.add_lit, World.cell?_alloc_lt _ _ _ (show g < w4.heap.size from hgl)]
              rw [← htk, List.getElem?_take] at hi
              split at hi
              · simp only [World.cell?, hgg, Nat.zero_add]
                simpa using hi
              · cases hi
            case c2 => intro u hu; obtain ⟨x, _, rfl⟩ := List.mem_map.1 hu; rfl
            case c3 => unfold maxLen; omega
            case c4 => omega
            case c5 => simp; omega
            intro v5 w5 hown5 hgrow _
            have hB6 : Below w4.heap.size w4 w5 := ((Below.refl _ _).alloc (Nat.le_refl _) _).grown hgrow (by simp) (fun k hk => by simp [Value.ownBlock] at hk; omega)
            have hR3 := HR2.out v5 w5 hown5 hB6
            clear hown5 hgrow hnew hown4 hgg htk HR2
            go_wp2_with fail
            go_roundg (n - (j + 1))
            case measure => rw [HK.out]; omega
            case rel => exact ⟨j + 1, _, rfl, by omega, by go_num, rfl, hR3⟩
    · obtain rfl : j = n := by omega
      obtain ⟨t0, m0, ewr⟩ := wrapped_cons a (first ss j)
      have hch := hR.chain
      rw [ewr] at hch
      obtain ⟨bk, rfl⟩ := hch.open
      have hEr := hE.grown hR.below
      have hlen := wrapped_length a (first ss j)
      have hwl := words_wrapped_le a (first ss j) hR.small
      rw [first_length] at hlen hwl
      have htold := hR.told
      have hown := hR.own
      have hB := hR.below
      have hhas := hasT_wrapped a (first ss j)
      rw [ewr] at hlen hwl htold hown hhas
      have hst : (⟨(words ((t0, a) :: m0)).toArray⟩ : ByteArray) = s := WideShapes.bytes_inj (by rw [htold])
      have HS : Hid ((⟨(words ((t0, a) :: m0)).toArray⟩ : ByteArray) = s ∧ hasT a ((t0, a) :: m0) = true ∧ (words ((t0, a) :: m0)).length ≤ 140737488355328 ∧ ((t0, a) :: m0).length ≤ 1000000) := ⟨hst, hhas, by omega, by omega⟩
      have hw1 := hB.size
      clear hst hhas hlen hwl htold hR ewr hc hs hlt HK
      go_wp2_with fail
      refine (code_chain _ _ _ _ wr hEr hch).mono ?_
      rintro e w4 ⟨rfl, hB4⟩
      have hch4 := hch.grown hB4
      have hE4 := hEr.grown hB4
      have hown4 := ownsRow_kept hown hB4
      clear hch hEr hown
      go_wp2_with fail
      refine (has_some _ a _ _ hch4 ha).mono ?_
      rintro e w5 ⟨rfl, hB5⟩
      rw [HS.out.2.1]
      have hch5 := hch4.grown hB5
      have hE5 := hE4.grown hB5
      have hown5 := ownsRow_kept hown4 hB5
      clear hch4 hE4 hown4
      go_wp2_with fail
      refine (new_some a _ ha).mono ?_
      rintro e w6 ⟨rfl, rfl⟩
      go_wp2_with fail
      refine (errorsIs_chain _ w5.heap.size a _ w5 _ hch5 (by simp) (by simp [bne, ha]) ((Below.refl _ _).alloc (Nat.le_refl _) _) (Nat.le_refl _) (heap_alloc_new w5 _)).mono ?_
      rintro e w7 ⟨rfl, hB7⟩
      rw [HS.out.2.1]
      have hB7' : Below w5.heap.size w5 w7 := ((Below.refl _ _).alloc (Nat.le_refl _) _).trans (hB7.mono (by simp))
      have hch7 := hch5.grown hB7'
      have hE7 := hE5.grown hB7'
      have hown7 := ownsRow_kept hown5 hB7'
      clear hch5 hE5 hown5 hB7
      go_wp2_with fail
      refine (path_chain _ _ _ hch7 HS.out.2.2.2).mono ?_
      rintro e w8 ⟨v8, rfl, hown8, hB8⟩
      have hch8 := hch7.grown hB8
      have hE8 := hE7.grown hB8
      have hownb := ownsRow_kept hown7 hB8
      clear hch7 hE7 hown7
      go_wp2_with fail
      refine (same_rows v8 u6 _ w8 hown8 hownb).mono ?_
      rintro e w9 ⟨rfl, hB9⟩
      have hch9 := hch8.grown hB9
      have hE9 := hE8.grown hB9
      clear hch8 hE8 hown8 hownb
      go_wp2_with fail
      refine (error_chain _ _ _ hE9 hch9 HS.out.2.2.1).mono ?_
      rintro e w10 ⟨rfl, hB10⟩
      rw [HS.out.1]
      go_wp2_with fail
      go_ret
      have z4 := hB4.size
      have z5 := hB5.size
      have z7 := hB7'.size
      have z8 := hB8.size
      have z9 := hB9.size
      exact ⟨rfl, (((((hB.trans (hB4.mono hw1)).trans (hB5.mono (by omega))).trans (hB7'.mono (by omega))).trans (hB8.mono (by omega))).trans (hB9.mono (by omega))).trans (hB10.mono (by omega))⟩

theorem failWraps_true (a : Int) (ao : Option Addr) (n cap : Nat) (ss : Nat → ByteArray) (w : World) (hE : Env w) (hn : n ≤ maxLen)
    (hc : ∀ k, k < n → ∃ b off, ao = some ⟨b, off, none⟩ ∧ w.cell? ⟨b, off + k, none⟩ = some (.string (ss k))) (hs : ∀ k, k < n → (ss k).size ≤ maxLen) :
    Calls Tryd.prog 4 #[.int .i64 a, .slice ao n cap] w fun e w' => e = .returned (.bool true) ∧ Below w.heap.size w w' := by
  cases ha : (a == 0)
  · by_cases h20 : 20 < n
    · exact failWraps_short a ao n cap w hE hn (.inr ⟨ha, h20⟩)
    · exact failWraps_main a ao n cap ss w hE ha (by omega) hc hs
  · exact failWraps_short a ao n cap w hE hn (.inl ha)
end Go.Proofs.YtdlnfojohkoifaaDoor
