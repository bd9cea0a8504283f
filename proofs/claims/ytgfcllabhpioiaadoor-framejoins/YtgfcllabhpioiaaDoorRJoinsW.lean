/-
  The law FrameJoins as a walk.
-/
import Derived.Test.YtgfcllabhpioiaaDoorRBoundsW
import Derived.Test.YtgfcllabhpioiaaDoorROpen
namespace Go.Proofs.YtgfcllabhpioiaaDoor
open Go.RowKit

/-- The bytes of frames, one behind the other. -/
def catA : List Frm → ByteArray
  | [] => ⟨#[]⟩
  | f :: l => putA f ++ catA l
theorem empty_append (b : ByteArray) : (⟨#[]⟩ : ByteArray) ++ b = b := by
  apply nums_inj
  rw [nums_append]
  rfl
theorem append_empty (b : ByteArray) : b ++ (⟨#[]⟩ : ByteArray) = b := by
  apply nums_inj
  rw [nums_append]
  simp [nums]
theorem catA_snoc (l : List Frm) (f : Frm) : catA (l ++ [f]) = catA l ++ putA f := by
  induction l with
  | nil => simp only [List.nil_append, catA, empty_append, append_empty]
  | cons g l ih => simp only [List.cons_append, catA, ih, ByteArray.append_assoc]
theorem catA_take (l : List Frm) (j : Nat) (f : Frm) (h : l[j]? = some f) : catA (l.take (j + 1)) = catA (l.take j) ++ putA f := by
  rw [List.take_add_one, h]
  exact catA_snoc _ _
theorem drop_at (l : List Frm) (j : Nat) (f : Frm) (h : l[j]? = some f) : l.drop j = f :: l.drop (j + 1) := by
  obtain ⟨hj, rfl⟩ := List.getElem?_eq_some_iff.1 h
  exact List.drop_eq_getElem_cons hj
theorem behind_put (f : Frm) (s : ByteArray) (h : right f) : (putA f ++ s).extract (9 + f.body.size) (putA f ++ s).size = s := by
  apply nums_inj
  rw [nums_extract, nums_append, ← put_size f h]
  have h1 : (putA f ++ s).size = (nums (putA f) ++ nums s).length := by simp [nums_length]
  rw [h1, List.take_length, List.drop_left' (nums_length _)]
theorem get_none : getA ⟨#[]⟩ = (noF, 0, 2) := by rw [getA, if_neg fun h => absurd h.1 (by decide)]
/-- Frames that may be, of few bytes. -/
def Few (l : List Frm) : Prop := ∀ f ∈ l, right f ∧ f.body.size ≤ 900
theorem catA_size (l : List Frm) (h : Few l) : (catA l).size ≤ 909 * l.length := by
  induction l with
  | nil => rw [catA]; exact Nat.zero_le _
  | cons f l ih =>
    have h1 := h f (by simp)
    have h2 := ih fun g hg => h g (by simp [hg])
    rw [catA]
    simp [put_size f h1.1]
    omega
attribute [local irreducible] putA right numL byteAt endOf idOf nums str catA getA Few

/-- Where the frames lie, as a later world has it. -/
def At (w : World) (b off : Nat) (l : List Frm) : Prop := ∀ i f, l[i]? = some f → w.cell? ⟨b, off + i * 4, none⟩ = some (.int .i64 f.kind) ∧ w.cell? ⟨b, off + i * 4 + 1, none⟩ = some (.int .i64 f.flags) ∧ w.cell? ⟨b, off + i * 4 + 2, none⟩ = some (.int .i64 f.id) ∧ w.cell? ⟨b, off + i * 4 + 3, none⟩ = some (.string f.body)

set_option maxRecDepth 100000 in
set_option maxHeartbeats 2000000 in
theorem joins_main (a : Option Addr) (b off cap : Nat) (l : List Frm) (W : World) (hn : l.length ≤ 30) (HA : Hid (∀ w, Keeps nobody W w → Calls Tryd.prog 9 #[] w fun e w' => e = .returned (.bool true) ∧ Keeps nobody w w'))
    (ha : Hid (l = [] ∨ a = some ⟨b, off, none⟩)) (HC : Hid (∀ w, Keeps nobody W w → At w b off l)) (hsz : ∀ f ∈ l, f.body.size ≤ 140737488355328) :
    Calls Tryd.prog 5 #[.slice a l.length cap] W (Fine W) := by
  have HS : Hid (∀ f ∈ l, f.body.size ≤ 140737488355328) := hsz
  have HP : Hid (∀ (f : Frm) w, Calls Tryd.prog 10 #[.agg #[.int .i64 f.kind, .int .i64 f.flags, .int .i64 f.id, .string f.body]] w fun e w' => e = .returned (.tuple #[.string (putA f), .bool (decide (right f))]) ∧ Keeps nobody w w') := put_ok
  have HR : Hid (∀ (f : Frm) w, Calls Tryd.prog 16 #[.agg #[.int .i64 f.kind, .int .i64 f.flags, .int .i64 f.id, .string f.body]] w fun e w' => e = .returned (.bool (decide (right f))) ∧ Keeps nobody w w') := right_ok
  have HG : Hid (∀ (s : ByteArray) w, s.size ≤ 140737488355328 → Calls Tryd.prog 12 #[.string s] w fun e w' => e = .returned (getV (getA s)) ∧ Keeps nobody w w') := get_ok
  clear hsz
  go_enter Tryd.func5, Tryd.ntmps5
  go_wp2_with fail
  refine Calls.mono (HA.out _ (Keeps.refl _ _)) ?_
  rintro e w1 ⟨rfl, k1⟩
  go_wp2_with fail
  go_loopg [3, 4, 27] l.length (fun k s n i wr => ∃ (j : Nat) (S : ByteArray), i = .int .i64 (j : Int) ∧ k + j = l.length ∧ s = .string S ∧ n = .int .i64 (S.size : Int) ∧ S = catA (l.take j) ∧ Few (l.take j) ∧ Keeps nobody W wr)
  case atStart =>
    refine ⟨0, ⟨#[]⟩, rfl, rfl, rfl, rfl, ?_, ?_, k1⟩
    · simp [catA]
    · unfold Few; simp
  case round =>
    obtain ⟨j, S, rfl, hk, rfl, rfl, hS, hF, kr⟩ := hrel
    have hSs : S.size ≤ 909 * 30 := by
      have := catA_size _ hF
      rw [← hS] at this
      have h2 : (l.take j).length ≤ 30 := by simp; omega
      omega
    by_cases hj : j < l.length
    · obtain rfl : a = some ⟨b, off, none⟩ := by
        rcases ha.out with h | h
        · rw [h] at hj; simp at hj
        · exact h
      obtain ⟨f, hf⟩ : ∃ f, l[j]? = some f := ⟨_, List.getElem?_eq_getElem hj⟩
      have hsf := HS.out f (List.mem_of_getElem? hf)
      obtain ⟨c0, c1, c2, c3⟩ := HC.out _ kr j f hf
      have hP := hid (HP.out f)
      have hR := hid (HR.out f)
      have HT : Hid (catA (l.take (j + 1)) = S ++ putA f ∧ gk + j = l.length ∧ (∀ g ∈ l.take j, right g ∧ g.body.size ≤ 900) ∧ l.take (j + 1) = l.take j ++ [f]) := by
        refine ⟨by rw [hS, catA_take l j f hf], hk, ?_, by rw [List.take_add_one, hf]; rfl⟩
        unfold Few at hF
        exact hF
      clear hS hF hk HP HR HG HA HC HS
      obtain ⟨fk, ff, fi, fb⟩ := f
      simp only at c0 c1 c2 c3 hsf
      by_cases h9 : 900 < fb.size
      · clear hP hR
        go_wp2
        go_ret
        exact ⟨rfl, below_of_keeps (kr.alloc _)⟩
      · by_cases hr : right ⟨fk, ff, fi, fb⟩
        · have hps := put_size _ hr
          simp only at hps
          rw [decide_eq_true hr] at hP hR
          generalize putA ⟨fk, ff, fi, fb⟩ = PF at *
          go_wp2_with fail
          refine Calls.mono (hP.out _) ?_
          rintro e w2 ⟨rfl, k2⟩
          obtain ⟨d0, d1, d2, d3⟩ := k2.four
          have kk := (kr.alloc _).then k2
          clear k2 kr hP hR c0 c1 c2 c3
          go_wp2
          obtain ⟨t1, t2, t3, t4⟩ := HT.out
          go_roundg (gk - 1)
          case measure => omega
          case rel =>
            refine ⟨j + 1, S ++ PF, by simp, by omega, rfl, by simp [hps], t1.symm, ?_, kk⟩
            unfold Few
            rw [t4]
            intro g hg
            rcases List.mem_append.1 hg with h | h
            · exact t3 g h
            · simp at h
              subst h
              exact ⟨hr, by simp only; omega⟩
        · rw [decide_eq_false hr] at hP hR
          go_wp2_with fail
          refine Calls.mono (hP.out _) ?_
          rintro e w2 ⟨rfl, k2⟩
          obtain ⟨d0, d1, d2, d3⟩ := k2.four
          have kk := (kr.alloc _).then k2
          clear k2 kr hP c0 c1 c2 c3
          go_wp2_with fail
          refine Calls.mono (hR.out _) ?_
          rintro e w3 ⟨rfl, k3⟩
          go_wp2
          go_ret
          exact ⟨rfl, below_of_keeps (kk.then k3)⟩
    · have hjl : j = l.length := by omega
      have hL : l.take j = l := List.take_of_length_le (by omega)
      rw [hL] at hS hF
      have hj2 : l.length ≤ j := by omega
      have HF : Hid (Few l) := hF
      have HX : Hid (S = catA (l.drop 0)) := by show S = _; rw [hS]; simp
      clear hS hF hjl hL hk HP HR HA
      go_wp2_with fail
      obtain ⟨wo, hwo⟩ : ∃ wo : World, wo = wr := ⟨_, rfl⟩
      subst hwo
      obtain ⟨go, hgo⟩ : ∃ go : Nat, go = gk := ⟨_, rfl⟩
      subst hgo
      clear hj hj2
      go_loopg [3, 61] l.length (fun k s i wr => ∃ (j : Nat) (S : ByteArray), i = .int .i64 (j : Int) ∧ k + j = l.length ∧ s = .string S ∧ S.size ≤ 27270 ∧ S = catA (l.drop j) ∧ Keeps nobody W wr)
      case atStart => exact ⟨0, S, rfl, rfl, rfl, by omega, HX.out, kr⟩
      case round =>
        clear HX hSs
        obtain ⟨j, S, rfl, hk, rfl, hSs, hS, kr⟩ := hrel
        have hG := hid (fun w => HG.out S w (by omega))
        by_cases hj : j < l.length
        · obtain rfl : a = some ⟨b, off, none⟩ := by
            rcases ha.out with h | h
            · rw [h] at hj; simp at hj
            · exact h
          obtain ⟨f, hf⟩ : ∃ f, l[j]? = some f := ⟨_, List.getElem?_eq_getElem hj⟩
          obtain ⟨c0, c1, c2, c3⟩ := HC.out _ kr j f hf
          have hff : right f ∧ f.body.size ≤ 900 := by
            have := HF.out
            unfold Few at this
            exact this f (List.mem_of_getElem? hf)
          have hS2 : S = putA f ++ catA (l.drop (j + 1)) := by
            rw [hS, drop_at l j f hf, catA]
          have hB := behind_put f (catA (l.drop (j + 1))) hff.1
          rw [← hS2] at hB
          have hGs := get_put f (catA (l.drop (j + 1))) hff.1
          rw [← hS2] at hGs
          have hsz : 9 + f.body.size ≤ S.size := by
            rw [hS2]
            simp [put_size f hff.1]
          have hbs : (catA (l.drop (j + 1))).size ≤ 27270 := by
            have := congrArg ByteArray.size hS2
            simp at this
            omega
          rw [hGs] at hG
          have HT : Hid (gk + j = l.length) := hk
          clear hS hS2 hGs hk HC HG HF HS hf
          generalize hR : catA (l.drop (j + 1)) = R at *
          obtain ⟨fk, ff, fi, fb⟩ := f
          obtain ⟨_, hf9⟩ := hff
          simp only at c0 c1 c2 c3 hf9 hB hsz
          have hsl : ∀ w, (Instr.slice 9 (.string S) (some (.int .i64 ((9 + fb.size : Nat) : Int))) none none).run Tryd.prog w = .ok (.string R) w := fun w => by
            have := slice_from S (9 + fb.size) hsz w
            rw [hB] at this
            exact this
          have hc9 : (9 : Int) + (fb.size : Int) = ((9 + fb.size : Nat) : Int) := by omega
          have HG2 : Hid (∀ w, Calls Tryd.prog 12 #[.string S] w fun e w' => e = .returned (.tuple #[.agg #[.int .i64 fk, .int .i64 ff, .int .i64 fi, .string fb], .int .i64 ((9 + fb.size : Nat) : Int), .int .i64 0]) ∧ Keeps nobody w w') := hG.out
          have hle : 9 + fb.size ≤ S.size := hsz
          have hb9 : 9 + fb.size ≤ 909 := by omega
          generalize 9 + fb.size = q at *
          clear hB hG hsz
          go_wp2_with fail
          refine Calls.mono (HG2.out _) ?_
          rintro e w2 ⟨rfl, k2⟩
          obtain ⟨d0, d1, d2, d3⟩ := k2.four
          have hlt : wr.heap.size < w2.heap.size := by have := k2.size; simp at this; omega
          have hx : ∀ o n, (w2.alloc o).cell? ⟨wr.heap.size, n, none⟩ = w2.cell? ⟨wr.heap.size, n, none⟩ := fun o n => (keeps_alloc w2 o).cell hlt (fun h => h)
          have kk := ((kr.alloc _).then k2)
          have e0 := fun o => (hx o 0).trans d0
          have e1 := fun o => (hx o 1).trans d1
          have e2 := fun o => (hx o 2).trans d2
          have e3 := fun o => (hx o 3).trans d3
          have KK : Hid (∀ o, Keeps nobody W (w2.alloc o)) := fun o => kk.alloc o
          clear k2 kr hx hlt kk c0 c1 c2 c3 HG2 d0 d1 d2 d3
          go_wp2
          have hk := HT.out
          go_roundg (gk - 1)
          case measure => omega
          case rel => exact ⟨j + 1, R, by simp, by omega, rfl, hbs, hR.symm, KK.out _⟩
        · have hd : l.drop j = [] := List.drop_eq_nil_of_le (by omega)
          rw [hd, catA] at hS
          subst hS
          rw [get_none] at hG
          have HG2 : Hid (∀ w, Calls Tryd.prog 12 #[.string ⟨#[]⟩] w fun e w' => e = .returned (.tuple #[.agg #[.int .i64 0, .int .i64 0, .int .i64 0, .string ⟨#[]⟩], .int .i64 0, .int .i64 2]) ∧ Keeps nobody w w') := hG.out
          have hj2 : l.length ≤ j := by omega
          clear hd hG HG hk hj HC HF HS hSs
          go_wp2_with fail
          refine Calls.mono (HG2.out _) ?_
          rintro e w2 ⟨rfl, k2⟩
          have KK : Hid (∀ o, Keeps nobody W (w2.alloc o)) := fun o => (kr.then k2).alloc o
          clear k2 kr
          go_wp2
          go_ret
          exact ⟨rfl, below_of_keeps (KK.out _)⟩
theorem joins_off (a : Option Addr) (cap : Nat) (l : List Frm) (W : World) (HA : Hid (∀ w, Keeps nobody W w → Calls Tryd.prog 9 #[] w fun e w' => e = .returned (.bool true) ∧ Keeps nobody w w')) (h : 30 < l.length) :
    Calls Tryd.prog 5 #[.slice a l.length cap] W (Fine W) := by
  go_enter Tryd.func5, Tryd.ntmps5
  go_wp2_with fail
  refine Calls.mono (HA.out _ (Keeps.refl _ _)) ?_
  rintro e w1 ⟨rfl, k1⟩
  go_wp2
  go_ret
  exact ⟨rfl, below_of_keeps k1⟩
theorem joins_true (a : Option Addr) (cap : Nat) (l : List Frm) (W : World) (hE : Env W) (hF : Frs W a l) : Calls Tryd.prog 5 #[.slice a l.length cap] W (Fine W) := by
  have HA : Hid (∀ w, Keeps nobody W w → Calls Tryd.prog 9 #[] w fun e w' => e = .returned (.bool true) ∧ Keeps nobody w w') := fun w hw => alive_ok w (hE.quiet hw)
  by_cases h : 30 < l.length
  · exact joins_off a cap l W HA h
  · obtain ⟨h1, _, h3⟩ := hF
    rcases h1 with rfl | ⟨b, off, rfl, hb, hc⟩
    · exact joins_main a 0 0 cap [] W (by omega) HA (.inl rfl) (fun w _ i f hi => by simp at hi) h3
    · refine joins_main _ b off cap l W (by omega) HA (.inr rfl) (fun w hw i f hi => ?_) h3
      have hk : ∀ n, w.cell? ⟨b, n, none⟩ = W.cell? ⟨b, n, none⟩ := fun n => hw.cell hb (fun h => h)
      exact ⟨(hk _).trans (hc i f hi 0 _ rfl), (hk _).trans (hc i f hi 1 _ rfl), (hk _).trans (hc i f hi 2 _ rfl), (hk _).trans (hc i f hi 3 _ rfl)⟩
end Go.Proofs.YtgfcllabhpioiaaDoor
