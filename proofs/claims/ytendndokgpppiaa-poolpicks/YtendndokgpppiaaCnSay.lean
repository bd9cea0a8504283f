/-
  Package conn: say, send of one frame.
-/
import Derived.Test.YtendndokgpppiaaCnMem
import Derived.Test.YtendndokgpppiaaRPut
import Derived.Test.YtendndokgpppiaaRObj
namespace Go.Proofs.Ytendndokgpppiaa
open Go.RowKit
attribute [local irreducible] nums str putA cnT cnW

theorem putA_most (f : Frm) : (putA f).size ≤ 9 + f.body.size := by
  unfold putA
  split
  · rw [ByteArray.size_append, headA_size]
    exact Nat.le_refl _
  · show 0 ≤ _
    omega
theorem cnT_of {s : Cn} {w : World} (H : (cnT s).inv w) : (cnW s.g s.gi s.gh s.go s.v (cnC s) s.h s.B).inv w := by
  unfold cnT at H
  exact H
/-- What is told is put behind what waits. -/
theorem say_ok {w : World} {s : Cn} (H : (cnT s).inv w) (h0 : s.dead = 0) (b : ByteArray) (hB : s.B.size + b.size ≤ 1000000) (hs : s.sent + b.size ≤ 1000000) :
    Calls Try.prog 39 #[.pointer (some ⟨s.g, 0, none⟩), .string b] w fun e w' => e = .returned (.tuple #[]) ∧ ∃ v', Did (cnT s) (cnT { s with v := v', B := s.B ++ b, sent := s.sent + b.size }) w w' := by
  have HP : Hid (Calls Try.prog 53 #[.pointer (some ⟨s.go, 0, none⟩), .string b] w fun e w' => e = .returned (.bool true) ∧ ∃ v', (Did (cnT s) (cnW s.g s.gi s.gh s.go v' (cnC s) s.h (s.B ++ b)) w w')) := by
    have hb : Bu.Bf w s.go s.v 9223372036854775807 false s.B := by
      have h1 := cnT_of H
      unfold cnW at h1
      exact h1.2.1
    refine (Bu.put_yes hb b (by omega) (by omega)).mono ?_
    rintro e w' ⟨he, v', hd⟩
    refine ⟨he, v', ?_⟩
    unfold cnT
    exact cn_buf (cnT_of H) hd
  obtain ⟨_, _, _, _, _, c20, c21, _, c24, _⟩ := cnT_cells H
  have HS : Hid (∀ v' w', Did (cnT s) (cnW s.g s.gi s.gh s.go v' (cnC s) s.h (s.B ++ b)) w w' → (w'.cell? ⟨s.g, 21, none⟩ = some (.int .i64 (s.sent : Int)) ∧ w'.frozen? ⟨s.g, 21, none⟩ = false) ∧ Did (cnT s) (cnT { s with v := v', B := s.B ++ b, sent := s.sent + b.size }) w (w'.setCell ⟨s.g, 21, none⟩ (.int .i64 ((s.sent : Int) + (b.size : Int))))) := by
    intro v' w' hd
    have hb := cnW_blk hd.inv
    refine ⟨⟨by simp [World.cell?, hb, cnC], by simp [World.frozen?, hb]⟩, ?_⟩
    have := hd.trans (cn_set hd.inv 21 (.int .i64 ((s.sent : Int) + (b.size : Int))))
    have e : (cnC s).setIfInBounds 21 (.int .i64 ((s.sent : Int) + (b.size : Int))) = cnC { s with v := v', B := s.B ++ b, sent := s.sent + b.size } := by simp [cnC]
    rw [e] at this
    unfold cnT at this ⊢
    exact this
  rw [h0] at c24
  clear H h0
  have hn := hid (show ∀ v', cnT { s with v := v', B := s.B ++ b, sent := s.sent + b.size } = cnT { s with v := v', B := s.B ++ b, sent := s.sent + b.size } from fun _ => rfl)
  generalize hT : (fun v' => cnT { s with v := v', B := s.B ++ b, sent := s.sent + b.size }) = T at *
  have HT : Hid (∀ v', cnT { s with v := v', B := s.B ++ b, sent := s.sent + b.size } = T v') := fun v' => congrFun hT v'
  clear hT hn
  have hq : s.sent ≤ 1000000 := by omega
  have hq2 : b.size ≤ 1000000 := by omega
  clear hs hB
  go_enter Try.func39, Try.ntmps39
  go_wp2_with fail
  refine Calls.mono HP.out ?_
  rintro e w1 ⟨rfl, v', hd⟩
  obtain ⟨⟨d21, f21⟩, hD⟩ := HS.out v' w1 hd
  have HD := hid hD
  clear hD hd HP HS c21 c20 c24
  go_wp2
  refine bodyPost_end (v := .tuple #[]) (by simp [results, Try.results39, go_sem]) rfl ⟨rfl, v', HD.out⟩
theorem sendone_ok {w : World} {s : Cn} (H : (cnT s).inv w) (h0 : s.dead = 0) (k fl id : Int) (b : ByteArray) (hB : s.B.size + (9 + b.size) ≤ 1000000) (hs : s.sent + (9 + b.size) ≤ 1000000) :
    Calls Try.prog 40 #[.pointer (some ⟨s.g, 0, none⟩), .slice (some ⟨w.heap.size, 0, none⟩) 1 1] (w.alloc (frobj k fl id b)) fun e w' => e = .returned (.tuple #[]) ∧ ∃ v', Did (cnT s) (cnT { s with v := v', B := s.B ++ putA ⟨k, fl, id, b⟩, sent := s.sent + (putA ⟨k, fl, id, b⟩).size }) w w' := by
  have hz := putA_most ⟨k, fl, id, b⟩
  simp only at hz
  have HP : Hid (∀ w, Calls Try.prog 54 #[.agg #[.int .i64 k, .int .i64 fl, .int .i64 id, .string b]] w fun e w' => e = .returned (.tuple #[.string (putA ⟨k, fl, id, b⟩), .bool (decide (right ⟨k, fl, id, b⟩))]) ∧ Keeps nobody w w') := fun w => Fr.put_ok ⟨k, fl, id, b⟩ w
  have HY : Hid (∀ W, Keeps nobody w W → Calls Try.prog 39 #[.pointer (some ⟨s.g, 0, none⟩), .string (putA ⟨k, fl, id, b⟩)] W fun e w' => e = .returned (.tuple #[]) ∧ ∃ v', Did (cnT s) (cnT { s with v := v', B := s.B ++ putA ⟨k, fl, id, b⟩, sent := s.sent + (putA ⟨k, fl, id, b⟩).size }) w w') := fun W hk => by
    refine (say_ok (cnT_quiet H hk) h0 _ (by omega) (by omega)).mono ?_
    rintro e w' ⟨he, v', hd⟩
    exact ⟨he, v', hd.before hk⟩
  have hcell : ∀ j u, (#[.int .i64 k, .int .i64 fl, .int .i64 id, .string b] : Array Value)[j]? = some u → (w.alloc (frobj k fl id b)).cell? ⟨w.heap.size, j, none⟩ = some u := fun j u hj => by
    have hn := heap_alloc_new w (frobj k fl id b)
    unfold World.cell?
    simp only [hn]
    exact hj
  have c0 := hcell 0 _ rfl
  have c1 := hcell 1 _ rfl
  have c2 := hcell 2 _ rfl
  have c3 := hcell 3 _ rfl
  have hlt : w.heap.size < (w.alloc (frobj k fl id b)).heap.size := by simp
  have hk0 : Keeps nobody w (w.alloc (frobj k fl id b)) := keeps_alloc _ _
  clear hcell H hz hB hs
  generalize decide (right ⟨k, fl, id, b⟩) = D at *
  generalize putA ⟨k, fl, id, b⟩ = P at *
  generalize (fun v' => cnT { s with v := v', B := s.B ++ P, sent := s.sent + P.size }) = T at *
  generalize hW0 : w.alloc (frobj k fl id b) = W0 at *
  have HK := hid hk0
  clear hW0 hk0
  generalize w.heap.size = f at *
  go_enter Try.func40, Try.ntmps40
  go_wp2
  go_loopg [10] 1 (fun kk i wr => (kk = 1 ∧ i = .int .i64 0 ∧ wr = W0) ∨ (kk = 0 ∧ i = .int .i64 1 ∧ Hid (∃ v', Did (cnT s) (cnT { s with v := v', B := s.B ++ P, sent := s.sent + P.size }) w wr)))
  case atStart => exact .inl ⟨rfl, rfl, rfl⟩
  case round =>
    rcases hrel with ⟨hk, rfl, rfl⟩ | ⟨hk, rfl, HZ⟩
    · go_wp2_with fail
      refine Calls.mono (HP.out _) ?_
      rintro e w1 ⟨rfl, k1⟩
      have KY := hid (HY.out _ ((HK.out.alloc _).then k1))
      clear HY HP k1
      go_wp2_with fail
      refine Calls.mono KY.out ?_
      rintro e w2 ⟨rfl, HV⟩
      have HV := hid HV
      clear KY
      go_wp2
      go_roundg 0
      case measure => omega
      case rel => exact .inr ⟨rfl, rfl, HV⟩
    · clear HY HP
      go_wp2
      refine bodyPost_end (v := .tuple #[]) (by simp [results, Try.results40, go_sem]) rfl ⟨rfl, HZ.out⟩
end Go.Proofs.Ytendndokgpppiaa
