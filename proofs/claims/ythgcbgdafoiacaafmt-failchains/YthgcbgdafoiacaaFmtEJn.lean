/-
  (*errors.joinError).Error of an error and a plain failure; (*fail.Failure).Error; every error's words.
-/
import Derived.Test.YthgcbgdafoiacaaFmtERow
namespace Go.Proofs.YthgcbgdafoiacaaFmt
open Go.RowKit Go.Extern.Stop Go.Stop Go.Extern

set_option maxRecDepth 100000 in
set_option maxHeartbeats 2000000 in
theorem says_j2 (w0 : World) (b g : Nat) (v u : Value) (s r : ByteArray) (hb : w0.heap[b]? = some (jnObj g 2)) (hg : w0.heap[g]? = some (.cells #[v, u] 26 (0, 0))) (hs : Says w0 v s) (hr : Says w0 u r) (hlen : s.size + 1 + r.size ≤ 140737488355328) : Says w0 (jnV b) (s ++ ⟨#[10]⟩ ++ r) := by
  refine ⟨_, _, _, rfl, jn_mError _, jn_enter _, fun w hE hk => ?_⟩
  obtain ⟨T, x, f, rfl, hm, hf, hC⟩ := hs
  obtain ⟨T2, x2, f2, rfl, hm2, hf2, hC2⟩ := hr
  have HC := hid (hC w hE hk)
  have HC2 : Hid (∀ w1, Keeps nobody w w1 → Calls Tryf.prog f2 #[x2] w1 fun e w' => e = .returned (.string r) ∧ Keeps nobody w1 w') := fun w1 h1 => hC2 w1 (hE.quiet h1) (hk.then h1)
  have hbw := (hk.block b (lt_of_heap hb) id).trans hb
  have hgw := (hk.block g (lt_of_heap hg) id).trans hg
  have HB : Hid (∀ w1, Keeps nobody w w1 → w1.cell? ⟨b, 0, none⟩ = some (.slice (some ⟨g, 0, none⟩) 2 2) ∧ w1.cell? ⟨g, 1, none⟩ = some (.iface T2 x2)) := fun w1 h1 => ⟨cells_of ((h1.block b (lt_of_heap hbw) id).trans hbw) 0 _ rfl, cells_of ((h1.block g (lt_of_heap hgw) id).trans hgw) 1 _ rfl⟩
  have c0 := cells_of hbw 0 _ rfl
  have c1 := cells_of hgw 0 _ rfl
  clear hC hC2 hb hg hk hE hbw hgw
  go_enter Tryf.func61, Tryf.ntmps61
  go_wp2_with fail
  refine Calls.mono HC.out ?_
  rintro e w1 ⟨rfl, k1⟩
  obtain ⟨v2, w2, hcv, hz2, k2, ⟨a2, c2, hv2⟩⟩ := conv_bytes w1 s
  have K2 := k1.then k2
  obtain ⟨d0, d1⟩ := HB.out w2 K2
  have z1 := k1.size
  have z2 := k2.size
  clear c0 c1 k1 k2 HC
  subst hv2
  go_wp2_with fail
  refine wp_loop_rounds 2 ?_
  rw [rounds_succ]
  have hka : Keeps nobody w2 (w2.alloc (.cells #[.int .u8 10] 5)) := keeps_alloc _ _
  obtain ⟨v3, w3, hap, hz3, k3⟩ := hz_append (hz2.keeps hka) (by simp; omega) 108 (.slice (some ⟨w2.heap.size, 0, none⟩) 1 1) [10]
    (Src.ofSlice _ Tryf.underlying108 ⟨w2.heap.size, 0, none⟩ 1 1 (Lib.byteCells [10]) rfl (fun j u hj => by
      match j, hj with
      | 0, hj => simp [Lib.byteCells] at hj; subst hj; simp [Addr.add]) (byteCells_one _)) (by simp; omega) 108
  have K3 : Keeps nobody w w3 := (K2.then hka).trans k3 fun n h1 h2 => by omega
  have z3 := k3.size
  simp at z3
  have hz3' := hz3
  obtain ⟨g3, cap3, n3, rfl, _⟩ := hz3'
  clear hka k3 hz2
  go_wp2_with (at_builtin; refine wpList_append_run rfl _ _ _ _ rfl (.slice (some a2) s.size c2) (.slice (some ⟨w2.heap.size, 0, none⟩) 1 1) rfl rfl hap ?_)
  go_wp2_with fail
  refine Calls.mono (HC2.out w3 K3) ?_
  rintro e w4 ⟨rfl, k4⟩
  have K4 := K3.then k4
  have z4 := k4.size
  have hl3 : (s.data.toList ++ [10]).length = s.size + 1 := by simp
  obtain ⟨v5, w5, hap5, hz5, k5⟩ := hz_append (hz3.keeps k4) (by omega) 9 (.string r) r.data.toList (Src.ofString w4 Tryf.underlying9 r) (by rw [hl3]; show _ + r.size ≤ _; omega) 108
  have K5 : Keeps nobody w w5 := K4.trans k5 fun n h1 h2 => by omega
  have hle : (s.data.toList ++ [10] ++ r.data.toList).length = s.size + 1 + r.size := by simp; omega
  obtain ⟨g5, cap5, rfl, hB5, hc5, hus⟩ := hz_string hz5 (by simp) (by rw [hle]; omega)
  have hfin : (⟨(s.data.toList ++ [10] ++ r.data.toList).toArray⟩ : ByteArray) = s ++ ⟨#[10]⟩ ++ r := by
    apply ByteArray.ext
    simp
  rw [hfin] at hus
  rw [hle] at hus hap5 hz5
  rw [hl3] at hap5
  obtain ⟨x5, hx5⟩ := Option.ne_none_iff_exists'.1 hc5
  have hus2 := hus 9
  rw [show ((s.size + 1 + r.size : Nat) : Int) = (s.size : Int) + 1 + (r.size : Int) by omega] at hus2
  have KF : Hid (∀ n, Keeps nobody w (w5.freeze ⟨g5, 0, none⟩ n)) := fun n => K5.freeze (p := ⟨g5, 0, none⟩) (by show w.heap.size ≤ g5; omega) n
  clear hz3 hz5 k4 k5 hap hc5 hfin hle K3 K4 K5 HC2 hl3
  go_wp2_with (at_builtin; refine wpList_append_run rfl _ _ _ _ rfl _ (.string r) rfl rfl hap5 ?_)
  go_wp2_with fail
  rw [rounds_succ]
  go_wp2_with fail
  go_ret
  exact ⟨rfl, KF.out _⟩
end Go.Proofs.YthgcbgdafoiacaaFmt
