/-
  The law StreamErrors as a walk.
-/
import Derived.Test.YtblhgifmdcghoaaDoorIResetsW
namespace Go.Proofs.YtblhgifmdcghoaaDoor
open Go.RowKit

theorem serr_0oo (s : Int) (en : Bool) (W : World) (HA : Alv W) (h0 : 0 ≤ s) (h4 : s ≤ 4) (a : Int) (HS : SeC s 0 en a 0) (b : Int) (HG : GoC s 0 en b 0) : Calls Tryd.prog 6 #[.int .i64 s, .int .i64 0, .bool en] W (Fine W) := by
  go_enter Tryd.func6, Tryd.ntmps6
  go_wp2_with fail
  refine Calls.mono (HA.out) ?_
  rintro e w1 ⟨rfl, rfl⟩
  go_wp2_with fail
  refine Calls.mono (HS.out _) ?_
  rintro e w1 ⟨rfl, rfl⟩
  go_wp2_with fail
  refine Calls.mono (HG.out _) ?_
  rintro e w1 ⟨rfl, rfl⟩
  go_wp2
  go_ret
  exact ⟨by first | rfl | (simp; omega), Below.refl _ _⟩
theorem serr_0oe (s : Int) (en : Bool) (W : World) (HA : Alv W) (h0 : 0 ≤ s) (h4 : s ≤ 4) (a : Int) (HS : SeC s 0 en a 0) (f : Int) (HG : GoC s 0 en s f) (f0 : (f == 0) = false) (f1 : (f != 1) = true) : Calls Tryd.prog 6 #[.int .i64 s, .int .i64 0, .bool en] W (Fine W) := by
  go_enter Tryd.func6, Tryd.ntmps6
  go_wp2_with fail
  refine Calls.mono (HA.out) ?_
  rintro e w1 ⟨rfl, rfl⟩
  go_wp2_with fail
  refine Calls.mono (HS.out _) ?_
  rintro e w1 ⟨rfl, rfl⟩
  go_wp2_with fail
  refine Calls.mono (HG.out _) ?_
  rintro e w1 ⟨rfl, rfl⟩
  go_wp2
  go_ret
  exact ⟨by first | rfl | (simp; omega), Below.refl _ _⟩
theorem serr_0eo (s : Int) (en : Bool) (W : World) (HA : Alv W) (h0 : 0 ≤ s) (h4 : s ≤ 4) (e : Int) (HS : SeC s 0 en s e) (e0 : (e == 0) = false) (e1 : (e != 1) = true) (b : Int) (HG : GoC s 0 en b 0) : Calls Tryd.prog 6 #[.int .i64 s, .int .i64 0, .bool en] W (Fine W) := by
  go_enter Tryd.func6, Tryd.ntmps6
  go_wp2_with fail
  refine Calls.mono (HA.out) ?_
  rintro e w1 ⟨rfl, rfl⟩
  go_wp2_with fail
  refine Calls.mono (HS.out _) ?_
  rintro e w1 ⟨rfl, rfl⟩
  go_wp2_with fail
  refine Calls.mono (HG.out _) ?_
  rintro e w1 ⟨rfl, rfl⟩
  go_wp2
  go_ret
  exact ⟨by first | rfl | (simp; omega), Below.refl _ _⟩
theorem serr_0ee (s : Int) (en : Bool) (W : World) (HA : Alv W) (h0 : 0 ≤ s) (h4 : s ≤ 4) (e : Int) (HS : SeC s 0 en s e) (e0 : (e == 0) = false) (e1 : (e != 1) = true) (f : Int) (HG : GoC s 0 en s f) (f0 : (f == 0) = false) (f1 : (f != 1) = true) : Calls Tryd.prog 6 #[.int .i64 s, .int .i64 0, .bool en] W (Fine W) := by
  go_enter Tryd.func6, Tryd.ntmps6
  go_wp2_with fail
  refine Calls.mono (HA.out) ?_
  rintro e w1 ⟨rfl, rfl⟩
  go_wp2_with fail
  refine Calls.mono (HS.out _) ?_
  rintro e w1 ⟨rfl, rfl⟩
  go_wp2_with fail
  refine Calls.mono (HG.out _) ?_
  rintro e w1 ⟨rfl, rfl⟩
  go_wp2
  go_ret
  exact ⟨by first | rfl | (simp; omega), Below.refl _ _⟩
theorem serr_1oo (s : Int) (en : Bool) (W : World) (HA : Alv W) (h0 : 0 ≤ s) (h4 : s ≤ 4) (a : Int) (HS : SeC s 1 en a 0) (b : Int) (HG : GoC s 1 en b 0) : Calls Tryd.prog 6 #[.int .i64 s, .int .i64 1, .bool en] W (Fine W) := by
  go_enter Tryd.func6, Tryd.ntmps6
  go_wp2_with fail
  refine Calls.mono (HA.out) ?_
  rintro e w1 ⟨rfl, rfl⟩
  go_wp2_with fail
  refine Calls.mono (HS.out _) ?_
  rintro e w1 ⟨rfl, rfl⟩
  go_wp2_with fail
  refine Calls.mono (HG.out _) ?_
  rintro e w1 ⟨rfl, rfl⟩
  go_wp2
  go_ret
  exact ⟨by first | rfl | (simp; omega), Below.refl _ _⟩
theorem serr_1oe (s : Int) (en : Bool) (W : World) (HA : Alv W) (h0 : 0 ≤ s) (h4 : s ≤ 4) (a : Int) (HS : SeC s 1 en a 0) (f : Int) (HG : GoC s 1 en s f) (f0 : (f == 0) = false) (f1 : (f != 1) = true) : Calls Tryd.prog 6 #[.int .i64 s, .int .i64 1, .bool en] W (Fine W) := by
  go_enter Tryd.func6, Tryd.ntmps6
  go_wp2_with fail
  refine Calls.mono (HA.out) ?_
  rintro e w1 ⟨rfl, rfl⟩
  go_wp2_with fail
  refine Calls.mono (HS.out _) ?_
  rintro e w1 ⟨rfl, rfl⟩
  go_wp2_with fail
  refine Calls.mono (HG.out _) ?_
  rintro e w1 ⟨rfl, rfl⟩
  go_wp2
  go_ret
  exact ⟨by first | rfl | (simp; omega), Below.refl _ _⟩
theorem serr_1eo (s : Int) (en : Bool) (W : World) (HA : Alv W) (h0 : 0 ≤ s) (h4 : s ≤ 4) (e : Int) (HS : SeC s 1 en s e) (e0 : (e == 0) = false) (e1 : (e != 1) = true) (b : Int) (HG : GoC s 1 en b 0) : Calls Tryd.prog 6 #[.int .i64 s, .int .i64 1, .bool en] W (Fine W) := by
  go_enter Tryd.func6, Tryd.ntmps6
  go_wp2_with fail
  refine Calls.mono (HA.out) ?_
  rintro e w1 ⟨rfl, rfl⟩
  go_wp2_with fail
  refine Calls.mono (HS.out _) ?_
  rintro e w1 ⟨rfl, rfl⟩
  go_wp2_with fail
  refine Calls.mono (HG.out _) ?_
  rintro e w1 ⟨rfl, rfl⟩
  go_wp2
  go_ret
  exact ⟨by first | rfl | (simp; omega), Below.refl _ _⟩
theorem serr_1ee (s : Int) (en : Bool) (W : World) (HA : Alv W) (h0 : 0 ≤ s) (h4 : s ≤ 4) (e : Int) (HS : SeC s 1 en s e) (e0 : (e == 0) = false) (e1 : (e != 1) = true) (f : Int) (HG : GoC s 1 en s f) (f0 : (f == 0) = false) (f1 : (f != 1) = true) : Calls Tryd.prog 6 #[.int .i64 s, .int .i64 1, .bool en] W (Fine W) := by
  go_enter Tryd.func6, Tryd.ntmps6
  go_wp2_with fail
  refine Calls.mono (HA.out) ?_
  rintro e w1 ⟨rfl, rfl⟩
  go_wp2_with fail
  refine Calls.mono (HS.out _) ?_
  rintro e w1 ⟨rfl, rfl⟩
  go_wp2_with fail
  refine Calls.mono (HG.out _) ?_
  rintro e w1 ⟨rfl, rfl⟩
  go_wp2
  go_ret
  exact ⟨by first | rfl | (simp; omega), Below.refl _ _⟩
theorem serr_2oo (s : Int) (en : Bool) (W : World) (HA : Alv W) (h0 : 0 ≤ s) (h4 : s ≤ 4) (a : Int) (HS : SeC s 2 en a 0) (b : Int) (HG : GoC s 2 en b 0) : Calls Tryd.prog 6 #[.int .i64 s, .int .i64 2, .bool en] W (Fine W) := by
  go_enter Tryd.func6, Tryd.ntmps6
  go_wp2_with fail
  refine Calls.mono (HA.out) ?_
  rintro e w1 ⟨rfl, rfl⟩
  go_wp2_with fail
  refine Calls.mono (HS.out _) ?_
  rintro e w1 ⟨rfl, rfl⟩
  go_wp2_with fail
  refine Calls.mono (HG.out _) ?_
  rintro e w1 ⟨rfl, rfl⟩
  go_wp2
  go_ret
  exact ⟨by first | rfl | (simp; omega), Below.refl _ _⟩
theorem serr_2oe (s : Int) (en : Bool) (W : World) (HA : Alv W) (h0 : 0 ≤ s) (h4 : s ≤ 4) (a : Int) (HS : SeC s 2 en a 0) (f : Int) (HG : GoC s 2 en s f) (f0 : (f == 0) = false) (f1 : (f != 1) = true) : Calls Tryd.prog 6 #[.int .i64 s, .int .i64 2, .bool en] W (Fine W) := by
  go_enter Tryd.func6, Tryd.ntmps6
  go_wp2_with fail
  refine Calls.mono (HA.out) ?_
  rintro e w1 ⟨rfl, rfl⟩
  go_wp2_with fail
  refine Calls.mono (HS.out _) ?_
  rintro e w1 ⟨rfl, rfl⟩
  go_wp2_with fail
  refine Calls.mono (HG.out _) ?_
  rintro e w1 ⟨rfl, rfl⟩
  go_wp2
  go_ret
  exact ⟨by first | rfl | (simp; omega), Below.refl _ _⟩
theorem serr_2eo (s : Int) (en : Bool) (W : World) (HA : Alv W) (h0 : 0 ≤ s) (h4 : s ≤ 4) (e : Int) (HS : SeC s 2 en s e) (e0 : (e == 0) = false) (e1 : (e != 1) = true) (b : Int) (HG : GoC s 2 en b 0) : Calls Tryd.prog 6 #[.int .i64 s, .int .i64 2, .bool en] W (Fine W) := by
  go_enter Tryd.func6, Tryd.ntmps6
  go_wp2_with fail
  refine Calls.mono (HA.out) ?_
  rintro e w1 ⟨rfl, rfl⟩
  go_wp2_with fail
  refine Calls.mono (HS.out _) ?_
  rintro e w1 ⟨rfl, rfl⟩
  go_wp2_with fail
  refine Calls.mono (HG.out _) ?_
  rintro e w1 ⟨rfl, rfl⟩
  go_wp2
  go_ret
  exact ⟨by first | rfl | (simp; omega), Below.refl _ _⟩
theorem serr_2ee (s : Int) (en : Bool) (W : World) (HA : Alv W) (h0 : 0 ≤ s) (h4 : s ≤ 4) (e : Int) (HS : SeC s 2 en s e) (e0 : (e == 0) = false) (e1 : (e != 1) = true) (f : Int) (HG : GoC s 2 en s f) (f0 : (f == 0) = false) (f1 : (f != 1) = true) : Calls Tryd.prog 6 #[.int .i64 s, .int .i64 2, .bool en] W (Fine W) := by
  go_enter Tryd.func6, Tryd.ntmps6
  go_wp2_with fail
  refine Calls.mono (HA.out) ?_
  rintro e w1 ⟨rfl, rfl⟩
  go_wp2_with fail
  refine Calls.mono (HS.out _) ?_
  rintro e w1 ⟨rfl, rfl⟩
  go_wp2_with fail
  refine Calls.mono (HG.out _) ?_
  rintro e w1 ⟨rfl, rfl⟩
  go_wp2
  go_ret
  exact ⟨by first | rfl | (simp; omega), Below.refl _ _⟩
theorem serr_3oo (s : Int) (en : Bool) (W : World) (HA : Alv W) (h0 : 0 ≤ s) (h4 : s ≤ 4) (a : Int) (HS : SeC s 3 en a 0) (b : Int) (HG : GoC s 3 en b 0) : Calls Tryd.prog 6 #[.int .i64 s, .int .i64 3, .bool en] W (Fine W) := by
  go_enter Tryd.func6, Tryd.ntmps6
  go_wp2_with fail
  refine Calls.mono (HA.out) ?_
  rintro e w1 ⟨rfl, rfl⟩
  go_wp2_with fail
  refine Calls.mono (HS.out _) ?_
  rintro e w1 ⟨rfl, rfl⟩
  go_wp2_with fail
  refine Calls.mono (HG.out _) ?_
  rintro e w1 ⟨rfl, rfl⟩
  go_wp2
  go_ret
  exact ⟨by first | rfl | (simp; omega), Below.refl _ _⟩
theorem serr_3oe (s : Int) (en : Bool) (W : World) (HA : Alv W) (h0 : 0 ≤ s) (h4 : s ≤ 4) (a : Int) (HS : SeC s 3 en a 0) (f : Int) (HG : GoC s 3 en s f) (f0 : (f == 0) = false) (f1 : (f != 1) = true) : Calls Tryd.prog 6 #[.int .i64 s, .int .i64 3, .bool en] W (Fine W) := by
  go_enter Tryd.func6, Tryd.ntmps6
  go_wp2_with fail
  refine Calls.mono (HA.out) ?_
  rintro e w1 ⟨rfl, rfl⟩
  go_wp2_with fail
  refine Calls.mono (HS.out _) ?_
  rintro e w1 ⟨rfl, rfl⟩
  go_wp2_with fail
  refine Calls.mono (HG.out _) ?_
  rintro e w1 ⟨rfl, rfl⟩
  go_wp2
  go_ret
  exact ⟨by first | rfl | (simp; omega), Below.refl _ _⟩
theorem serr_3eo (s : Int) (en : Bool) (W : World) (HA : Alv W) (h0 : 0 ≤ s) (h4 : s ≤ 4) (e : Int) (HS : SeC s 3 en s e) (e0 : (e == 0) = false) (e1 : (e != 1) = true) (b : Int) (HG : GoC s 3 en b 0) : Calls Tryd.prog 6 #[.int .i64 s, .int .i64 3, .bool en] W (Fine W) := by
  go_enter Tryd.func6, Tryd.ntmps6
  go_wp2_with fail
  refine Calls.mono (HA.out) ?_
  rintro e w1 ⟨rfl, rfl⟩
  go_wp2_with fail
  refine Calls.mono (HS.out _) ?_
  rintro e w1 ⟨rfl, rfl⟩
  go_wp2_with fail
  refine Calls.mono (HG.out _) ?_
  rintro e w1 ⟨rfl, rfl⟩
  go_wp2
  go_ret
  exact ⟨by first | rfl | (simp; omega), Below.refl _ _⟩
theorem serr_3ee (s : Int) (en : Bool) (W : World) (HA : Alv W) (h0 : 0 ≤ s) (h4 : s ≤ 4) (e : Int) (HS : SeC s 3 en s e) (e0 : (e == 0) = false) (e1 : (e != 1) = true) (f : Int) (HG : GoC s 3 en s f) (f0 : (f == 0) = false) (f1 : (f != 1) = true) : Calls Tryd.prog 6 #[.int .i64 s, .int .i64 3, .bool en] W (Fine W) := by
  go_enter Tryd.func6, Tryd.ntmps6
  go_wp2_with fail
  refine Calls.mono (HA.out) ?_
  rintro e w1 ⟨rfl, rfl⟩
  go_wp2_with fail
  refine Calls.mono (HS.out _) ?_
  rintro e w1 ⟨rfl, rfl⟩
  go_wp2_with fail
  refine Calls.mono (HG.out _) ?_
  rintro e w1 ⟨rfl, rfl⟩
  go_wp2
  go_ret
  exact ⟨by first | rfl | (simp; omega), Below.refl _ _⟩
theorem serr_8oo (s : Int) (en : Bool) (W : World) (HA : Alv W) (h0 : 0 ≤ s) (h4 : s ≤ 4) (a : Int) (HS : SeC s 8 en a 0) (b : Int) (HG : GoC s 8 en b 0) : Calls Tryd.prog 6 #[.int .i64 s, .int .i64 8, .bool en] W (Fine W) := by
  go_enter Tryd.func6, Tryd.ntmps6
  go_wp2_with fail
  refine Calls.mono (HA.out) ?_
  rintro e w1 ⟨rfl, rfl⟩
  go_wp2_with fail
  refine Calls.mono (HS.out _) ?_
  rintro e w1 ⟨rfl, rfl⟩
  go_wp2_with fail
  refine Calls.mono (HG.out _) ?_
  rintro e w1 ⟨rfl, rfl⟩
  go_wp2
  go_ret
  exact ⟨by first | rfl | (simp; omega), Below.refl _ _⟩
theorem serr_8oe (s : Int) (en : Bool) (W : World) (HA : Alv W) (h0 : 0 ≤ s) (h4 : s ≤ 4) (a : Int) (HS : SeC s 8 en a 0) (f : Int) (HG : GoC s 8 en s f) (f0 : (f == 0) = false) (f1 : (f != 1) = true) : Calls Tryd.prog 6 #[.int .i64 s, .int .i64 8, .bool en] W (Fine W) := by
  go_enter Tryd.func6, Tryd.ntmps6
  go_wp2_with fail
  refine Calls.mono (HA.out) ?_
  rintro e w1 ⟨rfl, rfl⟩
  go_wp2_with fail
  refine Calls.mono (HS.out _) ?_
  rintro e w1 ⟨rfl, rfl⟩
  go_wp2_with fail
  refine Calls.mono (HG.out _) ?_
  rintro e w1 ⟨rfl, rfl⟩
  go_wp2
  go_ret
  exact ⟨by first | rfl | (simp; omega), Below.refl _ _⟩
theorem serr_8eo (s : Int) (en : Bool) (W : World) (HA : Alv W) (h0 : 0 ≤ s) (h4 : s ≤ 4) (e : Int) (HS : SeC s 8 en s e) (e0 : (e == 0) = false) (e1 : (e != 1) = true) (b : Int) (HG : GoC s 8 en b 0) : Calls Tryd.prog 6 #[.int .i64 s, .int .i64 8, .bool en] W (Fine W) := by
  go_enter Tryd.func6, Tryd.ntmps6
  go_wp2_with fail
  refine Calls.mono (HA.out) ?_
  rintro e w1 ⟨rfl, rfl⟩
  go_wp2_with fail
  refine Calls.mono (HS.out _) ?_
  rintro e w1 ⟨rfl, rfl⟩
  go_wp2_with fail
  refine Calls.mono (HG.out _) ?_
  rintro e w1 ⟨rfl, rfl⟩
  go_wp2
  go_ret
  exact ⟨by first | rfl | (simp; omega), Below.refl _ _⟩
theorem serr_8ee (s : Int) (en : Bool) (W : World) (HA : Alv W) (h0 : 0 ≤ s) (h4 : s ≤ 4) (e : Int) (HS : SeC s 8 en s e) (e0 : (e == 0) = false) (e1 : (e != 1) = true) (f : Int) (HG : GoC s 8 en s f) (f0 : (f == 0) = false) (f1 : (f != 1) = true) : Calls Tryd.prog 6 #[.int .i64 s, .int .i64 8, .bool en] W (Fine W) := by
  go_enter Tryd.func6, Tryd.ntmps6
  go_wp2_with fail
  refine Calls.mono (HA.out) ?_
  rintro e w1 ⟨rfl, rfl⟩
  go_wp2_with fail
  refine Calls.mono (HS.out _) ?_
  rintro e w1 ⟨rfl, rfl⟩
  go_wp2_with fail
  refine Calls.mono (HG.out _) ?_
  rintro e w1 ⟨rfl, rfl⟩
  go_wp2
  go_ret
  exact ⟨by first | rfl | (simp; omega), Below.refl _ _⟩
theorem serr_n (s k : Int) (en : Bool) (W : World) (HA : Alv W) (h0 : s < 0) (HS : SeC s k en s 1) (HG : GoC s k en s 1) : Calls Tryd.prog 6 #[.int .i64 s, .int .i64 k, .bool en] W (Fine W) := by
  go_enter Tryd.func6, Tryd.ntmps6
  go_wp2_with fail
  refine Calls.mono (HA.out) ?_
  rintro e w1 ⟨rfl, rfl⟩
  go_wp2_with fail
  refine Calls.mono (HS.out _) ?_
  rintro e w1 ⟨rfl, rfl⟩
  go_wp2_with fail
  refine Calls.mono (HG.out _) ?_
  rintro e w1 ⟨rfl, rfl⟩
  go_wp2
  go_ret
  exact ⟨by first | rfl | (simp; omega), Below.refl _ _⟩
theorem serr_g (s k : Int) (en : Bool) (W : World) (HA : Alv W) (h0 : 0 ≤ s) (h4 : 4 < s) (HS : SeC s k en s 1) (HG : GoC s k en s 1) : Calls Tryd.prog 6 #[.int .i64 s, .int .i64 k, .bool en] W (Fine W) := by
  go_enter Tryd.func6, Tryd.ntmps6
  go_wp2_with fail
  refine Calls.mono (HA.out) ?_
  rintro e w1 ⟨rfl, rfl⟩
  go_wp2_with fail
  refine Calls.mono (HS.out _) ?_
  rintro e w1 ⟨rfl, rfl⟩
  go_wp2_with fail
  refine Calls.mono (HG.out _) ?_
  rintro e w1 ⟨rfl, rfl⟩
  go_wp2
  go_ret
  exact ⟨by first | rfl | (simp; omega), Below.refl _ _⟩
theorem serr_k (s k : Int) (en : Bool) (W : World) (HA : Alv W) (h0 : 0 ≤ s) (h4 : s ≤ 4) (g0 : (k == 0) = false) (g1 : (k == 1) = false) (g2 : (k == 2) = false) (g3 : (k == 3) = false) (g8 : (k == 8) = false) (HS : SeC s k en s 1) (HG : GoC s k en s 1) : Calls Tryd.prog 6 #[.int .i64 s, .int .i64 k, .bool en] W (Fine W) := by
  go_enter Tryd.func6, Tryd.ntmps6
  go_wp2_with fail
  refine Calls.mono (HA.out) ?_
  rintro e w1 ⟨rfl, rfl⟩
  go_wp2_with fail
  refine Calls.mono (HS.out _) ?_
  rintro e w1 ⟨rfl, rfl⟩
  go_wp2_with fail
  refine Calls.mono (HG.out _) ?_
  rintro e w1 ⟨rfl, rfl⟩
  go_wp2
  go_ret
  exact ⟨by first | rfl | (simp; omega), Below.refl _ _⟩
/-- What is right is told as it is, or the state stays. -/
theorem sent_way {s k : Int} (en : Bool) (hs : stateB s = true) (hk : moveB k = true) : (sentA s k en).2 = 0 ∨ ((sentA s k en).1 = s ∧ ((sentA s k en).2 == 0) = false ∧ ((sentA s k en).2 != 1) = true) := by
  rcases states_five hs with rfl | rfl | rfl | rfl | rfl <;> rcases moves_five hk with rfl | rfl | rfl | rfl | rfl <;> cases en <;> decide +kernel
theorem got_way {s k : Int} (en : Bool) (hs : stateB s = true) (hk : moveB k = true) : (gotA s k en).2 = 0 ∨ ((gotA s k en).1 = s ∧ ((gotA s k en).2 == 0) = false ∧ ((gotA s k en).2 != 1) = true) := by
  rcases states_five hs with rfl | rfl | rfl | rfl | rfl <;> rcases moves_five hk with rfl | rfl | rfl | rfl | rfl <;> cases en <;> decide +kernel
theorem serr_true (s k : Int) (en : Bool) (W : World) (hE : Env W) : Calls Tryd.prog 6 #[.int .i64 s, .int .i64 k, .bool en] W (Fine W) := by
  have HA : Alv W := alive_ok W hE
  have HS : SeC s k en (sentA s k en).1 (sentA s k en).2 := fun w => sent_ok s k en w
  have HG : GoC s k en (gotA s k en).1 (gotA s k en).2 := fun w => got_ok s k en w
  cases hs : stateB s with
  | false =>
    have e : sentA s k en = (s, 1) := by simp [sentA, hs]
    have e2 : gotA s k en = (s, 1) := by simp [gotA, hs]
    rw [e] at HS
    rw [e2] at HG
    simp [stateB] at hs
    by_cases h : s < 0
    · exact serr_n s k en W HA h HS HG
    · exact serr_g s k en W HA (by omega) (by omega) HS HG
  | true =>
    have h04 : 0 ≤ s ∧ s ≤ 4 := by simpa [stateB] using hs
    cases hk : moveB k with
    | false =>
      have e : sentA s k en = (s, 1) := by simp [sentA, hk]
      have e2 : gotA s k en = (s, 1) := by simp [gotA, hk]
      rw [e] at HS
      rw [e2] at HG
      simp [moveB, carryB] at hk
      exact serr_k s k en W HA h04.1 h04.2 (by simp; omega) (by simp; omega) (by simp; omega) (by simp; omega) (by simp; omega) HS HG
    | true =>
      have ws := sent_way en hs hk
      have wg := got_way en hs hk
      generalize (sentA s k en).1 = a at *
      generalize (sentA s k en).2 = e at *
      generalize (gotA s k en).1 = b at *
      generalize (gotA s k en).2 = f at *
      rcases moves_five hk with rfl | rfl | rfl | rfl | rfl
      · rcases ws with rfl | ⟨rfl, e0, e1⟩
        · rcases wg with rfl | ⟨rfl, f0, f1⟩
          · exact serr_0oo s en W HA h04.1 h04.2 a HS b HG
          · exact serr_0oe _ en W HA h04.1 h04.2 a HS f HG f0 f1
        · rcases wg with rfl | ⟨g, f0, f1⟩
          · exact serr_0eo _ en W HA h04.1 h04.2 e HS e0 e1 b HG
          · subst g
            exact serr_0ee _ en W HA h04.1 h04.2 e HS e0 e1 f HG f0 f1
      · rcases ws with rfl | ⟨rfl, e0, e1⟩
        · rcases wg with rfl | ⟨rfl, f0, f1⟩
          · exact serr_1oo s en W HA h04.1 h04.2 a HS b HG
          · exact serr_1oe _ en W HA h04.1 h04.2 a HS f HG f0 f1
        · rcases wg with rfl | ⟨g, f0, f1⟩
          · exact serr_1eo _ en W HA h04.1 h04.2 e HS e0 e1 b HG
          · subst g
            exact serr_1ee _ en W HA h04.1 h04.2 e HS e0 e1 f HG f0 f1
      · rcases ws with rfl | ⟨rfl, e0, e1⟩
        · rcases wg with rfl | ⟨rfl, f0, f1⟩
          · exact serr_2oo s en W HA h04.1 h04.2 a HS b HG
          · exact serr_2oe _ en W HA h04.1 h04.2 a HS f HG f0 f1
        · rcases wg with rfl | ⟨g, f0, f1⟩
          · exact serr_2eo _ en W HA h04.1 h04.2 e HS e0 e1 b HG
          · subst g
            exact serr_2ee _ en W HA h04.1 h04.2 e HS e0 e1 f HG f0 f1
      · rcases ws with rfl | ⟨rfl, e0, e1⟩
        · rcases wg with rfl | ⟨rfl, f0, f1⟩
          · exact serr_3oo s en W HA h04.1 h04.2 a HS b HG
          · exact serr_3oe _ en W HA h04.1 h04.2 a HS f HG f0 f1
        · rcases wg with rfl | ⟨g, f0, f1⟩
          · exact serr_3eo _ en W HA h04.1 h04.2 e HS e0 e1 b HG
          · subst g
            exact serr_3ee _ en W HA h04.1 h04.2 e HS e0 e1 f HG f0 f1
      · rcases ws with rfl | ⟨rfl, e0, e1⟩
        · rcases wg with rfl | ⟨rfl, f0, f1⟩
          · exact serr_8oo s en W HA h04.1 h04.2 a HS b HG
          · exact serr_8oe _ en W HA h04.1 h04.2 a HS f HG f0 f1
        · rcases wg with rfl | ⟨g, f0, f1⟩
          · exact serr_8eo _ en W HA h04.1 h04.2 e HS e0 e1 b HG
          · subst g
            exact serr_8ee _ en W HA h04.1 h04.2 e HS e0 e1 f HG f0 f1
end Go.Proofs.YtblhgifmdcghoaaDoor
