/-
  The calls over what a law holds.
-/
import Derived.Test.YtocpjajafocdaaaMLive
namespace Go.Proofs.Ytocpjajafocdaaa
open Go.RowKit
section
variable {W w : World} {a : Option Addr} {l : List Pt} {m : List Sl} {ts : List Thing} {x : Option Addr} {c : Nat}
theorem Hold.plan {w' : World} (h : Hold W w ts) (H : Hold w w' [slT x m.length c m]) : Hold W w' (slT x m.length c m :: ts) :=
  h.add (keeps_of_below H.below) Recs.rowT_ok (H.inv _ (List.mem_singleton.2 rfl)) fun k e => H.new _ (List.mem_singleton.2 rfl) k e
theorem t_plan (h : Hold W w ts) (left most : Int) (cap : Nat) {S : Nat → Prop} (hl : ptR.Lies w a l S) (hL : LightL l) (hin : ∀ p ∈ l, PtIn p) (hleft : left ≤ 9223372036854775807) :
    Calls Try.prog 11 #[.int .i64 left, .int .i64 most, .slice a l.length cap] w fun e w' => ∃ x c, e = .returned (.slice x (planL most left l).length c) ∧ Hid (Hold W w' (slT x (planL most left l).length c (planL most left l) :: ts)) := by
  refine (plan_ok left most cap hl (by have := hL.2; omega) (fun p hp => ⟨(hin p hp).2.1.2, hL.1 p hp⟩) hleft).mono ?_
  rintro e w' ⟨x, c, rfl, H⟩
  exact ⟨x, c, rfl, hid (h.plan H.out)⟩
theorem t_sum (h : Hold W w ts) (hm : slT x m.length c m ∈ ts) (hn : ∀ s ∈ m, 0 ≤ s.n) (hs : sumL m ≤ 9223372036854775807) (hl : m.length ≤ 1000000000) :
    Calls Try.prog 12 #[.slice x m.length c] w fun e w' => e = .returned (.int .i64 (sumL m)) ∧ Hid (Hold W w' ts) := by
  have ho : slR.Own 34 0 w (.slice x m.length c) m := h.inv _ hm
  refine (sum_ok c (Recs.own_lies (S := nobody) ho fun _ _ => id) hn hs hl).mono ?_
  rintro e w' ⟨rfl, k⟩
  exact ⟨rfl, hid (h.quiet k)⟩
theorem plan_small (most left : Int) (l : List Pt) (hL : LightL l) : (planL most left l).length ≤ 120030 := by
  have h1 := plan_few most left l hL.1
  have h2 := hL.2
  omega
end
end Go.Proofs.Ytocpjajafocdaaa
