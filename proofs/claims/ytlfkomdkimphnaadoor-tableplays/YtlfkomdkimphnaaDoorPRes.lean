/-
  TablePlays: a table and the reference's get another size, whatever it is.
-/
import Derived.Test.YtlfkomdkimphnaaDoorPBox
namespace Go.Proofs.YtlfkomdkimphnaaDoor
open Go.RowKit

def fits (n : Int) : Bool := decide (0 ≤ n ∧ n ≤ 512)
def rsz (n : Int) (size : Nat) : Nat := if 0 ≤ n ∧ n ≤ 512 then n.toNat else size
def rls (n : Int) (l : List Fld) : List Fld := if 0 ≤ n ∧ n ≤ 512 then keep n l else l
section
variable {W w w' : World} {g : Nat} {v v' : Value} {size size' : Nat} {l l' : List Fld} {rg : Nat} {rv rv' : Value} {rsize rsize' : Nat} {rl rl' : List Fld} {kb : Nat} {fv wv : Value} {fs ws : List PL} {bx : Nat} {o : Opr}
theorem PB.res (h : PB W w g v size l rg rv rsize rl kb fv wv fs ws bx o) (n : Int) : Calls Tryd.prog 13 #[.pointer (some ⟨g, 0, none⟩), .int .i64 n] w fun e w' => e = .returned (.bool (fits n)) ∧ Hid (∃ v', PB W w' g v' (rsz n size) (rls n l) rg rv rsize rl kb fv wv fs ws bx o) := by
  by_cases hn : 0 ≤ n ∧ n ≤ 512
  · have e1 : fits n = true := by simp [fits, hn]
    have e2 : rsz n size = n.toNat := if_pos hn
    have e3 : rls n l = keep n l := if_pos hn
    rw [e1, e2, e3]
    obtain ⟨q, rfl⟩ : ∃ q : Nat, n = (q : Int) := ⟨n.toNat, by omega⟩
    refine (g_resize h.p.good q (by omega)).mono ?_
    rintro e w' ⟨rfl, v', G, K, F⟩
    exact ⟨rfl, v', h.acted G K F⟩
  · have e1 : fits n = false := by simp [fits, hn]
    have e2 : rsz n size = size := if_neg hn
    have e3 : rls n l = l := if_neg hn
    rw [e1, e2, e3]
    refine (resize_no h.p.good.tab n hn).mono ?_
    rintro e w' ⟨rfl, rfl⟩
    exact ⟨rfl, v, h⟩
theorem PB.rres (h : PB W w g v size l rg rv rsize rl kb fv wv fs ws bx o) (n : Int) : Calls Tryd.prog 18 #[.pointer (some ⟨rg, 0, none⟩), .int .i64 n] w fun e w' => e = .returned (.bool (fits n)) ∧ Hid (∃ rv', PB W w' g v size l rg rv' (rsz n rsize) (rls n rl) kb fv wv fs ws bx o) := by
  by_cases hn : 0 ≤ n ∧ n ≤ 512
  · have e1 : fits n = true := by simp [fits, hn]
    have e2 : rsz n rsize = n.toNat := if_pos hn
    have e3 : rls n rl = keep n rl := if_pos hn
    rw [e1, e2, e3]
    obtain ⟨q, rfl⟩ : ∃ q : Nat, n = (q : Int) := ⟨n.toNat, by omega⟩
    refine (rresize_ok h.p.ref q (by omega)).mono ?_
    rintro e w' ⟨rfl, ha⟩
    exact ⟨rfl, h.racted ha⟩
  · have e1 : fits n = false := by simp [fits, hn]
    have e2 : rsz n rsize = rsize := if_neg hn
    have e3 : rls n rl = rl := if_neg hn
    rw [e1, e2, e3]
    refine (rresize_no rg n hn).mono ?_
    rintro e w' ⟨rfl, rfl⟩
    exact ⟨rfl, rv, h⟩
end
end Go.Proofs.YtlfkomdkimphnaaDoor
