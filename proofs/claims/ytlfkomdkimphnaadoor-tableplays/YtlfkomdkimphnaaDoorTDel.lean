/-
  slices.Delete up to the list's end.
-/
import Derived.Test.YtlfkomdkimphnaaDoorTAll
namespace Go.Proofs.YtlfkomdkimphnaaDoor
open Go.RowKit

theorem append_none (rb k cap : Nat) (a : Option Addr) (c : Nat) (ty : TypeId) (h : k ≤ cap) (W : World) : (Builtin.append_ #[33, 33] ty #[.slice (some ⟨rb, 0, none⟩) k cap, .slice a 0 c]).run Tryd.prog W = .ok (.slice (some ⟨rb, 0, none⟩) k cap) W := by
  obtain ⟨i5, hi5, hz0, hz1, hz2⟩ := info_parts infoF
  cases a with
  | none => simp [Builtin.append_, run_underlying Tryd.underlying33, sizeOf, typeInfo, hi5, Builtin.lenOf, Builtin.firstCells, h, storeCells]
  | some a => simp [Builtin.append_, run_underlying Tryd.underlying33, sizeOf, typeInfo, hi5, Builtin.lenOf, Builtin.firstCells, h, storeCells, loadCells, loadCellsFrom]

/-- append, its run known by an equation, as one step of a region that draws its order; out of a region. -/
theorem step_append_run {P : Program} {ops : Array Oper} {o : Oper} {a : Act} {w : World} {K : Act → World → Prop} {Q : Exit → Act → World → Prop} {E : Prop}
    (hg : o.guard = none) (d x : Operand) (dT sT : TypeId) (hop : o.op = Op.call { callee := Callee.builtin Builtin.append, args := #[d, x], argTypes := #[dT, sT] })
    (v u : Value) (hd : a.eval d = v) (hx : a.eval x = u) {v' : Value} {w' : World} (hr : (Builtin.append_ #[dT, sT] o.type #[v, u]).run P w = .ok v' w') (hK : K (a.put o.dst v') w') :
    if Region.wanted o (yielded ops a.tmps) = true then Oper.wp P o a w K Q else E := by
  have hw : Region.wanted o (yielded ops a.tmps) = true := by simp [Region.wanted, hg]
  rw [if_pos hw]
  unfold Oper.wp execOp
  simp only [hop, resolve, invoke, builtin, Sem.run_bind, Sem.run_pure, Result.andThen_ok, List.map_toArray, List.map_cons, List.map_nil, hd, hx, hr]
  exact hK

def zfs (n : Nat) : List Value := (Builtin.zeroCells (Value.agg #[.string ⟨#[]⟩, .string ⟨#[]⟩]).cells n).toList
theorem zfs_length (n : Nat) : (zfs n).length = n * 2 := by
  unfold zfs
  rw [Array.length_toList, size_zeroCells]; rfl
theorem zfs_one (n : Nat) : ∀ v ∈ zfs n, v.oneCell' = true := by
  intro v hv
  simp [zfs, Builtin.zeroCells, Value.cells] at hv
  obtain ⟨i, _, rfl⟩ := hv
  rcases (by omega : i % 2 = 0 ∨ i % 2 = 1) with h | h <;> rw [h] <;> rfl
theorem clear_row (rb k n cap : Nat) (cur : Array Value) (ty : TypeId) (W : World) (hn : 0 < n) (hg : W.heap[rb]? = some (.cells cur 28 (0, 0))) (hs : k * 2 + n * 2 ≤ cur.size) :
    (Builtin.clear_ #[33] ty #[.slice (some ⟨rb, k * 2, none⟩) n cap]).run Tryd.prog W = .ok (.tuple #[]) (W.setRow rb (cur.toList.take (k * 2) ++ zfs n ++ cur.toList.drop (k * 2 + n * 2)).toArray) := by
  obtain ⟨i5, hi5, hz0, hz1, hz2⟩ := info_parts infoF
  have hzl := zfs_length n
  have hst := run_storeCells_at Tryd.prog rb (k * 2) 28 (zfs n) 0 cur W hg (by rw [hzl]; simpa using hs) (zfs_one n)
  simp only [Nat.add_zero, hzl] at hst
  unfold zfs at hst ⊢
  cases n with
  | zero => omega
  | succ n =>
    simp [Builtin.clear_, run_underlying Tryd.underlying33, zeroValue, typeInfo, hi5, hz0, hst]

/-- The head of a row that the call owns, what lies behind it turned. -/
theorem row_head {w : World} {base rb n cap : Nat} {cur : Array Value} {l : List Fld} (k : Nat) (hk : k ≤ l.length) (hb : base ≤ rb) (hg : w.heap[rb]? = some (.cells cur 28 (0, 0))) (hn : n = l.length) (hnc : n ≤ cap) (hcm : cap ≤ maxLen) (hcs : cur.size = cap * 2) (ht : cur.toList.take (n * 2) = fcells l) (zs : List Value) (hz : zs.length = cap * 2 - k * 2) :
    (w.setRow rb (cur.toList.take (k * 2) ++ zs).toArray).ownsRow base 28 2 (.slice (some ⟨rb, 0, none⟩) k cap) k (fcells (l.take k)) := by
  subst hn
  have hl : (cur.toList.take (k * 2)).length = k * 2 := by rw [List.length_take, Array.length_toList, hcs]; omega
  refine ⟨by rw [fcells_length, List.length_take]; omega, .inr ⟨rb, cap, _, rfl, hb, setRow_heap w rb cur _ _ _ hg, by omega, hcm, ?_, ?_⟩⟩
  · simp only [List.size_toArray, List.length_append, hl, hz]; omega
  · rw [← fcells_take, ← ht, List.take_take]
    simp only
    rw [List.take_append_of_le_length (by omega), List.take_of_length_le (by omega)]
    congr 1
    omega

set_option maxRecDepth 100000 in
set_option maxHeartbeats 2000000 in
theorem delete_ok {w : World} {base : Nat} {v : Value} {l : List Fld} (h : w.ownsRow base 28 2 v l.length (fcells l)) (k : Nat) (hk : k ≤ l.length) : Calls Tryd.prog 56 #[v, .int .i64 (k : Int), .int .i64 (l.length : Int)] w fun e w' => ∃ v', e = .returned v' ∧ w'.ownsRow base 28 2 v' k (fcells (l.take k)) ∧ w.grownBy w' v.ownBlock ∧ v'.ownBlock = v.ownBlock := by
  rcases h.2 with ⟨rfl, hn⟩ | ⟨rb, cap, cur, rfl, hbase, hg, hnc, hcm, hcs, ht⟩
  · obtain rfl : l = [] := List.eq_nil_of_length_eq_zero hn
    obtain rfl : k = 0 := by simpa using hk
    clear h
    simp only [List.length_nil]
    go_enter Tryd.func56, Tryd.ntmps56
    go_wp2
    go_ret
    exact ⟨_, rfl, World.ownsRow_nil _ _ _ _, World.grownBy.refl _ _, rfl⟩
  · have hcm' := hcm
    unfold maxLen at hcm'
    by_cases hkl : k = l.length
    · subst hkl
      rw [List.take_length]
      have H := hid h
      clear h hg ht hcs
      generalize hx : fcells l = X at *
      clear hx
      go_enter Tryd.func56, Tryd.ntmps56
      go_wp2
      all_goals
        go_ret
        exact ⟨_, rfl, H.out, World.grownBy.refl _ _, rfl⟩
    · have hkl' : k < l.length := by omega
      have happ : ∀ (a : Option Addr) (c : Nat) (ty : TypeId) (W : World), (Builtin.append_ #[33, 33] ty #[.slice (some ⟨rb, 0, none⟩) k cap, .slice a 0 c]).run Tryd.prog W = .ok (.slice (some ⟨rb, 0, none⟩) k cap) W := fun a c ty W => append_none rb k cap a c ty (by omega) W
      have hkb : ((k : Int) == (l.length : Int)) = false := by simp; omega
      have hzl : (zfs (l.length - k) ++ cur.toList.drop (k * 2 + (l.length - k) * 2)).length = cap * 2 - k * 2 := by
        have h1 := zfs_length (l.length - k)
        have h2 : cur.toList.length = cap * 2 := by rw [Array.length_toList, hcs]
        rw [List.length_append, h1, List.length_drop, h2]; omega
      have HR : Hid ((w.drew.setRow rb (cur.toList.take (k * 2) ++ (zfs (l.length - k) ++ cur.toList.drop (k * 2 + (l.length - k) * 2))).toArray).ownsRow base 28 2 (.slice (some ⟨rb, 0, none⟩) k cap) k (fcells (l.take k))) :=
        row_head (w := w.drew) k hk hbase hg rfl hnc hcm hcs ht _ hzl
      clear h ht hkl hzl
      generalize l.length = n at *
      have hnk : 0 < n - k := by omega
      have hkc : k ≤ cap := by omega
      have hclr : ∀ (c : Nat) (ty : TypeId), (Builtin.clear_ #[33] ty #[.slice (some ⟨rb, k * 2, none⟩) (n - k) c]).run Tryd.prog w.drew = .ok (.tuple #[]) (w.drew.setRow rb (cur.toList.take (k * 2) ++ zfs (n - k) ++ cur.toList.drop (k * 2 + (n - k) * 2)).toArray) := fun c ty => clear_row rb k (n - k) c cur ty w.drew hnk hg (by omega)
      go_enter Tryd.func56, Tryd.ntmps56
      go_wp2
      go_region_law (refine step_append_run rfl (.tmp 22) (.tmp 25) 33 33 rfl (.slice (some ⟨rb, 0, none⟩) k cap) (.slice (if cap = n then some ⟨rb, 0, none⟩ else some ⟨rb, n * 2, none⟩) 0 (cap - n)) (by simp [Act.eval, Act.put]) (by simp [Act.eval, Act.put]) (happ _ _ _ _) ?_)
      clear happ
      go_wp2
      all_goals
        go_ret
        refine ⟨_, rfl, ?_, ⟨rfl, rfl, rfl, by simp [World.setRow], fun j _ hj => setRow_other w.drew rb j _ (fun e => hj (by simp [Value.ownBlock, e]))⟩, rfl⟩
      · have hcn : cap = n := by assumption
        subst hcn
        exact HR.out
      · exact HR.out
end Go.Proofs.YtlfkomdkimphnaaDoor
