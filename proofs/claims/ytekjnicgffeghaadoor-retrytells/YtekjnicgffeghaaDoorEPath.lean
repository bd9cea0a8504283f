/-
  Package fail's Path: the ops that are not empty, in new memory.
-/
import Derived.Test.YtekjnicgffeghaaDoorEHas
import Derived.OwnWalk
import Derived.Laws.AppendOwn
namespace Go.Proofs.YtekjnicgffeghaaDoor
open Go.RowKit Go.Extern.Stop Go.Stop Go.Extern

def strs (l : List ByteArray) : List Value := l.map Value.string
theorem infoS : (Tryd.prog.info? 9).map (fun i => (i.zero, i.size, i.bytes)) = some (some (.string ⟨#[]⟩), 1, 16) := by kernel_rfl
theorem Er.ops_le (t : Er) : t.ops.length ≤ t.deep := by
  induction t with
  | nil => simp [ops, deep]
  | pl => simp [ops, deep]
  | fl op c e ih => simp only [ops, deep]; split <;> simp <;> omega
theorem Er.under_ops (t : Er) (h : ∀ op c e, t ≠ .fl op c e) : t.under.ops = t.ops := by
  cases t with
  | fl op c e => exact absurd rfl (h op c e)
  | _ => rfl
theorem Er.under_deep (t : Er) (hn : t.isNil = false) : t.under.deep < t.deep := by cases t <;> simp_all [under, deep, isNil]

set_option maxRecDepth 100000 in
set_option maxHeartbeats 2000000 in
theorem path_ok (t : Er) (v : Value) (w : World) (hE : Err w v t) (hlen : t.deep ≤ 1000000) :
    Calls Tryd.prog 20 #[v] w fun e w' => ∃ v', e = .returned v' ∧ w'.ownsRow w.heap.size 9 1 v' t.ops.length (strs t.ops) ∧ Keeps nobody w w' := by
  have hA := fl_assert
  have hA3 := pl_assert
  obtain ⟨i9, hi9, hz9⟩ := Option.map_eq_some_iff.1 infoS
  simp only [Prod.mk.injEq] at hz9
  obtain ⟨hz0, hz1, hz2⟩ := hz9
  have hol := t.ops_le
  go_enter Tryd.func20, Tryd.ntmps20
  go_wp2_with fail
  go_loopg [3, 4] t.deep (fun k s next wr => ∃ t' done, k = t'.deep ∧ Err w next t' ∧ wr.ownsRow w.heap.size 9 1 s done.length (strs done) ∧ Keeps nobody w wr ∧ done ++ t'.ops = t.ops)
  case atStart => exact ⟨t, [], rfl, hE, World.ownsRow_nil _ _ _ _, Keeps.refl _ _, rfl⟩
  case round =>
    obtain ⟨t', done, hg, hE', hown, hB, hd⟩ := hrel
    cases hn : t'.isNil with
    | true =>
      cases hE' with
      | nil =>
        go_wp2_with fail
        go_ret
        have hd' : done = t.ops := by simpa [Er.ops] using hd
        exact ⟨_, rfl, by rw [← hd']; exact hown, hB⟩
      | _ => simp [Er.isNil] at hn
    | false =>
      have HO : Hid (∀ w1, Keeps nobody w w1 → Calls Tryd.prog 33 #[u4] w1 fun e w' => ∃ v', e = .returned v' ∧ Err w v' t'.under ∧ Keeps nobody w1 w') := fun w1 h1 => below_ok t' u4 w w1 hn hE' h1
      have hud := t'.under_deep hn
      have HD : Hid (done ++ t'.ops = t.ops ∧ gk = t'.deep ∧ done.length + t'.ops.length ≤ 1000000) := by
        have h1 := congrArg List.length hd
        simp only [List.length_append] at h1
        exact ⟨hd, hg, by omega⟩
      clear hd hg hol hlen hE
      by_cases hfl : ∃ op c e, t' = .fl op c e
      · obtain ⟨op, c, e, rfl⟩ := hfl
        cases hE' with
        | @fl b _ _ v' _ hb he =>
        have hbw : wr.heap[b]? = some (flObj op c v') := (hB.block b (lt_of_heap hb) id).trans hb
        have c0 := cells_of hbw 0 _ rfl
        clear hb hbw he
        cases hem : op.toList.isEmpty with
        | true =>
          go_wp2_with fail
          refine Calls.mono (HO.out wr hB) ?_
          rintro e1 w1 ⟨v1, rfl, hv1, hB1⟩
          go_wp2_with fail
          obtain ⟨hd, hg, _⟩ := HD.out
          go_roundg e.deep
          case measure => rw [hg]; simp [Er.deep]
          case rel => exact ⟨e, done, rfl, hv1, hB1.row hown (fun _ _ h => h), hB.then hB1, by rw [← hd]; simp [Er.ops, hem]⟩
        | false =>
          have hdl2 : done.length + 1 ≤ 1000000 := by
            have h3 := HD.out.2.2
            have : 1 ≤ (Er.ops (.fl op c e)).length := by simp [Er.ops, hem]
            omega
          have hge : ∀ g, u3.ownBlock = some g → w.heap.size ≤ g := by
            intro g hq
            rcases hown.2 with ⟨hv, _⟩ | ⟨g', cap, cur, hv, hbg, _⟩
            · rw [hv] at hq; simp [Value.ownBlock] at hq
            · rw [hv] at hq; simp [Value.ownBlock] at hq; omega
          have hsz := hB.size
          go_wp2_with (at_builtin; refine wpList_append_own _ rfl _ _ 42 rfl w.heap.size 9 i9 (.string ⟨#[]⟩) 1 16 Tryd.underlying42 hi9 hz0 hz1 hz2 rfl (by decide) _ _ _ rfl (hown.alloc _) ⟨wr.heap.size, 0, none⟩ 1 1 [.string op] rfl rfl ?c1 ?c2 ?c3 ?c4 ?c5 ?_)
          case c1 =>
            intro j u hj
            match j, hj with
            | 0, hj => simp at hj; subst hj; simp [Addr.add]
          case c2 => intro u hu; simp at hu; subst hu; rfl
          case c3 => unfold maxLen; omega
          case c4 => omega
          case c5 => simp; omega
          intro v2 w2 hown2 hgrow _
          have hB2 : Keeps nobody w w2 := (hB.alloc _).grown hgrow (fun k hk => .inr (hge k hk))
          clear hgrow hown hge
          go_wp2_with fail
          refine Calls.mono (HO.out w2 hB2) ?_
          rintro e1 w3 ⟨v1, rfl, hv1, hB3⟩
          go_wp2_with fail
          obtain ⟨hd, hg, _⟩ := HD.out
          go_roundg e.deep
          case measure => rw [hg]; simp [Er.deep]
          case rel =>
            refine ⟨e, done ++ [op], rfl, hv1, ?_, hB2.then hB3, by rw [← hd]; simp [Er.ops, hem]⟩
            have := hB3.row hown2 (fun _ _ h => h)
            simpa [strs] using this
      · have hops : t'.under.ops = t'.ops := t'.under_ops fun op c e h => hfl ⟨op, c, e, h⟩
        generalize t'.under = U at *
        cases hE' with
        | nil => simp [Er.isNil] at hn
        | @fl b op c v' e hb he => exact absurd ⟨op, c, e, rfl⟩ hfl
        | _ =>
          clear hfl
          go_wp2_with fail
          refine Calls.mono (HO.out wr hB) ?_
          rintro e1 w1 ⟨v1, rfl, hv1, hB1⟩
          go_wp2_with fail
          obtain ⟨hd, hg, _⟩ := HD.out
          go_roundg U.deep
          case measure => rw [hg]; exact hud
          case rel => exact ⟨U, done, rfl, hv1, hB1.row hown (fun _ _ h => h), hB.then hB1, by rw [← hd, ← hops]⟩
end Go.Proofs.YtekjnicgffeghaaDoor
