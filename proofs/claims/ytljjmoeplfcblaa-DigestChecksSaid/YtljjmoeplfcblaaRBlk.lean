/-
  The reference's Blocks and of, by their contracts.
-/
import Derived.Test.YtljjmoeplfcblaaRefB
import Derived.Test.YtljjmoeplfcblaaVerify
import Derived.Deep.AppendLies
namespace Go.Proofs.Ytljjmoeplfcblaa
open Go.RowKit Go.Shelf
attribute [local go_sem] get_mk extract_mk
theorem info79 : (Try.prog.info? 79).map (fun i => (i.zero, i.size, i.bytes)) = some (some (.agg #[.int .i64 0, .int .i64 0, .string ⟨#[]⟩]), 3, 32) := by kernel_rfl
/-- blocks without digests -/
def bare (l : List (Nat × Nat)) : List Nd := l.map fun x => ⟨x.1, x.2, []⟩
theorem bare_len (l : List (Nat × Nat)) : (bare l).length = l.length := by simp [bare]
def BRel (w : World) (i j : Nat) (z v : Value) (wr : World) : Prop :=
  ∃ (k : Nat) (D : List (Nat × Nat)), k ≤ max i j ∧ i ≤ k ∧ D.length ≤ k - i ∧ z = .int .i64 k ∧ D ++ blocks k j = blocks i j ∧ wr.ownsRow w.heap.size 79 3 v (bare D).length (ndcs (bare D)) ∧ w.grownBy wr none
theorem own_fresh {w : World} {base : Nat} {e : TypeId} {size : Nat} {v : Value} {n : Nat} {xs : List Value} (h : w.ownsRow base e size v n xs) (r : Nat) (hr : v.ownBlock = some r) : base ≤ r := by
  rcases h.2 with ⟨rfl, _⟩ | ⟨g, cap, cur, rfl, hb, _⟩
  · cases hr
  · cases hr; exact hb
theorem brel_step {w w8 w9 : World} {i j k s : Nat} {D : List (Nat × Nat)} {v v' : Value} (hk : k ≤ max i j) (hik : i ≤ k) (hDl : D.length ≤ k - i) (hlt : k < j) (hD : D ++ blocks k j = blocks i j)
    (hbd : 1 ≤ great k j ∧ great k j ≤ j - k) (hs : s = great k j) (hv : ∀ r, v.ownBlock = some r → w.heap.size ≤ r)
    (ho : w9.ownsRow w.heap.size 79 3 v' (D.length + 1) (ndcs (bare D) ++ [.int .i64 k, .int .i64 s, .string ⟨#[]⟩])) (hg : w.grownBy w8 none) (hg9 : w8.grownBy w9 v.ownBlock) :
    BRel w i j (.int .i64 (k + s)) v' w9 ∧ j - (intOf (.int .i64 ((k : Int) + s))).toNat < j - (intOf (.int .i64 k)).toNat := by
  refine ⟨⟨k + s, D ++ [(k, s)], by omega, by omega, by simp; omega, by simp, ?_, ?_, hg.andThen hg9 fun r e => .inl (hv r e)⟩, by simp [intOf]; omega⟩
  · rw [← hD, blocks_cons hlt, hs]; simp
  · rw [bare_len]
    have : ndcs (bare (D ++ [(k, s)])) = ndcs (bare D) ++ [.int .i64 k, .int .i64 s, .string ⟨#[]⟩] := by simp [bare, ndcs, ndc]
    rw [this]; simpa using ho
set_option maxRecDepth 100000 in
set_option maxHeartbeats 4000000 in
/-- the reference's Blocks -/
theorem blocks_r (i j : Nat) (hi : i ≤ 2199023255552) (hj : j ≤ 2199023255552) (w : World) :
    Calls Try.prog 52 #[.int .i64 i, .int .i64 j] w fun e w' => ∃ v, e = .returned v ∧ w'.ownsRow w.heap.size 79 3 v (bare (blocks i j)).length (ndcs (bare (blocks i j))) ∧ w.grownBy w' none := by
  obtain ⟨i0, hi0, hz0, hz1, hz2⟩ := info_parts info79
  go_enter Try.func52, Try.ntmps52
  go_wp2_with fail
  go_loopw [0, 5] (fun z v wr => BRel w i j z v wr) (fun z _ _ => j - (intOf z).toNat)
  case atStart => exact ⟨i, [], by omega, Nat.le_refl _, by simp, rfl, rfl, World.ownsRow_nil _ _ _ _, World.grownBy.refl _ _⟩
  case round =>
    obtain ⟨k, D, hk, hik, hDl, rfl, hD, ho, hg⟩ := hrel
    by_cases hlt : k < j
    · have hD2 := Lib.hid hD
      have hbd := great_bound hlt
      have Ho := Lib.hid ho
      have Hg := Lib.hid hg
      clear hD ho hg
      have hb0 := bare_len D
      obtain ⟨N, hN⟩ : ∃ N, (bare D).length = N := ⟨_, rfl⟩
      rw [hN] at hb0 Ho
      have HN := Lib.hid hN
      clear hN
      go_wp2_with fail
      go_loopw [6] (fun z wz => ∃ s f : Nat, z = .int .i64 s ∧ 1 ≤ s ∧ s ≤ j - k ∧ j - k < s + f ∧ gr f s k j = great k j ∧ wz = wr) (fun z _ => j - k + 1 - (intOf z).toNat)
      case atStart => exact ⟨1, j - k, rfl, Nat.le_refl _, by omega, by omega, rfl, rfl⟩
      case round =>
        obtain ⟨s, f, rfl, h1, h2, h3, h4, rfl⟩ := hrel
        by_cases hc : k % (2 * s) = 0 ∧ 2 * s ≤ j - k
        · obtain ⟨g, rfl, hg, hg2⟩ := gr_go hc h3 h1
          have H4 := Lib.hid (hg.symm.trans h4)
          have c1 : ((k : Int) % (2 * (s : Int)) == 0) = true := by rw [mod_cast2, hc.1]; rfl
          have c2 : (k : Int) + 2 * (s : Int) ≤ (j : Int) := by omega
          clear hg h4 hc
          go_wp2_with fail
          go_roundw
          case rel => exact ⟨2 * s, g, by rw [ret_i64]; omega, by omega, by omega, by omega, H4.out, trivial⟩
          case measure => simp [intOf]; omega
        · have hs := Lib.hid ((gr_stop hc f).symm.trans h4)
          clear h4
          by_cases hm : k % (2 * s) = 0
          · have c1 : ((k : Int) % (2 * (s : Int)) == 0) = true := by rw [mod_cast2, hm]; rfl
            have c2 : decide ((k : Int) + 2 * (s : Int) ≤ (j : Int)) = false := by
              rw [decide_eq_false_iff_not]; have : ¬ 2 * s ≤ j - k := fun h => hc ⟨hm, h⟩; omega
            clear hc hm
            go_wp2_with (at_builtin; refine wpList_append_lies _ rfl _ _ 67 rfl w.heap.size 79 i0 _ 3 32 Try.underlying67 hi0 hz0 hz1 hz2 rfl (by omega) _ N _ rfl ((Ho.out.alloc _).drew) ⟨wr.heap.size, 0, none⟩ 1 1 [.int .i64 k, .int .i64 s, .string ⟨#[]⟩] rfl rfl (World.news_of_block (cs := #[.int .i64 k, .int .i64 s, .string ⟨#[]⟩]) (t := 79) (fr := (0, 0)) (heap_alloc_new wr _)) (by intro u hu; simp at hu; rcases hu with rfl | rfl | rfl <;> rfl) (by omega) (by simp only [maxLen]; omega) (by omega) (by have := Hg.out.size; simp; omega) _ rfl ?_; intro gg cap w9 hown9 hgrow9 hat9 hlt9)
            clear hat9 hlt9
            have HG := Hg.out.trans (World.grownBy_alloc wr (.cells #[.int .i64 k, .int .i64 s, .string ⟨#[]⟩] 79) none)
            exact brel_step hk hik hDl hlt hD2.out hbd hs.out (own_fresh Ho.out) (by rw [← hb0]; exact hown9) HG hgrow9
          · have c1 : ((k : Int) % (2 * (s : Int)) == 0) = false := by
              rw [mod_cast2, beq_eq_false_iff_ne]; omega
            clear hc hm
            go_wp2_with (at_builtin; refine wpList_append_lies _ rfl _ _ 67 rfl w.heap.size 79 i0 _ 3 32 Try.underlying67 hi0 hz0 hz1 hz2 rfl (by omega) _ N _ rfl ((Ho.out.alloc _).drew) ⟨wr.heap.size, 0, none⟩ 1 1 [.int .i64 k, .int .i64 s, .string ⟨#[]⟩] rfl rfl (World.news_of_block (cs := #[.int .i64 k, .int .i64 s, .string ⟨#[]⟩]) (t := 79) (fr := (0, 0)) (heap_alloc_new wr _)) (by intro u hu; simp at hu; rcases hu with rfl | rfl | rfl <;> rfl) (by omega) (by simp only [maxLen]; omega) (by omega) (by have := Hg.out.size; simp; omega) _ rfl ?_; intro gg cap w9 hown9 hgrow9 hat9 hlt9)
            clear hat9 hlt9
            have HG := Hg.out.trans (World.grownBy_alloc wr (.cells #[.int .i64 k, .int .i64 s, .string ⟨#[]⟩] 79) none)
            exact brel_step hk hik hDl hlt hD2.out hbd hs.out (own_fresh Ho.out) (by rw [← hb0]; exact hown9) HG hgrow9
    · have hn : blocks k j = [] := blocks_nil hlt
      rw [hn, List.append_nil] at hD
      subst hD
      have Ho := Lib.hid ho
      clear ho hn
      go_wp2_with fail
      go_ret
      exact ⟨_, rfl, Ho.out, hg⟩
end Go.Proofs.Ytljjmoeplfcblaa
