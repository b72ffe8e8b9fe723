/-
  Parse of the program, by its contract.
-/
import Derived.Test.YtekhdcfnpgkodaaDoorText
namespace Go.Proofs.YtekhdcfnpgkodaaDoor
open Go.RowKit
attribute [local go_sem] get_mk extract_mk
theorem cut_len (s : List UInt8) : (Lib.cut s [47]).1.length ≤ s.length ∧ (Lib.cut s [47]).2.1.length ≤ s.length := by
  unfold Lib.cut
  split
  · constructor
    · simp only [List.length_take]; omega
    · simp only [List.length_drop]; omega
  · simp
/-- a zero ratio's block, and what Parse gives beside it -/
def parV (n d : Int) (b : Bool) : Value := .tuple #[.agg #[.int .i64 n, .int .i64 d], .bool b]
set_option maxRecDepth 100000 in
set_option maxHeartbeats 1000000 in
theorem parse_a (s top bot : List UInt8) (dv : Bool) (hc : Lib.cut s [47] = (top, bot, dv)) (hs : s.length ≤ 4294967280) (hn : numO top = none) (w : World) (hb : Base w) :
    Calls Tryd.prog 25 #[.string ⟨s.toArray⟩] w fun e w' => e = .returned (.tuple #[.agg #[.int .i64 0, .int .i64 0], .bool false]) ∧ w.grownBy w' none := by
  obtain ⟨l1, l2⟩ := cut_len s
  rw [hc] at l1 l2
  change top.length ≤ s.length at l1
  change bot.length ≤ s.length at l2
  have Kc := Lib.hid (cut_k s (by omega))
  rw [hc] at Kc
  have HB := Lib.hid hb
  have R := R2.new w 0 0
  have gg := World.grownBy_alloc w (.cells #[.int .i64 0, .int .i64 0] 24) none
  have hb1 := HB.out.none_ gg
  clear hb hc
  have Ka := Lib.hid (atoi_no top (by omega) hn)
  clear hn
  cases dv
  · go_enter Tryd.func25, Tryd.ntmps25
    go_wp2_with fail
    refine (Kc.out _ hb1).mono ?_
    rintro e w1 ⟨rfl, g⟩
    have R := R.kept g
    have gg := gg.trans g
    have hb1 := HB.out.none_ gg
    clear g
    have c0 := R.c0
    have c1 := R.c1
    have f0 := R.f0
    have f1 := R.f1
    have rl := R.lt
    go_wp2_with fail
    refine (Ka.out _ hb1).mono ?_
    rintro e w2 ⟨v, N, rfl, g⟩
    have R := R.kept g
    have gg := gg.trans g
    have hb1 := HB.out.none_ gg
    clear g c0 c1 f0 f1 rl
    have c0 := R.c0
    have c1 := R.c1
    have f0 := R.f0
    have f1 := R.f1
    have rl := R.lt
    go_wp2_with fail
    have R := R.set 0 0
    exact bodyPost_ret (v := .tuple #[.agg #[.int .i64 0, .int .i64 0], .bool false]) (by simp [results, Tryd.results25, go_sem, R.c0, R.c1]) rfl ⟨rfl, by
      (repeat (first | refine grown_set ?_ (.inl (by first | omega | simp)) | refine grown_al ?_ | refine grown_dn ?_)); exact gg⟩
  · go_enter Tryd.func25, Tryd.ntmps25
    go_wp2_with fail
    refine (Kc.out _ hb1).mono ?_
    rintro e w1 ⟨rfl, g⟩
    have R := R.kept g
    have gg := gg.trans g
    have hb1 := HB.out.none_ gg
    clear g
    have c0 := R.c0
    have c1 := R.c1
    have f0 := R.f0
    have f1 := R.f1
    have rl := R.lt
    go_wp2_with fail
    refine (Ka.out _ hb1).mono ?_
    rintro e w2 ⟨v, N, rfl, g⟩
    have R := R.kept g
    have gg := gg.trans g
    have hb1 := HB.out.none_ gg
    clear g c0 c1 f0 f1 rl
    have c0 := R.c0
    have c1 := R.c1
    have f0 := R.f0
    have f1 := R.f1
    have rl := R.lt
    go_wp2_with fail
    have R := R.set 0 0
    exact bodyPost_ret (v := .tuple #[.agg #[.int .i64 0, .int .i64 0], .bool false]) (by simp [results, Tryd.results25, go_sem, R.c0, R.c1]) rfl ⟨rfl, by
      (repeat (first | refine grown_set ?_ (.inl (by first | omega | simp)) | refine grown_al ?_ | refine grown_dn ?_)); exact gg⟩
set_option maxRecDepth 100000 in
set_option maxHeartbeats 1000000 in
theorem parse_b (s top bot : List UInt8) (dv : Bool) (hc : Lib.cut s [47] = (top, bot, dv)) (hs : s.length ≤ 4294967280) (n : Int) (hn : numO top = some n) (hd : numO (if dv then bot else [49]) = none) (w : World) (hb : Base w) :
    Calls Tryd.prog 25 #[.string ⟨s.toArray⟩] w fun e w' => e = .returned (.tuple #[.agg #[.int .i64 0, .int .i64 0], .bool false]) ∧ w.grownBy w' none := by
  obtain ⟨l1, l2⟩ := cut_len s
  rw [hc] at l1 l2
  change top.length ≤ s.length at l1
  change bot.length ≤ s.length at l2
  have Kc := Lib.hid (cut_k s (by omega))
  rw [hc] at Kc
  have HB := Lib.hid hb
  have R := R2.new w 0 0
  have gg := World.grownBy_alloc w (.cells #[.int .i64 0, .int .i64 0] 24) none
  have hb1 := HB.out.none_ gg
  clear hb hc
  have Ka := Lib.hid (fun w (_ : Base w) => atoi_k top (by omega) n hn w)
  clear hn
  cases dv
  · exact absurd (show numO [49] = none from hd) (by decide +kernel)
  · have Kb := Lib.hid (atoi_no bot (by omega) (by simpa using hd))
    clear hd
    go_enter Tryd.func25, Tryd.ntmps25
    go_wp2_with fail
    refine (Kc.out _ hb1).mono ?_
    rintro e w1 ⟨rfl, g⟩
    have R := R.kept g
    have gg := gg.trans g
    have hb1 := HB.out.none_ gg
    clear g
    have c0 := R.c0
    have c1 := R.c1
    have f0 := R.f0
    have f1 := R.f1
    have rl := R.lt
    go_wp2_with fail
    refine (Ka.out _ hb1).mono ?_
    rintro e w2 ⟨rfl, g⟩
    have R := R.kept g
    have gg := gg.trans g
    have hb1 := HB.out.none_ gg
    clear g c0 c1 f0 f1 rl
    have c0 := R.c0
    have c1 := R.c1
    have f0 := R.f0
    have f1 := R.f1
    have rl := R.lt
    go_wp2_with fail
    refine (Kb.out _ hb1).mono ?_
    rintro e w3 ⟨v, N, rfl, g⟩
    have R := R.kept g
    have gg := gg.trans g
    have hb1 := HB.out.none_ gg
    clear g c0 c1 f0 f1 rl
    have c0 := R.c0
    have c1 := R.c1
    have f0 := R.f0
    have f1 := R.f1
    have rl := R.lt
    go_wp2_with fail
    have R := R.set 0 0
    exact bodyPost_ret (v := .tuple #[.agg #[.int .i64 0, .int .i64 0], .bool false]) (by simp [results, Tryd.results25, go_sem, R.c0, R.c1]) rfl ⟨rfl, by
      (repeat (first | refine grown_set ?_ (.inl (by first | omega | simp)) | refine grown_al ?_ | refine grown_dn ?_)); exact gg⟩
set_option maxRecDepth 100000 in
set_option maxHeartbeats 1000000 in
theorem parse_c (s top bot : List UInt8) (dv : Bool) (hc : Lib.cut s [47] = (top, bot, dv)) (hs : s.length ≤ 4294967280) (n d : Int) (hn : numO top = some n) (hd : numO (if dv then bot else [49]) = some d) (ht : textV n d = s) (w : World) (hb : Base w) :
    Calls Tryd.prog 25 #[.string ⟨s.toArray⟩] w fun e w' => e = .returned (.tuple #[.agg #[.int .i64 n, .int .i64 d], .bool true]) ∧ w.grownBy w' none := by
  obtain ⟨l1, l2⟩ := cut_len s
  rw [hc] at l1 l2
  change top.length ≤ s.length at l1
  change bot.length ≤ s.length at l2
  have Kc := Lib.hid (cut_k s (by omega))
  rw [hc] at Kc
  have HB := Lib.hid hb
  have R := R2.new w 0 0
  have gg := World.grownBy_alloc w (.cells #[.int .i64 0, .int .i64 0] 24) none
  have hb1 := HB.out.none_ gg
  clear hb hc
  subst ht
  have Ka := Lib.hid (fun w (_ : Base w) => atoi_k top (by omega) n hn w)
  have Kt := Lib.hid (text_k n d (numO_i64 hn) (numO_i64 hd))
  cases dv
  · have Kb := Lib.hid (fun w (_ : Base w) => atoi_k [49] (by decide) d (by simpa using hd) w)
    clear hn hd
    go_enter Tryd.func25, Tryd.ntmps25
    go_wp2_with fail
    refine (Kc.out _ hb1).mono ?_
    rintro e w1 ⟨rfl, g⟩
    have R := R.kept g
    have gg := gg.trans g
    have hb1 := HB.out.none_ gg
    clear g
    have c0 := R.c0
    have c1 := R.c1
    have f0 := R.f0
    have f1 := R.f1
    have rl := R.lt
    go_wp2_with fail
    refine (Ka.out _ hb1).mono ?_
    rintro e w2 ⟨rfl, g⟩
    have R := R.kept g
    have gg := gg.trans g
    have hb1 := HB.out.none_ gg
    clear g c0 c1 f0 f1 rl
    have c0 := R.c0
    have c1 := R.c1
    have f0 := R.f0
    have f1 := R.f1
    have rl := R.lt
    go_wp2_with fail
    refine (Kb.out _ hb1).mono ?_
    rintro e w3 ⟨rfl, g⟩
    have R := R.kept g
    have gg := gg.trans g
    have hb1 := HB.out.none_ gg
    clear g c0 c1 f0 f1 rl
    have c0 := R.c0
    have c1 := R.c1
    have f0 := R.f0
    have f1 := R.f1
    have rl := R.lt
    go_wp2_with fail
    have Ry := R2.new w3 n d
    have gy := World.grownBy_alloc w3 (.cells #[.int .i64 n, .int .i64 d] 24) none
    have hby := HB.out.none_ (gg.trans gy)
    refine (Kt.out _ hby).mono ?_
    rintro e w4 ⟨rfl, g⟩
    have Ry := Ry.kept g
    have R := R.kept (gy.trans g)
    have gg := gg.trans (gy.trans g)
    clear g gy c0 c1 f0 f1 hby hb1
    have c0 := R.c0
    have c1 := R.c1
    have f0 := R.f0
    have f1 := R.f1
    have y0 := Ry.c0
    have y1 := Ry.c1
    have rl2 := R.lt
    have rl3 := Ry.lt
    have ne1 : w3.heap.size ≠ w.heap.size := by omega
    have ne2 : w.heap.size ≠ w3.heap.size := by omega
    go_wp2_with fail
    have R := R.set n d
    exact bodyPost_ret (v := .tuple #[.agg #[.int .i64 n, .int .i64 d], .bool true]) (by simp [results, Tryd.results25, go_sem, R.c0, R.c1]) rfl ⟨rfl, by
      (repeat (first | refine grown_set ?_ (.inl (by first | omega | simp)) | refine grown_al ?_ | refine grown_dn ?_)); exact gg⟩
  · have Kb := Lib.hid (fun w (_ : Base w) => atoi_k bot (by omega) d (by simpa using hd) w)
    clear hn hd
    go_enter Tryd.func25, Tryd.ntmps25
    go_wp2_with fail
    refine (Kc.out _ hb1).mono ?_
    rintro e w1 ⟨rfl, g⟩
    have R := R.kept g
    have gg := gg.trans g
    have hb1 := HB.out.none_ gg
    clear g
    have c0 := R.c0
    have c1 := R.c1
    have f0 := R.f0
    have f1 := R.f1
    have rl := R.lt
    go_wp2_with fail
    refine (Ka.out _ hb1).mono ?_
    rintro e w2 ⟨rfl, g⟩
    have R := R.kept g
    have gg := gg.trans g
    have hb1 := HB.out.none_ gg
    clear g c0 c1 f0 f1 rl
    have c0 := R.c0
    have c1 := R.c1
    have f0 := R.f0
    have f1 := R.f1
    have rl := R.lt
    go_wp2_with fail
    refine (Kb.out _ hb1).mono ?_
    rintro e w3 ⟨rfl, g⟩
    have R := R.kept g
    have gg := gg.trans g
    have hb1 := HB.out.none_ gg
    clear g c0 c1 f0 f1 rl
    have c0 := R.c0
    have c1 := R.c1
    have f0 := R.f0
    have f1 := R.f1
    have rl := R.lt
    go_wp2_with fail
    have Ry := R2.new w3 n d
    have gy := World.grownBy_alloc w3 (.cells #[.int .i64 n, .int .i64 d] 24) none
    have hby := HB.out.none_ (gg.trans gy)
    refine (Kt.out _ hby).mono ?_
    rintro e w4 ⟨rfl, g⟩
    have Ry := Ry.kept g
    have R := R.kept (gy.trans g)
    have gg := gg.trans (gy.trans g)
    clear g gy c0 c1 f0 f1 hby hb1
    have c0 := R.c0
    have c1 := R.c1
    have f0 := R.f0
    have f1 := R.f1
    have y0 := Ry.c0
    have y1 := Ry.c1
    have rl2 := R.lt
    have rl3 := Ry.lt
    have ne1 : w3.heap.size ≠ w.heap.size := by omega
    have ne2 : w.heap.size ≠ w3.heap.size := by omega
    go_wp2_with fail
    have R := R.set n d
    exact bodyPost_ret (v := .tuple #[.agg #[.int .i64 n, .int .i64 d], .bool true]) (by simp [results, Tryd.results25, go_sem, R.c0, R.c1]) rfl ⟨rfl, by
      (repeat (first | refine grown_set ?_ (.inl (by first | omega | simp)) | refine grown_al ?_ | refine grown_dn ?_)); exact gg⟩
set_option maxRecDepth 100000 in
set_option maxHeartbeats 1000000 in
theorem parse_d (s top bot : List UInt8) (dv : Bool) (hc : Lib.cut s [47] = (top, bot, dv)) (hs : s.length ≤ 4294967280) (n d : Int) (hn : numO top = some n) (hd : numO (if dv then bot else [49]) = some d) (ht : textV n d ≠ s) (w : World) (hb : Base w) :
    Calls Tryd.prog 25 #[.string ⟨s.toArray⟩] w fun e w' => e = .returned (.tuple #[.agg #[.int .i64 0, .int .i64 0], .bool false]) ∧ w.grownBy w' none := by
  obtain ⟨l1, l2⟩ := cut_len s
  rw [hc] at l1 l2
  change top.length ≤ s.length at l1
  change bot.length ≤ s.length at l2
  have Kc := Lib.hid (cut_k s (by omega))
  rw [hc] at Kc
  have HB := Lib.hid hb
  have R := R2.new w 0 0
  have gg := World.grownBy_alloc w (.cells #[.int .i64 0, .int .i64 0] 24) none
  have hb1 := HB.out.none_ gg
  clear hb hc
  have HT : (textV n d == s) = false := by simpa using ht
  clear ht
  have Ka := Lib.hid (fun w (_ : Base w) => atoi_k top (by omega) n hn w)
  have Kt := Lib.hid (text_k n d (numO_i64 hn) (numO_i64 hd))
  cases dv
  · have Kb := Lib.hid (fun w (_ : Base w) => atoi_k [49] (by decide) d (by simpa using hd) w)
    clear hn hd
    go_enter Tryd.func25, Tryd.ntmps25
    go_wp2_with fail
    refine (Kc.out _ hb1).mono ?_
    rintro e w1 ⟨rfl, g⟩
    have R := R.kept g
    have gg := gg.trans g
    have hb1 := HB.out.none_ gg
    clear g
    have c0 := R.c0
    have c1 := R.c1
    have f0 := R.f0
    have f1 := R.f1
    have rl := R.lt
    go_wp2_with fail
    refine (Ka.out _ hb1).mono ?_
    rintro e w2 ⟨rfl, g⟩
    have R := R.kept g
    have gg := gg.trans g
    have hb1 := HB.out.none_ gg
    clear g c0 c1 f0 f1 rl
    have c0 := R.c0
    have c1 := R.c1
    have f0 := R.f0
    have f1 := R.f1
    have rl := R.lt
    go_wp2_with fail
    refine (Kb.out _ hb1).mono ?_
    rintro e w3 ⟨rfl, g⟩
    have R := R.kept g
    have gg := gg.trans g
    have hb1 := HB.out.none_ gg
    clear g c0 c1 f0 f1 rl
    have c0 := R.c0
    have c1 := R.c1
    have f0 := R.f0
    have f1 := R.f1
    have rl := R.lt
    go_wp2_with fail
    have Ry := R2.new w3 n d
    have gy := World.grownBy_alloc w3 (.cells #[.int .i64 n, .int .i64 d] 24) none
    have hby := HB.out.none_ (gg.trans gy)
    refine (Kt.out _ hby).mono ?_
    rintro e w4 ⟨rfl, g⟩
    have Ry := Ry.kept g
    have R := R.kept (gy.trans g)
    have gg := gg.trans (gy.trans g)
    clear g gy c0 c1 f0 f1 hby hb1
    have c0 := R.c0
    have c1 := R.c1
    have f0 := R.f0
    have f1 := R.f1
    have y0 := Ry.c0
    have y1 := Ry.c1
    have rl2 := R.lt
    have rl3 := Ry.lt
    have ne1 : w3.heap.size ≠ w.heap.size := by omega
    have ne2 : w.heap.size ≠ w3.heap.size := by omega
    go_wp2_with fail
    have R := R.set 0 0
    exact bodyPost_ret (v := .tuple #[.agg #[.int .i64 0, .int .i64 0], .bool false]) (by simp [results, Tryd.results25, go_sem, R.c0, R.c1]) rfl ⟨rfl, by
      (repeat (first | refine grown_set ?_ (.inl (by first | omega | simp)) | refine grown_al ?_ | refine grown_dn ?_)); exact gg⟩
  · have Kb := Lib.hid (fun w (_ : Base w) => atoi_k bot (by omega) d (by simpa using hd) w)
    clear hn hd
    go_enter Tryd.func25, Tryd.ntmps25
    go_wp2_with fail
    refine (Kc.out _ hb1).mono ?_
    rintro e w1 ⟨rfl, g⟩
    have R := R.kept g
    have gg := gg.trans g
    have hb1 := HB.out.none_ gg
    clear g
    have c0 := R.c0
    have c1 := R.c1
    have f0 := R.f0
    have f1 := R.f1
    have rl := R.lt
    go_wp2_with fail
    refine (Ka.out _ hb1).mono ?_
    rintro e w2 ⟨rfl, g⟩
    have R := R.kept g
    have gg := gg.trans g
    have hb1 := HB.out.none_ gg
    clear g c0 c1 f0 f1 rl
    have c0 := R.c0
    have c1 := R.c1
    have f0 := R.f0
    have f1 := R.f1
    have rl := R.lt
    go_wp2_with fail
    refine (Kb.out _ hb1).mono ?_
    rintro e w3 ⟨rfl, g⟩
    have R := R.kept g
    have gg := gg.trans g
    have hb1 := HB.out.none_ gg
    clear g c0 c1 f0 f1 rl
    have c0 := R.c0
    have c1 := R.c1
    have f0 := R.f0
    have f1 := R.f1
    have rl := R.lt
    go_wp2_with fail
    have Ry := R2.new w3 n d
    have gy := World.grownBy_alloc w3 (.cells #[.int .i64 n, .int .i64 d] 24) none
    have hby := HB.out.none_ (gg.trans gy)
    refine (Kt.out _ hby).mono ?_
    rintro e w4 ⟨rfl, g⟩
    have Ry := Ry.kept g
    have R := R.kept (gy.trans g)
    have gg := gg.trans (gy.trans g)
    clear g gy c0 c1 f0 f1 hby hb1
    have c0 := R.c0
    have c1 := R.c1
    have f0 := R.f0
    have f1 := R.f1
    have y0 := Ry.c0
    have y1 := Ry.c1
    have rl2 := R.lt
    have rl3 := Ry.lt
    have ne1 : w3.heap.size ≠ w.heap.size := by omega
    have ne2 : w.heap.size ≠ w3.heap.size := by omega
    go_wp2_with fail
    have R := R.set 0 0
    exact bodyPost_ret (v := .tuple #[.agg #[.int .i64 0, .int .i64 0], .bool false]) (by simp [results, Tryd.results25, go_sem, R.c0, R.c1]) rfl ⟨rfl, by
      (repeat (first | refine grown_set ?_ (.inl (by first | omega | simp)) | refine grown_al ?_ | refine grown_dn ?_)); exact gg⟩
theorem textV_ne {n d : Int} {s : List UInt8} (h : textV n d = s) (hs : s ≠ []) : rightB n d = true ∧ textL n d = s := by
  unfold textV at h
  split at h
  · rename_i hr; exact ⟨hr, h⟩
  · exact absurd h.symm hs
theorem textV_right {n d : Int} (h : rightB n d = true) : textV n d = textL n d := by unfold textV; rw [if_pos h]
theorem parse_k (s : List UInt8) (hs : s.length ≤ 4294967280) (w : World) (hb : Base w) :
    Calls Tryd.prog 25 #[.string ⟨s.toArray⟩] w fun e w' => e = .returned (.tuple #[.agg #[.int .i64 (parN s), .int .i64 (parD s)], .bool (parB s)]) ∧ w.grownBy w' none := by
  have none_ : parO s = none → parN s = 0 ∧ parD s = 0 ∧ parB s = false := fun h => by unfold parN parD parB; rw [h]; exact ⟨rfl, rfl, rfl⟩
  have some_ : ∀ n d, parO s = some (n, d) → parN s = n ∧ parD s = d ∧ parB s = true := fun n d h => by unfold parN parD parB; rw [h]; exact ⟨rfl, rfl, rfl⟩
  obtain ⟨top, bot, dv, hc⟩ : ∃ top bot dv, Lib.cut s [47] = (top, bot, dv) := ⟨_, _, _, rfl⟩
  have hbot : botL s = if dv then bot else [49] := by unfold botL; rw [hc]
  cases hn : numO top with
  | none =>
    have h : parO s = none := by unfold parO; rw [hc]; simp only; rw [hn]
    obtain ⟨e1, e2, e3⟩ := none_ h
    rw [e1, e2, e3]
    exact parse_a s top bot dv hc hs hn w hb
  | some n =>
    cases hd : numO (if dv then bot else [49]) with
    | none =>
      have h : parO s = none := by unfold parO; rw [hc, hbot]; simp only; rw [hn]; simp only; rw [hd]
      obtain ⟨e1, e2, e3⟩ := none_ h
      rw [e1, e2, e3]
      exact parse_b s top bot dv hc hs n hn hd w hb
    | some d =>
      have hp : parO s = if rightB n d = true ∧ textL n d = s then some (n, d) else none := by unfold parO; rw [hc, hbot]; simp only; rw [hn]; simp only; rw [hd]
      by_cases ht : textV n d = s
      · have hne : s ≠ [] := by
          rintro rfl
          have : Lib.cut [] [47] = ([], [], false) := cut_no (by simp)
          rw [this] at hc
          cases hc
          rw [show numO [] = none from by decide +kernel] at hn; cases hn
        have h := textV_ne ht hne
        obtain ⟨e1, e2, e3⟩ := some_ n d (hp.trans (if_pos h))
        rw [e1, e2, e3]
        exact parse_c s top bot dv hc hs n d hn hd ht w hb
      · obtain ⟨e1, e2, e3⟩ := none_ (hp.trans (if_neg (fun h => ht ((textV_right h.1).trans h.2))))
        rw [e1, e2, e3]
        exact parse_d s top bot dv hc hs n d hn hd ht w hb
end Go.Proofs.YtekhdcfnpgkodaaDoor
