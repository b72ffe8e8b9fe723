/-
  The reference's Led, by its contract.
-/
import Derived.Test.YtljjmoeplfcblaaRProve
import Derived.Test.YtljjmoeplfcblaaVerify
import Derived.Test.YtljjmoeplfcblaaRefE
namespace Go.Proofs.Ytljjmoeplfcblaa
open Go.RowKit Go.Shelf
attribute [local go_sem] get_mk extract_mk
theorem nodes_take : ∀ (bs : List (Nat × Nat)) (ds : List Str), nodes bs (ds.take bs.length) = nodes bs ds
  | [], _ => rfl
  | _ :: _, [] => rfl
  | b :: bs, d :: ds => by simp [nodes, nodes_take bs ds]
theorem leafs_len : ∀ (l : List Str) (i : Nat), (leafs i l).length = l.length
  | [], _ => rfl
  | a :: l, i => by simp [leafs, leafs_len l (i + 1)]
theorem leafs_d8 : ∀ (l : List Str) (i : Nat), d8 (leafs i l)
  | [], _ => fun _ h => by cases h
  | a :: l, i => fun y hy => by
    rcases List.mem_cons.1 hy with rfl | hy
    · exact Nat.le_of_eq (leafD_len _)
    · exact leafs_d8 l (i + 1) y hy
theorem d8_app {a b : List Nd} (ha : d8 a) (hb : d8 b) : d8 (a ++ b) := fun y hy => by
  rcases List.mem_append.1 hy with h | h
  · exact ha y h
  · exact hb y h
theorem ndcs_app (a b : List Nd) : ndcs (a ++ b) = ndcs a ++ ndcs b := by simp [ndcs]
theorem ledN_chained (n i : Nat) (LL PL : List Str) (hn : i + LL.length ≤ n) (hP : PL.length = (blocks 0 i).length + (blocks (i + LL.length) n).length) : chained (ledN n i LL PL) 0 n :=
  chained_app _ _ 0 (i + LL.length) _ (chained_app _ _ 0 i _ (nodes_chained i i 0 _ (by omega) (by omega) (by rw [List.length_take]; omega)) (leafs_chained LL i)) (nodes_chained n n (i + LL.length) _ (Nat.sub_le _ _) hn (by rw [List.length_drop]; omega))
theorem all8_le {l : List Str} (h : all8 l = true) : ∀ s ∈ l, s.length ≤ 8 := fun s hs => by
  have := List.all_eq_true.1 h s hs
  simp at this
  omega
theorem ledN_d8 (n i : Nat) (LL PL : List Str) (h : ∀ s ∈ PL, s.length ≤ 8) : d8 (ledN n i LL PL) :=
  d8_app (d8_app (nodes_d8 _ _ fun s hs => h s (List.mem_of_mem_take hs)) (leafs_d8 _ _)) (nodes_d8 _ _ fun s hs => h s (List.mem_of_mem_drop hs))
/-- what Led returns besides whether it fits -/
def ledS (n i : Int) (LL PL : List Str) : Str := if fitsB n i LL PL then led n i LL PL else []
def LRel (w : World) (base : Nat) (S1 : List Nd) (i : Nat) (LL : List Str) (v z : Value) (wr : World) : Prop :=
  ∃ k : Nat, k ≤ LL.length ∧ z = .int .i64 k ∧ wr.ownsRow base 79 3 v (S1.length + k) (ndcs (S1 ++ leafs i (LL.take k))) ∧ w.grownBy wr none
theorem lrel_next {w w9 : World} {base k i : Nat} {S1 : List Nd} {LL : List Str} {x : Str} {v : Value} (hx : LL[k]? = some x) (ho : w9.ownsRow base 79 3 v (S1.length + k + 1) (ndcs (S1 ++ leafs i (LL.take k)) ++ [.int .i64 ((i + k : Nat) : Int), .int .i64 ((1 : Nat) : Int), .string ⟨(leafD x).toArray⟩])) (hg : w.grownBy w9 none) :
    LRel w base S1 i LL v (.int .i64 ((k : Int) + 1)) w9 := by
  have hlt := (List.getElem?_eq_some_iff.1 hx).1
  refine ⟨k + 1, by omega, by simp, ?_, hg⟩
  rw [take_one LL k x hx, leafs_snoc, List.length_take, Nat.min_eq_left (by omega), ← List.append_assoc, ndcs_snoc]
  simpa [ndc, Nat.add_assoc] using ho
theorem wp_append_nds {o : Oper} {a : Act} {K : Act → World → Prop} {Q : Exit → Act → World → Prop} (w : World) (s x : Operand)
    (ho : o.op = .call { callee := .builtin .append, args := #[s, x], argTypes := #[67, 67] }) (base : Nat) (v : Value) (L : List Nd) (hs : a.eval s = v) (hown : w.ownsRow base 79 3 v L.length (ndcs L))
    (b2 : Nat) (u : Value) (M : List Nd) (hx : a.eval x = u) (hm : w.ownsRow b2 79 3 u M.length (ndcs M)) (hb : L.length + M.length ≤ 4398046511104) (hbase : base ≤ w.heap.size)
    (h : ∀ v' w', w'.ownsRow base 79 3 v' (L ++ M).length (ndcs (L ++ M)) → w.grownBy w' v.ownBlock → K (a.put o.dst v') w') :
    Oper.wp Try.prog o a w K Q := by
  obtain ⟨i0, hi0, hz0, hz1, hz2⟩ := info_parts info79
  rcases hm.2 with ⟨rfl, h0⟩ | ⟨g, cap, cur, rfl, _, hg, h1, h2, h3, h4⟩
  · obtain rfl : M = [] := List.eq_nil_of_length_eq_zero h0
    rw [List.append_nil] at h
    have hrun := run_append_owned_none (P := Try.prog) (w := w) base 67 o.type 79 i0 3 Try.underlying67 hi0 v L.length _ hown
    unfold Oper.wp
    simp [execOp, ho, resolve, invoke, builtin, hs, hx, hrun, Result.andThen]
    exact h v w hown (World.grownBy.refl _ _)
  · have hnews : ∀ j u, (ndcs M)[j]? = some u → w.cell? ((⟨g, 0, none⟩ : Addr).add j) = some u := fun j u hu => by
      have e : (⟨g, 0, none⟩ : Addr).add j = ⟨g, j, none⟩ := by unfold Addr.add; split <;> simp_all
      rw [e]
      rw [← h4, List.getElem?_take] at hu
      split at hu
      · simpa [World.cell?, hg] using hu
      · cases hu
    have hone : ∀ u ∈ ndcs M, u.oneCell' = true := fun u hu => by
      obtain ⟨y, _, hy⟩ := List.mem_flatMap.1 hu
      simp [ndc] at hy
      rcases hy with rfl | rfl | rfl <;> rfl
    obtain ⟨v', w', hr, k2, k3, _, _⟩ := run_append_own_at (P := Try.prog) w base 67 o.type 79 i0 _ 3 32 Try.underlying67 hi0 hz0 hz1 hz2 rfl (by omega) v L.length _ hown ⟨g, 0, none⟩ M.length cap (ndcs M) (ndcs_len M) hnews hone (by simp only [maxLen]; omega) (by omega) hbase
    unfold Oper.wp execOp
    simp only [ho, resolve, invoke, builtin, Sem.run_bind, Sem.run_pure, Result.andThen_ok, List.map_toArray, List.map_cons, List.map_nil, hs, hx, hr]
    refine h v' w' ?_ k3
    rw [List.length_append, ndcs_app]
    exact k2
theorem wpList_append_nds {w : World} {ops : Array Oper} {rest : List Oper} {o : Oper} {a : Act} {Q : Exit → Act → World → Prop} (hgd : o.guard = none) (s x : Operand)
    (ho : o.op = .call { callee := .builtin .append, args := #[s, x], argTypes := #[67, 67] }) (base : Nat) (v : Value) (L : List Nd) (hs : a.eval s = v) (hown : w.ownsRow base 79 3 v L.length (ndcs L))
    (b2 : Nat) (u : Value) (M : List Nd) (hx : a.eval x = u) (hm : w.ownsRow b2 79 3 u M.length (ndcs M)) (hb : L.length + M.length ≤ 4398046511104) (hbase : base ≤ w.heap.size)
    (h : ∀ v' w', w'.ownsRow base 79 3 v' (L ++ M).length (ndcs (L ++ M)) → w.grownBy w' v.ownBlock → wpList Try.prog ops Q rest (a.put o.dst v') w') :
    wpList Try.prog ops Q (o :: rest) a w :=
  wpList_plain hgd fun _ hK => wp_append_nds w s x ho base v L hs hown b2 u M hx hm hb hbase fun v' w' h1 h2 => hK _ _ (h v' w' h1 h2)
set_option maxHeartbeats 1000000 in
/-- the reference's Led, where the numbers do not fit -/
theorem led_rno (n i : Int) (LA : Option Addr) (lm lc : Nat) (PA : Option Addr) (p pc : Nat) (hi : I64 n) (hi2 : I64 i) (h : ¬ (0 ≤ n ∧ n ≤ 1099511627776 ∧ 0 ≤ i ∧ (lm : Int) ≤ n - i)) (_ : lm ≤ 9223372036854775807) (w : World) :
    Calls Try.prog 40 #[.int .i64 n, .int .i64 i, .slice LA lm lc, .slice PA p pc] w fun e w' => e = .returned (.tuple #[.string ⟨#[]⟩, .bool false]) ∧ w.grownBy w' none := by
  obtain ⟨a1, a2⟩ := hi
  obtain ⟨b1, b2⟩ := hi2
  by_cases h1 : n < 0
  · go_enter Try.func40, Try.ntmps40
    go_wp2_with fail
    refine bodyPost_ret (results_tmp2 rfl _ _ _) rfl ?_
    exact ⟨rfl, World.grownBy.refl _ _⟩
  · by_cases h2 : n > 1099511627776
    · have h1' : decide (n < 0) = false := by simpa using h1
      go_enter Try.func40, Try.ntmps40
      go_wp2_with fail
      refine bodyPost_ret (results_tmp2 rfl _ _ _) rfl ?_
      exact ⟨rfl, World.grownBy.refl _ _⟩
    · by_cases h3 : i < 0
      · have h1' : decide (n < 0) = false := by simpa using h1
        have h2' : n ≤ 1099511627776 := by omega
        clear h h1 h2
        go_enter Try.func40, Try.ntmps40
        go_wp2_with fail
        refine bodyPost_ret (results_tmp2 rfl _ _ _) rfl ?_
        exact ⟨rfl, World.grownBy.refl _ _⟩
      · have h1' : decide (n < 0) = false := by simpa using h1
        have h2' : n ≤ 1099511627776 := by omega
        have h3' : decide (i < 0) = false := by simpa using h3
        by_cases h5 : n < i
        · clear h h1 h2 h3
          go_enter Try.func40, Try.ntmps40
          go_wp2_with fail
          refine bodyPost_ret (results_tmp2 rfl _ _ _) rfl ?_
          exact ⟨rfl, World.grownBy.refl _ _⟩
        · have h5' : i ≤ n := by omega
          have hw : IntKind.i64.wrap (n - i) = n - i := by rw [IntKind.wrap_i64]; omega
          have h4 : n - i < (lm : Int) := by omega
          clear h h1 h2 h3 h5
          go_enter Try.func40, Try.ntmps40
          go_wp2_with fail
          refine bodyPost_ret (results_tmp2 rfl _ _ _) rfl ?_
          exact ⟨rfl, World.grownBy.refl _ _⟩
set_option maxRecDepth 100000 in
set_option maxHeartbeats 4000000 in
/-- the reference's Led, where the numbers fit -/
theorem led_rn (n i : Nat) (LA : Option Addr) (lm lc : Nat) (LL : List Str) (PA : Option Addr) (p pc : Nat) (PL : List Str) (h40 : n ≤ 1099511627776) (hin : i + lm ≤ n) (hsl : ∀ x ∈ LL, x.length ≤ 1152921504606846976) (w : World) (hL : Strs w LA lm lc LL) (hP : Strs w PA p pc PL) :
    Calls Try.prog 40 #[.int .i64 n, .int .i64 i, .slice LA lm lc, .slice PA p pc] w fun e w' => e = .returned (.tuple #[.string ⟨(ledS n i LL PL).toArray⟩, .bool (fitsB n i LL PL)]) ∧ w.grownBy w' none := by
  obtain ⟨i0, hi0, hz0, hz1, hz2⟩ := info_parts info79
  have hll := hL.len
  have hpl := hP.len
  have hpp := hP.le
  have hpc := hP.cap
  have hlc := hL.le
  have hlc2 := hL.cap
  have HLL := Lib.hid hll
  have HPL := Lib.hid hpl
  have HSL := Lib.hid hsl
  have HL := Lib.hid (fun w' (g : w.grownBy w' none) => hL.kept g)
  have HP := Lib.hid (fun w' (g : w.grownBy w' none) => hP.kept g)
  have HF : Hid (fitsB n i LL PL = ((PL.length == (blocks 0 i).length + (blocks (i + lm) n).length) && all8 PL)) := Lib.hid (by rw [fits_of n i LL PL (by omega) h40, ← hll]; rfl)
  have q1 : IntKind.i64.wrap ((n : Int) - (i : Int)) = (n : Int) - (i : Int) := by rw [IntKind.wrap_i64]; omega
  have q2 : (lm : Int) ≤ (n : Int) - (i : Int) := by omega
  have q3 : (n : Int) ≤ 1099511627776 := by omega
  have q5 : (i : Int) ≤ (n : Int) := by omega
  have q4 : IntKind.i64.wrap ((i : Int) + (lm : Int)) = (i : Int) + (lm : Int) := by rw [IntKind.wrap_i64]; omega
  clear hL hP hll hpl hsl
  go_enter Try.func40, Try.ntmps40
  go_wp2_with fail
  refine (whole_r PA p pc PL w (HP.out w (World.grownBy.refl _ _))).mono ?_
  rintro e w1 ⟨rfl, g1⟩
  cases h8 : all8 PL with
  | false =>
    have HFF : Hid (fitsB n i LL PL = false) := Lib.hid (by rw [HF.out, h8, Bool.and_false])
    go_wp2_with fail
    refine bodyPost_ret (results_tmp2 rfl _ _ _) rfl ?_
    exact ⟨by rw [ledS, HFF.out]; rfl, g1⟩
  | true =>
    have H8 := Lib.hid (all8_le h8)
    have H8t := Lib.hid h8
    clear h8
    have hb1 := blocks_len' 0 i
    have hb2 := blocks_len' (i + lm) n
    go_wp2_with fail
    refine (blocks_r 0 i (by omega) (by omega) w1).mono ?_
    rintro e w2 ⟨v2, rfl, o2, g2⟩
    go_wp2_with fail
    refine (show Calls Try.prog 52 #[.int .i64 ((i : Int) + (lm : Int)), .int .i64 n] w2 _ from by
      have := blocks_r (i + lm) n (by omega) (by omega) w2
      rw [Int.natCast_add] at this
      exact this).mono ?_
    rintro e w3 ⟨v3, rfl, o3, g3⟩
    have o2 : w2.ownsRow w1.heap.size 79 3 v2 (bare (blocks 0 i)).length (ndcs (bare (blocks 0 i))) := o2
    have o2 := o2.kept g3 (Classical.em _)
    have hs12 : w1.heap.size ≤ w2.heap.size := g2.size
    obtain ⟨A2, c2, rfl, hc2, hc2'⟩ := slice_of o2
    obtain ⟨A3, c3, rfl, hc3, hc3'⟩ := slice_of o3
    have hbl1 := bare_len (blocks 0 i)
    have hbl2 := bare_len (blocks (i + lm) n)
    have g13 := (g1.trans g2).trans g3
    have O2 := Lib.hid o2
    have O3 := Lib.hid o3
    have G13 := Lib.hid g13
    clear o2 o3 g1 g2 g3 g13
    by_cases hpe : p = (bare (blocks 0 i)).length + (bare (blocks (i + lm) n)).length
    · have HPE := Lib.hid hpe
      have HFT : Hid (fitsB n i LL PL = true) := Lib.hid (by rw [HF.out, H8t.out, ← HPL.out, ← hbl1, ← hbl2, hpe]; simp)
      have HW1 := Lib.hid (with_r w1.heap.size _ (blocks 0 i) (by omega) PA p pc PL (by omega) w3 O2.out (HP.out w3 G13.out))
      have hx1 : (PL.drop (blocks 0 i).length).length = (blocks (i + lm) n).length := by rw [List.length_drop]; have := HPL.out; omega
      have HW2 := Lib.hid (fun W (g : w3.grownBy W none) => with_r w2.heap.size _ (blocks (i + lm) n) (by omega) _ (p - (blocks 0 i).length) _ (PL.drop (blocks 0 i).length) (by omega) W (O3.out.kept g (Classical.em _)) ((HP.out W (G13.out.trans g)).drop (show (blocks 0 i).length ≤ p by omega)))
      have HN1 : Hid ((nodes (blocks 0 i) PL).length = (blocks 0 i).length) := Lib.hid (nodes_len _ _ (by have := HPL.out; omega))
      have HN2 : Hid ((nodes (blocks (i + lm) n) (PL.drop (blocks 0 i).length)).length = (blocks (i + lm) n).length) := Lib.hid (nodes_len _ _ (by omega))
      have HLD : Hid (ledN n i LL PL = nodes (blocks 0 i) PL ++ leafs i LL ++ nodes (blocks (i + lm) n) (PL.drop (blocks 0 i).length)) := Lib.hid (by rw [ledN, nodes_take, HLL.out])
      have HLC : Hid (chained (ledN n i LL PL) 0 n) := Lib.hid (ledN_chained n i LL PL (by have := HLL.out; omega) (by have := HPL.out; have := HLL.out; rw [← this]; omega))
      have HL8 : Hid (d8 (ledN n i LL PL)) := Lib.hid (ledN_d8 n i LL PL H8.out)
      generalize nodes (blocks 0 i) PL = S1 at *
      generalize nodes (blocks (i + lm) n) (PL.drop (blocks 0 i).length) = S3 at *
      rw [hbl1, hbl2] at *
      clear hbl1 hbl2 O2 O3 hx1
      generalize (blocks 0 i).length = c1 at *
      generalize (blocks (i + lm) n).length = c4 at *
      have q6 : IntKind.i64.wrap ((c1 : Int) + (c4 : Int)) = (c1 : Int) + (c4 : Int) := by rw [IntKind.wrap_i64]; omega
      have q7 : ((p : Int) != (c1 : Int) + (c4 : Int)) = false := by rw [bne_eq_false_iff_eq]; omega
      clear hpe
      go_wp2_with fail
      refine HW1.out.mono ?_
      rintro e w4 ⟨v4, rfl, o4, g4⟩
      have o4 : w4.ownsRow w3.heap.size 79 3 v4 S1.length (ndcs S1) := o4
      clear HW1
      have HO4 := Lib.hid o4
      have G4 := Lib.hid g4
      clear o4 g4
      go_wp2_with fail
      go_loopw [13, 14] (fun v z wr => LRel w3 w3.heap.size S1 i LL v z wr) (fun _ z _ => lm - (intOf z).toNat)
      case atStart => exact ⟨0, Nat.zero_le _, rfl, by simpa [leafs] using HO4.out, G4.out⟩
      case round =>
        obtain ⟨k, hk, rfl, ho, hg⟩ := hrel
        by_cases hlt : k < lm
        · obtain ⟨x, hx⟩ : ∃ x, LL[k]? = some x := ⟨_, List.getElem?_eq_getElem (by have := HLL.out; omega)⟩
          have hst := HL.out _ (G13.out.trans hg)
          obtain ⟨ad, rfl, _, hc⟩ := hst.cell (by omega)
          have hcx := hc k x hx
          have hxl := HSL.out x (List.mem_of_getElem? hx)
          have r1 : (0 : Int) ≤ (k : Int) := by omega
          have r2 : (k : Int) < (lm : Int) := by omega
          have r3 : IntKind.i64.wrap ((i : Int) + (k : Int)) = (i : Int) + (k : Int) := by rw [IntKind.wrap_i64]; omega
          have r4 : IntKind.i64.wrap ((k : Int) + 1) = (k : Int) + 1 := by rw [IntKind.wrap_i64]; omega
          have hs1 := HN1.out
          have Ho := Lib.hid ho
          have Hx := Lib.hid hx
          have HG := Lib.hid hg
          clear hst hc hx ho hg
          go_wp2_with fail
          refine (leaf_r x hxl _).mono ?_
          rintro e w5 ⟨rfl, g5⟩
          have ho5 := Ho.out.kept g5 (Classical.em _)
          have g35 := HG.out.trans g5
          have hsz5 : w3.heap.size ≤ w5.heap.size := g35.size
          go_wp2_with (at_builtin; refine wpList_append_lies _ rfl _ _ 67 rfl w3.heap.size 79 i0 _ 3 32 Try.underlying67 hi0 hz0 hz1 hz2 rfl (by omega) u13 (S1.length + k) _ rfl (ho5.alloc (.cells #[.int .i64 ((i : Int) + (k : Int)), .int .i64 1, .string ⟨(leafD x).toArray⟩] 79)) ⟨w5.heap.size, 0, none⟩ 1 1 [.int .i64 ((i : Int) + (k : Int)), .int .i64 1, .string ⟨(leafD x).toArray⟩] rfl rfl (World.news_of_block (cs := #[.int .i64 ((i : Int) + (k : Int)), .int .i64 1, .string ⟨(leafD x).toArray⟩]) (t := 79) (fr := (0, 0)) (heap_alloc_new w5 _)) (by intro u hu; simp at hu; rcases hu with rfl | rfl | rfl <;> rfl) (by omega) (by simp only [maxLen]; omega) (by omega) (by simp; omega) _ rfl ?_; intro g cap w9 hown9 hgrow9 hat9 hlt9)
          exact ⟨lrel_next Hx.out (by rw [hs1] at hown9 ⊢; simpa using hown9) ((g35.trans (World.grownBy_alloc w5 (.cells #[.int .i64 ((i : Int) + (k : Int)), .int .i64 1, .string ⟨(leafD x).toArray⟩] 79) none)).andThen hgrow9 (fun r e => .inl (own_fresh Ho.out r e))), by simp [intOf]; omega⟩
        · obtain rfl : k = lm := by have := HLL.out; omega
          have htk : LL.take k = LL := List.take_of_length_le (by have := HLL.out; omega)
          rw [htk] at ho
          have HT1 : Hid (wr.ownsRow w3.heap.size 79 3 u13 (S1 ++ leafs i LL).length (ndcs (S1 ++ leafs i LL))) := Lib.hid (by rw [List.length_append, leafs_len, ← HLL.out]; exact ho)
          have HW3 := Lib.hid (HW2.out wr hg)
          have hs1 := HN1.out
          have HG := Lib.hid hg
          have hle1 : (S1 ++ leafs i LL).length ≤ 2 * 1099511627776 := by rw [List.length_append, leafs_len, ← HLL.out]; omega
          have hp1 := HPE.out
          have hsub : ((p : Int) - (c1 : Int)) = ((p - c1 : Nat) : Int) := by omega
          have hz : (c1 : Int) ≤ (p : Int) := by omega
          have hz2 : (c1 : Int) ≤ (pc : Int) := by omega
          clear HW2 ho hg htk
          by_cases hcc : pc = c1
          · rw [if_pos hcc] at HW3
            have e1 : p - c1 = c4 := by omega
            rw [e1] at HW3
            clear e1
            have e2 : pc - c1 = 0 := by omega
            rw [e2] at HW3
            clear e2
            clear hsub
            go_wp2_with fail
            refine HW3.out.mono ?_
            rintro e w6 ⟨v6, rfl, o6, g6⟩
            have o6 : w6.ownsRow wr.heap.size 79 3 v6 S3.length (ndcs S3) := o6
            have hT := HT1.out.kept g6 (Classical.em _)
            have hsz6 := (HG.out.trans g6).size
            have hs3 := HN2.out
            have hown6 := fun r (e : u13.ownBlock = some r) => own_fresh HT1.out r e
            have Hs3 : Hid ((S1 ++ leafs i LL).length + S3.length ≤ 4398046511104) := Lib.hid (by omega)
            clear hs1 hs3 HT1
            go_wp2_with (at_builtin; refine wpList_append_nds rfl _ _ rfl w3.heap.size u13 (S1 ++ leafs i LL) rfl hT wr.heap.size v6 S3 rfl o6 Hs3.out hsz6 ?_; intro v7 w7 hown7 hgrow7)
            have HT := Lib.hid (top_r w3.heap.size v7 (ledN n i LL PL) n h40 w7 (by rw [HLD.out]; exact hown7) HLC.out HL8.out)
            clear hT o6 hown7
            refine HT.out.mono ?_
            rintro e w8 ⟨rfl, g8⟩
            have ht8 := topD_len _ (pushes_d8 (ledN n i LL PL) [] (fun _ h => by cases h) HL8.out)
            have G := Lib.hid ((G13.out.trans (((HG.out.trans g6).andThen hgrow7 (fun r e => .inl (hown6 r e))))).trans g8)
            clear hgrow7 g6 g8
            go_wp2_with fail
            refine (rootn_r n h40 _ (by omega) w8).mono ?_
            rintro e w9 ⟨rfl, g9⟩
            go_wp2_with fail
            refine bodyPost_ret (results_tmp2 rfl _ _ _) rfl ?_
            exact ⟨by rw [ledS, HFT.out]; rfl, G.out.trans g9⟩
          · rw [if_neg hcc] at HW3
            have e1 : p - c1 = c4 := by omega
            rw [e1] at HW3
            clear e1
            clear hsub
            go_wp2_with fail
            refine HW3.out.mono ?_
            rintro e w6 ⟨v6, rfl, o6, g6⟩
            have o6 : w6.ownsRow wr.heap.size 79 3 v6 S3.length (ndcs S3) := o6
            have hT := HT1.out.kept g6 (Classical.em _)
            have hsz6 := (HG.out.trans g6).size
            have hs3 := HN2.out
            have hown6 := fun r (e : u13.ownBlock = some r) => own_fresh HT1.out r e
            have Hs3 : Hid ((S1 ++ leafs i LL).length + S3.length ≤ 4398046511104) := Lib.hid (by omega)
            clear hs1 hs3 HT1
            go_wp2_with (at_builtin; refine wpList_append_nds rfl _ _ rfl w3.heap.size u13 (S1 ++ leafs i LL) rfl hT wr.heap.size v6 S3 rfl o6 Hs3.out hsz6 ?_; intro v7 w7 hown7 hgrow7)
            have HT := Lib.hid (top_r w3.heap.size v7 (ledN n i LL PL) n h40 w7 (by rw [HLD.out]; exact hown7) HLC.out HL8.out)
            clear hT o6 hown7
            refine HT.out.mono ?_
            rintro e w8 ⟨rfl, g8⟩
            have ht8 := topD_len _ (pushes_d8 (ledN n i LL PL) [] (fun _ h => by cases h) HL8.out)
            have G := Lib.hid ((G13.out.trans (((HG.out.trans g6).andThen hgrow7 (fun r e => .inl (hown6 r e))))).trans g8)
            clear hgrow7 g6 g8
            go_wp2_with fail
            refine (rootn_r n h40 _ (by omega) w8).mono ?_
            rintro e w9 ⟨rfl, g9⟩
            go_wp2_with fail
            refine bodyPost_ret (results_tmp2 rfl _ _ _) rfl ?_
            exact ⟨by rw [ledS, HFT.out]; rfl, G.out.trans g9⟩
    · have HFF : Hid (fitsB n i LL PL = false) := Lib.hid (by
        rw [HF.out, ← HPL.out, ← hbl1, ← hbl2, Bool.and_eq_false_iff]
        exact .inl (by simpa using hpe))
      generalize (bare (blocks 0 i)).length = c1 at *
      generalize (bare (blocks (i + lm) n)).length = c4 at *
      have q6 : IntKind.i64.wrap ((c1 : Int) + (c4 : Int)) = (c1 : Int) + (c4 : Int) := by rw [IntKind.wrap_i64]; omega
      have q7 : ((p : Int) != (c1 : Int) + (c4 : Int)) = true := by rw [bne_iff_ne]; omega
      clear hpe
      go_wp2_with fail
      refine bodyPost_ret (results_tmp2 rfl _ _ _) rfl ?_
      exact ⟨by rw [ledS, HFF.out]; rfl, G13.out⟩
end Go.Proofs.Ytljjmoeplfcblaa
