/-
  digest.Verify, by its contract.
-/
import Derived.Test.YtljjmoeplfcblaaDivide
namespace Go.Proofs.Ytljjmoeplfcblaa
open Go.RowKit Go.Shelf
attribute [local go_sem] get_mk extract_mk

def I64 (n : Int) : Prop := -9223372036854775808 ≤ n ∧ n ≤ 9223372036854775807
theorem leafs_snoc : ∀ (l : List Str) (i : Nat) (x : Str), leafs i (l ++ [x]) = leafs i l ++ [⟨i + l.length, 1, leafD x⟩]
  | [], i, x => rfl
  | a :: l, i, x => by
    simp only [List.cons_append, leafs, leafs_snoc l (i + 1) x, List.length_cons]
    rw [show i + 1 + l.length = i + (l.length + 1) by omega]
theorem Good.mono {r : List Nd} {L M L' M' : Nat} (h : Good r L M) (h1 : L ≤ L') (h2 : M ≤ M') : Good r L' M' := ⟨Nat.le_trans h.len h1, Nat.le_trans h.sum h2, h.all⟩
set_option maxHeartbeats 1000000 in
/-- digest.Verify, where the numbers do not fit -/
theorem verify_no (r : Str) (n i : Int) (LA : Option Addr) (lm lc : Nat) (PA : Option Addr) (p pc : Nat) (hi : I64 n) (hi2 : I64 i) (h : ¬ (0 ≤ n ∧ n ≤ 1099511627776 ∧ 0 ≤ i ∧ (lm : Int) ≤ n - i)) (_ : lm ≤ 9223372036854775807) (w : World) :
    Calls Try.prog 36 #[.string ⟨r.toArray⟩, .int .i64 n, .int .i64 i, .slice LA lm lc, .slice PA p pc] w fun e w' => e = .returned (.bool false) ∧ w.grownBy w' none := by
  obtain ⟨a1, a2⟩ := hi
  obtain ⟨b1, b2⟩ := hi2
  by_cases h1 : n < 0
  · go_enter Try.func36, Try.ntmps36
    go_wp2_with fail
    go_ret
    exact ⟨rfl, World.grownBy.refl _ _⟩
  · by_cases h2 : n > 1099511627776
    · have h1' : decide (n < 0) = false := by simpa using h1
      go_enter Try.func36, Try.ntmps36
      go_wp2_with fail
      go_ret
      exact ⟨rfl, World.grownBy.refl _ _⟩
    · by_cases h3 : i < 0
      · have h1' : decide (n < 0) = false := by simpa using h1
        have h2' : n ≤ 1099511627776 := by omega
        clear h h1 h2
        go_enter Try.func36, Try.ntmps36
        go_wp2_with fail
        go_ret
        exact ⟨rfl, World.grownBy.refl _ _⟩
      · have h1' : decide (n < 0) = false := by simpa using h1
        have h2' : n ≤ 1099511627776 := by omega
        have h3' : decide (i < 0) = false := by simpa using h3
        have hw : IntKind.i64.wrap (n - i) = n - i := by rw [IntKind.wrap_i64]; omega
        have h4 : n - i < (lm : Int) := by omega
        clear h h1 h2 h3
        go_enter Try.func36, Try.ntmps36
        go_wp2_with fail
        go_ret
        exact ⟨rfl, World.grownBy.refl _ _⟩
theorem led_eq (n i : Nat) (LL PL : List Str) (hn : i + LL.length ≤ n) (hP : PL.length = (blocks 0 i).length + (blocks (i + LL.length) n).length) :
    pushesW (pushesW (pushesW [] (nodes (blocks 0 i) (PL.take (blocks 0 i).length))) (leafs i LL)) (nodes (blocks (i + LL.length) n) (PL.drop (blocks 0 i).length)) = pushes [] (ledN n i LL PL) := by
  have hc : chained (ledN n i LL PL) 0 n :=
    chained_app _ _ 0 (i + LL.length) _ (chained_app _ _ 0 i _ (nodes_chained i i 0 _ (by omega) (by omega) (by rw [List.length_take]; omega)) (leafs_chained LL i)) (nodes_chained n n (i + LL.length) _ (Nat.sub_le _ _) hn (by rw [List.length_drop]; omega))
  rw [← pushesW_eq _ [] 0 n rfl hc]
  unfold ledN
  rw [pushesW_app, pushesW_app]
theorem fits_of (n i : Nat) (LL PL : List Str) (hn : i + LL.length ≤ n) (h40 : n ≤ 1099511627776) : fitsB n i LL PL = divB i (i + LL.length) n PL := by
  unfold fitsB divB
  have hd : decide ((0 : Int) ≤ (n : Int) ∧ (n : Int) ≤ 1099511627776 ∧ (0 : Int) ≤ (i : Int) ∧ (LL.length : Int) ≤ (n : Int) - (i : Int)) = true := by
    rw [decide_eq_true_iff]; omega
  rw [hd, Bool.true_and, Int.toNat_natCast, Int.toNat_natCast]
def VInv (w : World) (base : Nat) (S1 : List Nd) (L M i : Nat) (LL : List Str) (v z : Value) (wr : World) : Prop :=
  ∃ k : Nat, k ≤ LL.length ∧ z = .int .i64 k ∧ wr.ownsRow base 77 3 v (pushesW S1 (leafs i (LL.take k))).length (ndcs (pushesW S1 (leafs i (LL.take k))).reverse) ∧ Good (pushesW S1 (leafs i (LL.take k))) (L + k) (M + k) ∧ w.grownBy wr none
set_option maxRecDepth 100000 in
set_option maxHeartbeats 4000000 in
/-- digest.Verify, where the numbers fit -/
theorem verify_k (r : Str) (n i : Nat) (LA : Option Addr) (lm lc : Nat) (LL : List Str) (PA : Option Addr) (p pc : Nat) (PL : List Str) (h40 : n ≤ 1099511627776) (hin : i + lm ≤ n) (hlm : lm ≤ 1000) (hp : p ≤ 1000) (w : World) (hL : Strs w LA lm lc LL) (hP : Strs w PA p pc PL) :
    Calls Try.prog 36 #[.string ⟨r.toArray⟩, .int .i64 n, .int .i64 i, .slice LA lm lc, .slice PA p pc] w fun e w' => e = .returned (.bool (verB r n i LL PL)) ∧ w.grownBy w' none := by
  have hll := hL.len
  have hpl := hP.len
  have hlc := hL.le
  have hlc2 := hL.cap
  have HLL := Lib.hid hll
  have HPL := Lib.hid hpl
  have HL := Lib.hid (fun w' (g : w.grownBy w' none) => hL.kept g)
  have HP := Lib.hid (fun w' (g : w.grownBy w' none) => hP.kept g)
  have HV : Hid (verB r n i LL PL = (divB i (i + lm) n PL && r == led n i LL PL)) := Lib.hid (by rw [verB, fits_of n i LL PL (by omega) h40, hll])
  have HLE := Lib.hid (fun h => led_eq n i LL PL (by omega) h)
  have q1 : IntKind.i64.wrap ((n : Int) - (i : Int)) = (n : Int) - (i : Int) := by rw [IntKind.wrap_i64]; omega
  have q2 : (lm : Int) ≤ (n : Int) - (i : Int) := by omega
  have q3 : (n : Int) ≤ 1099511627776 := by omega
  have q4 : IntKind.i64.wrap ((i : Int) + (lm : Int)) = (i : Int) + (lm : Int) := by rw [IntKind.wrap_i64]; omega
  clear hL hP hll hpl
  go_enter Try.func36, Try.ntmps36
  go_wp2_with fail
  refine (show Calls Try.prog 56 #[.slice PA p pc, .int .i64 i, .int .i64 ((i + lm : Nat) : Int), .int .i64 n] w _ from divide_k PA p pc PL i (i + lm) n (by omega) h40 w (HP.out w (World.grownBy.refl _ _))).mono ?_
  rintro e w1 ⟨g1, hR⟩
  rcases hR with ⟨hdiv, A2, c2, rfl, hA2⟩ | ⟨hdiv, rfl⟩
  · have hdv : PL.length = (blocks 0 i).length + (blocks (i + lm) n).length := by
      unfold divB at hdiv
      rw [Bool.and_eq_true, beq_iff_eq] at hdiv
      exact hdiv.1
    have hd8 : ∀ d ∈ PL, d.length ≤ 8 := fun d hd => by
      unfold divB at hdiv
      rw [Bool.and_eq_true, List.all_eq_true] at hdiv
      have := hdiv.2 d hd
      simp at this
      omega
    have HDV := Lib.hid hdiv
    have HLed := HLE.out (by rw [← HLL.out]; exact hdv)
    rw [← HLL.out] at HLed
    have HLed := Lib.hid HLed
    have hb1 := blocks_len' 0 i
    have hp1 := HPL.out
    have hpe : p = (blocks 0 i).length + (blocks (i + lm) n).length := by rw [hp1, hdv]
    have htl : (PL.take (blocks 0 i).length).length = (blocks 0 i).length := by rw [List.length_take]; omega
    have hdl : (PL.drop (blocks 0 i).length).length = (blocks (i + lm) n).length := by rw [List.length_drop]; omega
    have ht8 : ∀ d ∈ PL.take (blocks 0 i).length, d.length ≤ 8 := fun d hd => hd8 d (List.mem_of_mem_take hd)
    have hr8 : ∀ d ∈ PL.drop (blocks 0 i).length, d.length ≤ 8 := fun d hd => hd8 d (List.mem_of_mem_drop hd)
    have HTK := Lib.hid (fun W (g : w1.grownBy W none) => (HP.out W (g1.trans g)).take (show (blocks 0 i).length ≤ p by omega))
    have HA2 := Lib.hid (fun W (g : w1.grownBy W none) => hA2.kept g)
    have hbn1 : (blocks 0 i).length ≤ 1000 := by omega
    have hbn2 : (blocks (i + lm) n).length ≤ 1000 := by omega
    have HP1 := Lib.hid (place_k w1.heap.size (.slice none 0 0) [] 0 0 PA (blocks 0 i).length pc (PL.take (blocks 0 i).length) 0 i (by omega) w1 (World.ownsRow_nil _ _ _ _) (Nat.le_refl _) ⟨Nat.le_refl _, Nat.le_refl _, fun _ h => by cases h⟩ (fun W g => HTK.out W g) ht8 (by rw [htl]; exact Nat.le_refl _) hbn1 (by omega) (by omega))
    rw [List.take_take, Nat.min_self] at HP1
    have HP2 := Lib.hid (fun (base : Nat) v S L M W hown hbase hgood hD hL hM => place_k base v S L M A2 (p - (blocks 0 i).length) c2 (PL.drop (blocks 0 i).length) (i + lm) n h40 W hown hbase hgood hD hr8 (by rw [hdl]; exact Nat.le_refl _) hbn2 hL hM)
    rw [List.take_of_length_le (Nat.le_of_eq hdl)] at HP2
    have Hdv := Lib.hid hdv
    clear hdiv hA2 hdv hpe htl hdl ht8 hr8 hp1 HTK hd8
    generalize (blocks 0 i).length = c1 at *
    generalize (blocks (i + lm) n).length = c3 at *
    go_wp2_with fail
    refine HP1.out.mono ?_
    rintro e w2 ⟨v2, rfl, o2, gd2, g2, _⟩
    have g2 : w1.grownBy w2 none := g2
    have g12 := g1.trans g2
    generalize hS1 : pushesW [] (nodes (blocks 0 i) (PL.take c1)) = S1 at *
    have hM1 : c1 * 1099511627776 ≤ 1000 * 1099511627776 := Nat.mul_le_mul_right _ hbn1
    have hbs : w.heap.size ≤ w1.heap.size := g1.size
    go_wp2_with fail
    go_loopw [15, 56] (fun v z wr => VInv w w1.heap.size S1 (0 + c1) (0 + c1 * 1099511627776) i LL v z wr ∧ w1.grownBy wr none) (fun _ z _ => lm - (intOf z).toNat)
    case atStart => exact ⟨⟨0, Nat.zero_le _, rfl, by simpa [leafs, pushesW] using o2, by simpa [leafs, pushesW] using gd2, g12⟩, g2⟩
    case round =>
      obtain ⟨⟨k, hk, rfl, ho, hgd, hg⟩, hgr⟩ := hrel
      by_cases hlt : k < lm
      · obtain ⟨x, hx⟩ : ∃ x, LL[k]? = some x := ⟨_, List.getElem?_eq_getElem (by have := HLL.out; omega)⟩
        have hst := HL.out _ hg
        obtain ⟨ad, rfl, _, hc⟩ := hst.cell (by omega)
        have hcx := hc k x hx
        have hxl := hst.sl x (List.mem_of_getElem? hx)
        have r1 : (0 : Int) ≤ (k : Int) := by omega
        have r2 : (k : Int) < (lm : Int) := by omega
        have r3 : IntKind.i64.wrap ((i : Int) + (k : Int)) = (i : Int) + (k : Int) := by rw [IntKind.wrap_i64]; omega
        have hfine : Fine (pushesW S1 (leafs i (LL.take k))) ⟨i + k, 1, leafD x⟩ := hgd.fine (by omega) (by simp only; omega) (Nat.le_refl _) (Nat.le_of_eq (leafD_len _)) (by simp only; omega)
        have hgn := pushW_good (pushesW S1 (leafs i (LL.take k))) ⟨i + k, 1, leafD x⟩ _ _ hgd (Nat.le_refl _) (Nat.le_of_eq (leafD_len _)) (by simp only; omega)
        have hsn : pushW (pushesW S1 (leafs i (LL.take k))) ⟨i + k, 1, leafD x⟩ = pushesW S1 (leafs i (LL.take (k + 1))) := by
          rw [take_one LL k x hx, leafs_snoc, pushesW_snoc, List.length_take, Nat.min_eq_left (by have := HLL.out; omega)]
        rw [hsn] at hgn
        have hlk : k + 1 ≤ LL.length := by have := HLL.out; omega
        have Hsn := Lib.hid hsn
        have Hgn := Lib.hid hgn
        have Ho := Lib.hid ho
        have Hfine := Lib.hid hfine
        have Hgd := Lib.hid hgd
        clear hst hc hx hgd hgn hsn ho hfine
        go_wp2_with fail
        refine (leaf_k x hxl _).mono ?_
        rintro e w4 ⟨rfl, g4⟩
        go_wp2_with fail
        refine (show Calls Try.prog 57 #[u15, .agg #[.int .i64 ((i + k : Nat) : Int), .int .i64 ((1 : Nat) : Int), .string ⟨(leafD x).toArray⟩]] w4 _ from add_k w1.heap.size u15 (pushesW S1 (leafs i (LL.take k))) ⟨i + k, 1, leafD x⟩ w4 (Ho.out.kept g4 (Classical.em _)) Hfine.out (Nat.le_trans hgr.size g4.size)).mono ?_
        rintro e w5 ⟨v5, rfl, o5, g5, _⟩
        rw [Hsn.out] at o5
        have hown4 := fun r (e : u15.ownBlock = some r) => (Ho.out.lt r e).1
        have gr5 := (hgr.trans g4).andThen g5 (fun r e => .inl (hown4 r e))
        have gw5 := (hg.trans g4).andThen g5 (fun r e => .inl (Nat.le_trans hbs (hown4 r e)))
        go_wp2_with fail
        exact ⟨⟨⟨k + 1, hlk, by go_num, o5, Hgn.out.mono (by omega) (by omega), gw5⟩, gr5⟩, by simp [intOf]; omega⟩
      · obtain rfl : k = lm := by have := HLL.out; omega
        have htk : LL.take k = LL := List.take_of_length_le (by have := HLL.out; omega)
        rw [htk] at ho hgd
        have hfin := HLed.out
        generalize pushesW S1 (leafs i LL) = S2 at *
        have HP3 := Lib.hid (HP2.out w1.heap.size u15 S2 _ _ wr ho hgr.size hgd (fun W g => HA2.out W (hgr.andThen g (fun r e => .inl (ho.lt r e).1))) (by omega) (by omega))
        have Hbl := Lib.hid (fun r (e : u15.ownBlock = some r) => (ho.lt r e).1)
        have HG := Lib.hid hg
        have HGR := Lib.hid hgr
        have Hfin := Lib.hid hfin
        clear ho hgd hg hgr hfin HP2 htk
        go_wp2_with fail
        refine HP3.out.mono ?_
        rintro e w6 ⟨v6, rfl, o6, gd6, g6, _⟩
        rw [Hfin.out] at o6 gd6
        have gw6 := HG.out.andThen g6 (fun r e => .inl (Nat.le_trans hbs (Hbl.out r e)))
        go_wp2_with fail
        refine (rootOf_k w1.heap.size n v6 _ w6 (by omega) o6 (fun x hx => (gd6.all x hx).2.1) (by have := gd6.len; omega)).mono ?_
        rintro e w7 ⟨rfl, g7⟩
        go_wp2_with fail
        go_ret
        refine ⟨?_, gw6.trans g7⟩
        rw [HV.out, HDV.out, Bool.true_and]
        rfl
  · go_wp2_with fail
    go_ret
    exact ⟨by rw [HV.out, hdiv]; rfl, g1⟩
end Go.Proofs.Ytljjmoeplfcblaa
