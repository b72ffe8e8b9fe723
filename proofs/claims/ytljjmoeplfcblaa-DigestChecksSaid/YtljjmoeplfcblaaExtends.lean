/-
  digest.Grow and digest.Extends, by their contracts.
-/
import Derived.Test.YtljjmoeplfcblaaVerify
namespace Go.Proofs.Ytljjmoeplfcblaa
open Go.RowKit Go.Shelf
attribute [local go_sem] get_mk extract_mk
set_option maxHeartbeats 1000000 in
/-- digest.Grow, where the index is in the list -/
theorem grow_k (A : Option Addr) (n c : Nat) (l : List Str) (hn : n ≤ 1000) (m : Nat) (hm : m ≤ n) (w : World) (hl : Strs w A n c l) :
    Calls Try.prog 31 #[.slice A n c, .int .i64 m] w fun e w' => ∃ v, e = .returned (.tuple #[v, .bool true]) ∧ w'.ownsRow w.heap.size 9 1 v (proofL l m m).length ((proofL l m m).map fun s => .string ⟨s.toArray⟩) ∧ w.grownBy w' none := by
  have HP := Lib.hid (prove_k A n c l hn m m (Nat.le_refl _) hm w hl)
  clear hl
  go_enter Try.func31, Try.ntmps31
  go_wp2_with fail
  refine HP.out.mono ?_
  rintro e w1 ⟨v, rfl, o, g⟩
  go_wp2_with fail
  refine bodyPost_ret (results_tmp2 rfl _ _ _) rfl ?_
  exact ⟨v, rfl, o, g⟩
set_option maxHeartbeats 1000000 in
/-- digest.Grow, where it is not -/
theorem grow_no (A : Option Addr) (n c : Nat) (m : Int) (h : ¬ (0 ≤ m ∧ m ≤ n)) (hn : n ≤ 9223372036854775807) (w : World) :
    Calls Try.prog 31 #[.slice A n c, .int .i64 m] w fun e w' => e = .returned (.tuple #[.slice none 0 0, .bool false]) ∧ w.grownBy w' none := by
  have HP := Lib.hid (prove_no A n c m m (by omega) hn w)
  clear h hn
  go_enter Try.func31, Try.ntmps31
  go_wp2_with fail
  refine HP.out.mono ?_
  rintro e w1 ⟨rfl, g⟩
  go_wp2_with fail
  refine bodyPost_ret (results_tmp2 rfl _ _ _) rfl ?_
  exact ⟨rfl, g⟩
theorem ext_div (old r : Str) (m n : Nat) (PL : List Str) (h1 : m ≤ n) (h2 : n ≤ 1099511627776) :
    extB old m r n PL = (divB m m n PL && old == rootD m (pushes [] (nodes (blocks 0 m) (PL.take (blocks 0 m).length))) && r == led n m [] PL) := by
  unfold extB divB
  have hd : decide ((0 : Int) ≤ (m : Int) ∧ (m : Int) ≤ (n : Int) ∧ (n : Int) ≤ 1099511627776) = true := by rw [decide_eq_true_iff]; omega
  rw [hd, Bool.true_and, Int.toNat_natCast, Int.toNat_natCast]
set_option maxHeartbeats 1000000 in
/-- digest.Extends, where the numbers do not fit -/
theorem extends_no (old r : Str) (m n : Int) (PA : Option Addr) (p pc : Nat) (h : ¬ (0 ≤ m ∧ m ≤ n ∧ n ≤ 1099511627776)) (w : World) :
    Calls Try.prog 38 #[.string ⟨old.toArray⟩, .int .i64 m, .string ⟨r.toArray⟩, .int .i64 n, .slice PA p pc] w fun e w' => e = .returned (.bool false) ∧ w.grownBy w' none := by
  by_cases h1 : m < 0
  · go_enter Try.func38, Try.ntmps38
    go_wp2_with fail
    go_ret
    exact ⟨rfl, World.grownBy.refl _ _⟩
  · have h1' : decide (m < 0) = false := by simpa using h1
    by_cases h2 : n < m
    · go_enter Try.func38, Try.ntmps38
      go_wp2_with fail
      go_ret
      exact ⟨rfl, World.grownBy.refl _ _⟩
    · have h2' : m ≤ n := by omega
      have h3 : 1099511627776 < n := by omega
      clear h h1 h2
      go_enter Try.func38, Try.ntmps38
      go_wp2_with fail
      go_ret
      exact ⟨rfl, World.grownBy.refl _ _⟩
set_option maxRecDepth 100000 in
set_option maxHeartbeats 4000000 in
/-- digest.Extends, where the numbers fit -/
theorem extends_k (old r : Str) (m n : Nat) (PA : Option Addr) (p pc : Nat) (PL : List Str) (h1 : m ≤ n) (h40 : n ≤ 1099511627776) (hp : p ≤ 1000) (w : World) (hP : Strs w PA p pc PL) :
    Calls Try.prog 38 #[.string ⟨old.toArray⟩, .int .i64 m, .string ⟨r.toArray⟩, .int .i64 n, .slice PA p pc] w fun e w' => e = .returned (.bool (extB old m r n PL)) ∧ w.grownBy w' none := by
  have hpl := hP.len
  have HPL := Lib.hid hpl
  have HP := Lib.hid (fun w' (g : w.grownBy w' none) => hP.kept g)
  have HV := Lib.hid (ext_div old r m n PL h1 h40)
  have q1 : (m : Int) ≤ (n : Int) := by omega
  have q3 : (n : Int) ≤ 1099511627776 := by omega
  have HLE := Lib.hid (fun (h : PL.length = (blocks 0 m).length + (blocks m n).length) => led_eq n m [] PL (by simpa using h1) (by simpa using h))
  clear hP hpl
  go_enter Try.func38, Try.ntmps38
  go_wp2_with fail
  refine (divide_k PA p pc PL m m n (by omega) h40 w (HP.out w (World.grownBy.refl _ _))).mono ?_
  rintro e w1 ⟨g1, hR⟩
  rcases hR with ⟨hdiv, A2, c2, rfl, hA2⟩ | ⟨hdiv, rfl⟩
  · have hdv : PL.length = (blocks 0 m).length + (blocks m n).length := by
      unfold divB at hdiv
      rw [Bool.and_eq_true, beq_iff_eq] at hdiv
      exact hdiv.1
    have hd8 : ∀ d ∈ PL, d.length ≤ 8 := fun d hd => by
      unfold divB at hdiv
      rw [Bool.and_eq_true, List.all_eq_true] at hdiv
      have := hdiv.2 d hd
      simp at this
      omega
    have HDV := Lib.hid hdiv
    have HLed := HLE.out hdv
    simp only [leafs, List.length_nil, Nat.add_zero] at HLed
    have HLed := Lib.hid HLed
    have hb1 := blocks_len' 0 m
    have hp1 := HPL.out
    have hpe : p = (blocks 0 m).length + (blocks m n).length := by rw [hp1, hdv]
    have htl : (PL.take (blocks 0 m).length).length = (blocks 0 m).length := by rw [List.length_take]; omega
    have hdl : (PL.drop (blocks 0 m).length).length = (blocks m n).length := by rw [List.length_drop]; omega
    have ht8 : ∀ d ∈ PL.take (blocks 0 m).length, d.length ≤ 8 := fun d hd => hd8 d (List.mem_of_mem_take hd)
    have hr8 : ∀ d ∈ PL.drop (blocks 0 m).length, d.length ≤ 8 := fun d hd => hd8 d (List.mem_of_mem_drop hd)
    have HTK := Lib.hid (fun W (g : w1.grownBy W none) => (HP.out W (g1.trans g)).take (show (blocks 0 m).length ≤ p by omega))
    have HA2 := Lib.hid (fun W (g : w1.grownBy W none) => hA2.kept g)
    have hbn1 : (blocks 0 m).length ≤ 1000 := by omega
    have hbn2 : (blocks m n).length ≤ 1000 := by omega
    have HP1 := Lib.hid (place_k w1.heap.size (.slice none 0 0) [] 0 0 PA (blocks 0 m).length pc (PL.take (blocks 0 m).length) 0 m (by omega) w1 (World.ownsRow_nil _ _ _ _) (Nat.le_refl _) ⟨Nat.le_refl _, Nat.le_refl _, fun _ h => by cases h⟩ (fun W g => HTK.out W g) ht8 (by rw [htl]; exact Nat.le_refl _) hbn1 (by omega) (by omega))
    rw [List.take_take, Nat.min_self] at HP1
    have HP2 := Lib.hid (fun (base : Nat) v S L M W hown hbase hgood hD hL hM => place_k base v S L M A2 (p - (blocks 0 m).length) c2 (PL.drop (blocks 0 m).length) m n h40 W hown hbase hgood hD hr8 (by rw [hdl]; exact Nat.le_refl _) hbn2 hL hM)
    rw [List.take_of_length_le (Nat.le_of_eq hdl)] at HP2
    have HS0 : Hid (pushes [] (nodes (blocks 0 m) (PL.take (blocks 0 m).length)) = pushesW [] (nodes (blocks 0 m) (PL.take (blocks 0 m).length))) := Lib.hid (pushesW_eq _ [] 0 m rfl (nodes_chained m m 0 _ (by omega) (by omega) htl)).symm
    clear hdiv hA2 hdv hpe htl hdl ht8 hr8 hp1 HTK hd8
    rw [HS0.out] at HV
    clear HS0
    generalize (blocks 0 m).length = c1 at *
    generalize (blocks m n).length = c3 at *
    go_wp2_with fail
    refine HP1.out.mono ?_
    rintro e w2 ⟨v2, rfl, o2, gd2, g2, _⟩
    have g2 : w1.grownBy w2 none := g2
    have g12 := g1.trans g2
    generalize hS1 : pushesW [] (nodes (blocks 0 m) (PL.take c1)) = S1 at *
    have hM1 : c1 * 1099511627776 ≤ 1000 * 1099511627776 := Nat.mul_le_mul_right _ hbn1
    have hbs : w.heap.size ≤ w1.heap.size := g1.size
    go_wp2_with fail
    refine (rootOf_k w1.heap.size m v2 _ w2 (by omega) o2 (fun x hx => (gd2.all x hx).2.1) (by have := gd2.len; omega)).mono ?_
    rintro e w3 ⟨rfl, g3⟩
    have o3 := o2.kept g3 (Classical.em _)
    have g23 := g2.trans g3
    have g13 := g1.trans g23
    have HVV := HV.out
    generalize rootD m S1 = R1 at *
    clear HP1 g2 g12 o2
    by_cases hE : old = R1
    · subst hE
      have hfin : pushesW S1 (nodes (blocks m n) (List.drop c1 PL)) = pushes [] (ledN n m [] PL) := HLed.out
      have HP3 := Lib.hid (HP2.out w1.heap.size v2 S1 _ _ w3 o3 g23.size gd2 (fun W g => HA2.out W (g23.andThen g (fun r e => .inl (o3.lt r e).1))) (by omega) (by omega))
      have Hbl := Lib.hid (fun r (e : v2.ownBlock = some r) => (o3.lt r e).1)
      rw [beq_self_eq_true, Bool.and_true] at HVV
      have HVV := Lib.hid HVV
      have Hfin := Lib.hid hfin
      clear HP2 HLed hfin o3 gd2 hS1
      go_wp2_with fail
      refine HP3.out.mono ?_
      rintro e w6 ⟨v6, rfl, o6, gd6, g6, _⟩
      rw [Hfin.out] at o6 gd6
      have gw6 := g13.andThen g6 (fun r e => .inl (Nat.le_trans hbs (Hbl.out r e)))
      go_wp2_with fail
      refine (rootOf_k w1.heap.size n v6 _ w6 (by omega) o6 (fun x hx => (gd6.all x hx).2.1) (by have := gd6.len; omega)).mono ?_
      rintro e w7 ⟨rfl, g7⟩
      go_wp2_with fail
      go_ret
      refine ⟨?_, gw6.trans g7⟩
      rw [HVV.out, HDV.out, Bool.true_and]
      rfl
    · have hE2 : (old == R1) = false := by simpa using hE
      rw [hE2, Bool.and_false, Bool.false_and] at HVV
      have HVV := Lib.hid HVV
      clear HP2 HLed o3 gd2 hS1 hE
      go_wp2_with fail
      go_ret
      exact ⟨by rw [HVV.out]; rfl, g13⟩
  · go_wp2_with fail
    go_ret
    exact ⟨by rw [HV.out, hdiv]; rfl, g1⟩
end Go.Proofs.Ytljjmoeplfcblaa
