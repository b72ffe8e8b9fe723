/-
  Odd.
-/
import Derived.Test.YtnkemoicgadefaaOdw
namespace Go.Proofs.Ytnkemoicgadefaa
open Go.RowKit
attribute [local go_sem] get_mk extract_mk
theorem tmod_nat (a b : Nat) : ((a : Int)).tmod (b : Int) = ((a % b : Nat) : Int) := by
  rw [Int.tmod_eq_emod_of_nonneg (by omega)]
  rfl
theorem out_cells {w : World} {b g m cap j : Nat} {us : List V} {u : V} (h : w.ownsRow b 35 5 (.slice (some ⟨g, 0, none⟩) m cap) m (vc us)) (hj : us[j]? = some u) : ∃ cur, Row w g 35 cur ∧ ∀ f x, u.cells[f]? = some x → cur[j * 5 + f]? = some x := by
  rcases h.2 with ⟨e, _⟩ | ⟨g', cap', cur, e, _, h4, _, _, _, h8⟩
  · cases e
  · injection e with e1 _ _
    injection e1 with e1
    injection e1 with e1 _ _
    subst e1
    refine ⟨cur, h4, fun f x hx => ?_⟩
    have h1 := vc_at us j u hj f x hx
    rw [← h8, List.getElem?_take] at h1
    split at h1
    · simpa using h1
    · cases h1
theorem conv2 (x y : Int) (w : World) : (convert 52 9 (.slice (some ⟨w.heap.size, 0, none⟩) 2 2)).run Try.prog (w.alloc (.cells #[.int .u8 x, .int .u8 y] 5)) = .ok (.string ⟨#[UInt8.ofNat x.toNat, UInt8.ofNat y.toNat]⟩) (w.alloc (.cells #[.int .u8 x, .int .u8 y] 5)) := by
  rw [run_convert_bytes_string _ 52 9 5 _ _ _ Try.underlying52 Try.underlying5 Try.underlying9, run_bytesToString _ ⟨w.heap.size, 0, none⟩ 2 2 [x, y]]
  · rfl
  · have := run_loadCells_list (P := Try.prog) (w := w.alloc (.cells #[.int .u8 x, .int .u8 y] 5)) ⟨w.heap.size, 0, none⟩ ([x, y].map (Value.int .u8)) (fun j v hv => by
      rw [add_zero, cell_at rfl]
      simpa using hv)
    simpa using this
theorem app3 (a b c : UInt8) : (⟨#[a]⟩ : ByteArray) ++ ⟨#[b, c]⟩ = ⟨#[a, b, c]⟩ := by
  apply ByteArray.ext
  simp
theorem row8 {w : World} {b i : Nat} {a0 a1 a2 a3 a4 a5 a6 a7 : Str} (h : Row w b 9 #[.string ⟨a0.toArray⟩, .string ⟨a1.toArray⟩, .string ⟨a2.toArray⟩, .string ⟨a3.toArray⟩, .string ⟨a4.toArray⟩, .string ⟨a5.toArray⟩, .string ⟨a6.toArray⟩, .string ⟨a7.toArray⟩]) (hi : i < 8) (hr : ∀ x ∈ [a0, a1, a2, a3, a4, a5, a6, a7], x.length ≤ 9) :
    ∃ x : Str, w.cell? ⟨b, i, none⟩ = some (.string ⟨x.toArray⟩) ∧ x.length ≤ 9 := by
  rcases (show i = 0 ∨ i = 1 ∨ i = 2 ∨ i = 3 ∨ i = 4 ∨ i = 5 ∨ i = 6 ∨ i = 7 by omega) with rfl | rfl | rfl | rfl | rfl | rfl | rfl | rfl
  · exact ⟨a0, h.c 0 rfl, hr a0 (by simp)⟩
  · exact ⟨a1, h.c 1 rfl, hr a1 (by simp)⟩
  · exact ⟨a2, h.c 2 rfl, hr a2 (by simp)⟩
  · exact ⟨a3, h.c 3 rfl, hr a3 (by simp)⟩
  · exact ⟨a4, h.c 4 rfl, hr a4 (by simp)⟩
  · exact ⟨a5, h.c 5 rfl, hr a5 (by simp)⟩
  · exact ⟨a6, h.c 6 rfl, hr a6 (by simp)⟩
  · exact ⟨a7, h.c 7 rfl, hr a7 (by simp)⟩
theorem row4 {w : World} {b i : Nat} {a0 a1 a2 a3 lo hi : Int} (h : Row w b 3 #[.int .i64 a0, .int .i64 a1, .int .i64 a2, .int .i64 a3]) (hi4 : i < 4) (hr : ∀ x ∈ [a0, a1, a2, a3], lo ≤ x ∧ x ≤ hi) :
    ∃ x : Int, w.cell? ⟨b, i, none⟩ = some (.int .i64 x) ∧ lo ≤ x ∧ x ≤ hi := by
  rcases (show i = 0 ∨ i = 1 ∨ i = 2 ∨ i = 3 by omega) with rfl | rfl | rfl | rfl
  · exact ⟨a0, h.c 0 rfl, hr a0 (by simp)⟩
  · exact ⟨a1, h.c 1 rfl, hr a1 (by simp)⟩
  · exact ⟨a2, h.c 2 rfl, hr a2 (by simp)⟩
  · exact ⟨a3, h.c 3 rfl, hr a3 (by simp)⟩
set_option maxRecDepth 100000 in
set_option maxHeartbeats 8000000 in
theorem odd_r (A : Option Addr) (n c : Nat) (vs : List V) (l : List O) (q0 q1 q2 : Int) (t : Nat) (ht : 5 ≤ t ∧ t ≤ 900) (hs : Small t l) (w : World) (h : Offs w A n c vs l) :
    Calls Try.prog 11 #[.slice A n c, .agg #[.int .i64 q0, .int .i64 q1, .int .i64 q2]] w fun e w' => ∃ (B : Option Addr) (d : Nat) (us : List V) (L : List O), e = .returned (.slice B L.length d) ∧ Offs w' B L.length d us L ∧ Small (t + 1) L ∧ w.grownBy w' none := by
  have HO := Lib.hid (fun W (g : w.grownBy W none) => h.kept g)
  have HL := Lib.hid h.len
  have HSM := Lib.hid hs
  have HT := Lib.hid ht
  have hle := h.v.le
  have hcap := h.v.cap
  obtain ⟨w1, e1, HQ, g1⟩ := row_of w 23 #[.int .i64 q0, .int .i64 q1, .int .i64 q2]
  have E1 := Lib.hid e1
  have G1 := Lib.hid g1
  have HQ1 := Lib.hid HQ
  clear e1 g1 h hs ht HQ
  go_enter Try.func11, Try.ntmps11
  go_upto_region 1 with fail
  rw [← E1.out]
  clear E1
  have HQW := Lib.hid (Nat.le_refl w.heap.size)
  generalize hQ : w.heap.size = Q at *
  have HQE := Lib.hid hQ
  clear hQ HQW
  go_wp2_with fail
  go_loopw [5, 6] (fun y z wr => ∃ (k : Nat) (us : List V), k ≤ n ∧ z = .int .i64 (k : Int) ∧ Hid (Row wr Q 23 #[.int .i64 q0, .int .i64 q1, .int .i64 q2] ∧ OutIs wr (Q + 1) y us (l.take k) ∧ Sep us) ∧ Hid (w.grownBy wr none)) (fun _ z _ => n - (intOf z).toNat)
  case atStart => exact ⟨0, [], Nat.zero_le _, rfl, Lib.hid ⟨HQ1.out, out_nil _ _, sep_nil⟩, G1⟩
  case round =>
    clear HQ1 G1
    obtain ⟨k, us, hk, rfl, H, HG⟩ := hrel
    generalize u5 = y at *
    obtain ⟨B, d, rfl, hoffs, _⟩ := H.out.2.1.offs
    have hble := hoffs.v.le
    have hbcap := hoffs.v.cap
    obtain ⟨m, hm⟩ : ∃ m, m = (l.take k).length := ⟨_, rfl⟩
    rw [← hm] at hble ⊢
    have HM := Lib.hid hm
    have HOF := Lib.hid hoffs
    have HOU := Lib.hid H.out.2.1
    have HSE := Lib.hid H.out.2.2
    have HQ1 := Lib.hid H.out.1
    clear H hoffs hm
    by_cases hlt : k < n
    · obtain ⟨ad, v, o, ho, _, rfl, _, hv, x0, x1, x2, x3, x4⟩ := (HO.out _ HG.out).at k hlt
      have HOO := Lib.hid ho
      have HV := Lib.hid hv
      have k1 : (0 : Int) ≤ (k : Int) := by omega
      have k2 : (k : Int) < (n : Int) := by omega
      have k3 : decide ((k : Int) < (n : Int)) = true := decide_eq_true k2
      have k5 : IntKind.i64.wrap (k : Int) = (k : Int) := by rw [IntKind.wrap_i64]; omega
      have k6 : IntKind.i64.wrap ((k : Int) + 1) = (k : Int) + 1 := by rw [IntKind.wrap_i64]; omega
      obtain ⟨vc_, vr, vp, sA, sn, sc, nA, nn, nc⟩ := v
      simp only at x0 x1 x2 x3 x4
      clear hv ho
      go_wp2_with fail
      refine (copy_q ⟨vc_, vr, vp, sA, sn, sc, nA, nn, nc⟩ o _ HV.out).mono ?_
      rintro e w2 ⟨v2, rfl, hvi, hoi, hos, g2, hdd⟩
      have ga := World.grownBy_alloc w2 (.cells v2.cells 35) none
      have HOW := Lib.hid ((HOU.out.kept g2 (fun _ e => by cases e)).kept ga (fun _ e => by cases e))
      have HSX := Lib.hid (HSE.out.snoc HOU.out hoi hos (Nat.le_refl _) hdd)
      have HVA := Lib.hid (hvi.kept ga)
      have HOA : Hid (OwnI (w2.alloc (.cells v2.cells 35)) wr.heap.size (.slice v2.sA v2.sn v2.sc) o.slots) := Lib.hid (own_keep hoi ga (fun _ e => by cases e))
      have HNA : Hid (OwnS (w2.alloc (.cells v2.cells 35)) wr.heap.size (.slice v2.nA v2.nn v2.nc) o.needs) := Lib.hid (own_keep hos ga (fun _ e => by cases e))
      have HVL := Lib.hid (new_vals5 w2 v2)
      have HGa := Lib.hid (HG.out.trans (g2.trans ga))
      have HQa := Lib.hid (HQ1.out.kept (g2.trans ga))
      have HLT4 : Hid (∀ j, (Value.slice B m d).ownBlock = some j → Q + 1 ≤ j ∧ j < wr.heap.size) := Lib.hid (fun j e => by rw [HM.out] at e; exact World.ownsRow.lt HOU.out.own j e)
      have HLB : Hid (m + 1 ≤ 1000000 ∧ Q + 1 ≤ (w2.alloc (.cells v2.cells 35)).heap.size ∧ Q + 1 ≤ wr.heap.size) := Lib.hid ⟨by
        have h1 := HM.out
        rw [List.length_take] at h1
        have := HSM.out.few
        have := HL.out
        omega, HQa.out.lt, HQ1.out.lt⟩
      clear hvi hoi hos g2 hdd ga x0 x1 x2 x3 x4
      simp only [V.cells] at HOW HVA HOA HNA HGa HQa HLB ⊢
      go_upto_region 4 with (at_builtin; first
        | (refine wpList_append_vals elt35 rfl (.tmp 16) (.tmp 22) rfl (Q + 1) (.slice B m d) m (vc us) rfl (by rw [HM.out]; exact HOW.out.own) _ 1 1 _ rfl HVL.out HLB.out.1 HLB.out.2.1 ?_
           intro y2 w8 hown hg hb hv
           have HOX := Lib.hid (HOW.out.snoc (v2 := y2) (by rw [HM.out] at hown; exact hown) (by rw [← HM.out]; exact hg) (by rw [← HM.out]; exact hb) HVA.out HOA.out HNA.out HLB.out.2.2 (fun j e => (HLT4.out j (by rw [HM.out]; exact e)).2))
           have HQX := Lib.hid (HQa.out.keptR hg (fun e => by have := (HLT4.out Q e.symm).1; omega))
           have HGX := Lib.hid (HGa.out.andThen hg (fun r e => .inl (by have := (HLT4.out r e).1; have := HQE.out; omega)))
           clear hown hg hb hv))
      go_wp2_with fail
      exact ⟨⟨k + 1, us ++ [v2], by omega, by go_num, Lib.hid ⟨HQX.out, by rw [take_snoc HOO.out]; exact HOX.out, HSX.out⟩, HGX⟩, by simp [intOf]; omega⟩
    · obtain rfl : n = k := by omega
      have k3 : decide ((n : Int) < (n : Int)) = false := decide_eq_false (by omega)
      have HTL : Hid (l.take n = l) := Lib.hid (by rw [HL.out, List.take_length])
      clear hlt hk
      rw [HTL.out] at HM HOF HOU
      by_cases hm0 : m = 0
      · subst hm0
        go_wp2_with fail
        go_ret
        exact ⟨B, d, us, l, by rw [← HM.out]; rfl, by rw [← HM.out]; rw [← HM.out] at HOF; exact HOF.out, HSM.out.up (Nat.le_succ _), HG.out⟩
      · have z1 : ((m : Int) == 0) = false := by simp; omega
        have HM0 := Lib.hid hm0
        clear hm0
        have q0c := HQ1.out.c 0 rfl
        have q1c := HQ1.out.c 1 rfl
        have q2c := HQ1.out.c 2 rfl
        go_wp2_with fail
        refine (mod_k q1 72 (by omega) (by omega) _).mono ?_
        rintro e w2 ⟨rfl, rfl⟩
        obtain ⟨nn, hnn⟩ : ∃ nn : Nat, modV q1 72 = (nn : Int) := ⟨(modV q1 72).toNat, by have := modV_range q1 72 (by omega); omega⟩
        have hn72 : nn < 72 := by have := modV_range q1 72 (by omega); omega
        rw [hnn]
        clear hnn
        have HMB : Hid (m ≤ 61) := Lib.hid (by have := HM.out; have := HSM.out.few; omega)
        go_wp2_with fail
        refine (mod_k q2 (m : Int) (by have := HM0.out; omega) (by have := HMB.out; omega) _).mono ?_
        rintro e w3 ⟨rfl, rfl⟩
        obtain ⟨j, hj⟩ : ∃ j : Nat, modV q2 (m : Int) = (j : Int) := ⟨(modV q2 (m : Int)).toNat, by have := modV_range q2 (m : Int) (by have := HM0.out; omega); omega⟩
        have hjm : j < m := by have := modV_range q2 (m : Int) (by have := HM0.out; omega); omega
        rw [hj]
        clear hj
        obtain ⟨g, hg0⟩ : ∃ g, B = some ⟨g, 0, none⟩ := by
          rcases HOU.out.own.2 with ⟨e, _⟩ | ⟨g, cap, cur, e, _⟩
          · injection e with _ e2 _
            have := HM0.out
            have := HM.out
            omega
          · injection e with e1 _ _
            exact ⟨g, e1⟩
        subst hg0
        obtain ⟨u, hu⟩ : ∃ u, us[j]? = some u := ⟨_, List.getElem?_eq_getElem (by have := HOU.out.vlen; have := HM.out; omega)⟩
        obtain ⟨o, ho⟩ : ∃ o, l[j]? = some o := ⟨_, List.getElem?_eq_getElem (by have := HM.out; omega)⟩
        have HU := Lib.hid hu
        have HOJ := Lib.hid ho
        obtain ⟨cur, hrow, hcur⟩ := out_cells HOU.out.own hu
        have HR := Lib.hid hrow
        have HCU := Lib.hid hcur
        have HSO := Lib.hid (HSM.out.each o (List.mem_of_getElem? ho))
        have HVU := Lib.hid (HOU.out.is j u o hu ho).1
        clear hrow hcur hu ho
        obtain ⟨uc, ur, up, uA, un, uk, xA, xn, xk⟩ := u
        have j1 : (0 : Int) ≤ (j : Int) := by omega
        have j2 : (j : Int) < (m : Int) := by omega
        go_wp2_with fail
        refine (mod_k q0 11 (by omega) (by omega) _).mono ?_
        rintro e w4 ⟨rfl, rfl⟩
        obtain ⟨cs, hcs⟩ : ∃ cs : Nat, modV q0 11 = (cs : Int) := ⟨(modV q0 11).toNat, by have := modV_range q0 11 (by omega); omega⟩
        have hc11 : cs < 11 := by have := modV_range q0 11 (by omega); omega
        rw [hcs]
        clear hcs q0c q1c q2c HQ1
        have HUL := Lib.hid HVU.out.slots.len
        have HNL := Lib.hid HVU.out.needs.len
        have hsle := HVU.out.slots.v.le
        have hscap := HVU.out.slots.v.cap
        have hnle := HVU.out.needs.v.le
        have hncap := HVU.out.needs.v.cap
        simp only at hsle hscap hnle hncap HUL HNL
        rcases (show cs = 0 ∨ cs = 1 ∨ cs = 2 ∨ cs = 3 ∨ cs = 4 ∨ cs = 5 ∨ cs = 6 ∨ cs = 7 ∨ cs = 8 ∨ cs = 9 ∨ cs = 10 by omega) with rfl | rfl | rfl | rfl | rfl | rfl | rfl | rfl | rfl | rfl | rfl
        · rw [show ((0 : Nat) : Int) = 0 from rfl]
          clear hc11
          have hrm : ((nn : Int)).tmod 8 = ((nn % 8 : Nat) : Int) := tmod_nat nn 8
          obtain ⟨e, he⟩ : ∃ e, e = nn % 8 := ⟨_, rfl⟩
          have he8 : e < 8 := by omega
          rw [← he] at hrm
          have e1 : (0 : Int) ≤ (e : Int) := by omega
          have e2 : (e : Int) < 8 := by omega
          have e3 : IntKind.i64.wrap (e : Int) = (e : Int) := by rw [IntKind.wrap_i64]; omega
          clear he
          have HS8 := Row.new w4 9 #[.string ⟨#[]⟩, .string ⟨#[97]⟩, .string ⟨#[65, 66, 67, 68, 69, 70, 71, 72, 73]⟩, .string ⟨#[65, 49]⟩, .string ⟨#[66, 50]⟩, .string ⟨#[90]⟩, .string ⟨#[65, 66, 67, 68, 69, 70, 71, 72]⟩, .string ⟨#[65, 32, 49]⟩]
          have ga := (World.grownBy_alloc w4 (.cells #[.string ⟨#[]⟩, .string ⟨#[97]⟩, .string ⟨#[65, 66, 67, 68, 69, 70, 71, 72, 73]⟩, .string ⟨#[65, 49]⟩, .string ⟨#[66, 50]⟩, .string ⟨#[90]⟩, .string ⟨#[65, 66, 67, 68, 69, 70, 71, 72]⟩, .string ⟨#[65, 32, 49]⟩] 9) none)
          obtain ⟨s, cs, hs9⟩ := row8 (a0 := []) (a1 := [97]) (a2 := [65, 66, 67, 68, 69, 70, 71, 72, 73]) (a3 := [65, 49]) (a4 := [66, 50]) (a5 := [90]) (a6 := [65, 66, 67, 68, 69, 70, 71, 72]) (a7 := [65, 32, 49]) HS8 he8 (by decide)
          have HRg := HR.out.kept ga
          have y0 := (HRg).c (j * 5 + 0) (HCU.out 0 _ rfl)
          have f0 := HRg.fz (j * 5)
          have hzg := HRg.lt
          have HS9 := Lib.hid hs9
          have GA := Lib.hid ga
          rw [Nat.add_zero] at y0
          clear HS8 ga HRg hs9
          go_upto_region 35 with fail
          go_wp2_with fail
          go_ret
          have hlen : (l.set j ⟨s, o.cr, o.pl, o.slots, o.needs⟩).length = m := by rw [List.length_set]; exact HM.out.symm
          refine ⟨some ⟨g, 0, none⟩, d, us.set j ⟨s, ur, up, uA, un, uk, xA, xn, xk⟩, l.set j ⟨s, o.cr, o.pl, o.slots, o.needs⟩, by rw [hlen]; rfl, ?_, HSM.out.set j ⟨s, o.cr, o.pl, o.slots, o.needs⟩ (by have := HSO.out; simp only; omega) (by have := HSO.out; simp only; omega), (HG.out.trans (GA.out)).andThen (grown_setCell _ g (j * 5 + 0) (.string ⟨s.toArray⟩)) (by rintro i ⟨⟩; exact .inl (by have := (World.ownsRow.lt HOU.out.own g rfl).1; have := HQE.out; omega))⟩
          rw [List.length_set]
          have hOU := HOU.out

          exact odd_done (r := none) hOU HSE.out HU.out GA.out (fun _ e => by cases e) (f := 0) (x := .string ⟨s.toArray⟩) (by omega) rfl ⟨rfl, HVU.out.cr, HVU.out.pl, ⟨by have := HS9.out; simp only; omega, HVU.out.ok.2⟩, (odd_mine hOU HU.out HOJ.out GA.out (j * 5 + 0) (.string ⟨s.toArray⟩)).slots, (odd_mine hOU HU.out HOJ.out GA.out (j * 5 + 0) (.string ⟨s.toArray⟩)).needs, HVU.out.few⟩
        · rw [show ((1 : Nat) : Int) = 1 from rfl]
          clear hc11
          have hw5 : IntKind.i64.wrap ((nn : Int) - 5) = (nn : Int) - 5 := by rw [IntKind.wrap_i64]; omega
          have HRg := HR.out
          have y1 := (HRg).c (j * 5 + 1) (HCU.out 1 _ rfl)
          have f1 := HRg.fz (j * 5 + 1)
          have hzg := HRg.lt
          clear HRg
          go_upto_region 35 with fail
          go_wp2_with fail
          go_ret
          have hlen : (l.set j ⟨o.code, ((nn : Int) - 5), o.pl, o.slots, o.needs⟩).length = m := by rw [List.length_set]; exact HM.out.symm
          refine ⟨some ⟨g, 0, none⟩, d, us.set j ⟨uc, ((nn : Int) - 5), up, uA, un, uk, xA, xn, xk⟩, l.set j ⟨o.code, ((nn : Int) - 5), o.pl, o.slots, o.needs⟩, by rw [hlen]; rfl, ?_, HSM.out.set j ⟨o.code, ((nn : Int) - 5), o.pl, o.slots, o.needs⟩ (by have := HSO.out; simp only; omega) (by have := HSO.out; simp only; omega), (HG.out.trans (grown_refl w4)).andThen (grown_setCell _ g (j * 5 + 1) (.int .i64 ((nn : Int) - 5))) (by rintro i ⟨⟩; exact .inl (by have := (World.ownsRow.lt HOU.out.own g rfl).1; have := HQE.out; omega))⟩
          rw [List.length_set]
          have hOU := HOU.out

          exact odd_done (r := none) hOU HSE.out HU.out (grown_refl w4) (fun _ e => by cases e) (f := 1) (x := .int .i64 ((nn : Int) - 5)) (by omega) rfl ⟨HVU.out.code, rfl, HVU.out.pl, ⟨HVU.out.ok.1, ⟨by simp only; omega, by simp only; omega⟩, HVU.out.ok.2.2⟩, (odd_mine hOU HU.out HOJ.out (grown_refl w4) (j * 5 + 1) (.int .i64 ((nn : Int) - 5))).slots, (odd_mine hOU HU.out HOJ.out (grown_refl w4) (j * 5 + 1) (.int .i64 ((nn : Int) - 5))).needs, HVU.out.few⟩
        · rw [show ((2 : Nat) : Int) = 2 from rfl]
          clear hc11
          have hrm : ((nn : Int)).tmod 4 = ((nn % 4 : Nat) : Int) := tmod_nat nn 4
          obtain ⟨e, he⟩ : ∃ e, e = nn % 4 := ⟨_, rfl⟩
          have he8 : e < 4 := by omega
          rw [← he] at hrm
          have e1 : (0 : Int) ≤ (e : Int) := by omega
          have e2 : (e : Int) < 4 := by omega
          have e3 : IntKind.i64.wrap (e : Int) = (e : Int) := by rw [IntKind.wrap_i64]; omega
          clear he
          have HS8 := Row.new w4 3 #[.int .i64 (-1), .int .i64 0, .int .i64 200, .int .i64 201]
          have ga := (World.grownBy_alloc w4 (.cells #[.int .i64 (-1), .int .i64 0, .int .i64 200, .int .i64 201] 3) none)
          obtain ⟨z, cs, hz1, hz2⟩ := row4 (lo := -1) (hi := 201) HS8 he8 (by decide)
          have HRg := HR.out.kept ga
          have y2 := (HRg).c (j * 5 + 2) (HCU.out 2 _ rfl)
          have f2 := HRg.fz (j * 5 + 2)
          have hzg := HRg.lt
          have GA := Lib.hid ga
          clear HS8 ga HRg
          go_upto_region 35 with fail
          go_wp2_with fail
          go_ret
          have hlen : (l.set j ⟨o.code, o.cr, z, o.slots, o.needs⟩).length = m := by rw [List.length_set]; exact HM.out.symm
          refine ⟨some ⟨g, 0, none⟩, d, us.set j ⟨uc, ur, z, uA, un, uk, xA, xn, xk⟩, l.set j ⟨o.code, o.cr, z, o.slots, o.needs⟩, by rw [hlen]; rfl, ?_, HSM.out.set j ⟨o.code, o.cr, z, o.slots, o.needs⟩ (by have := HSO.out; simp only; omega) (by have := HSO.out; simp only; omega), (HG.out.trans (GA.out)).andThen (grown_setCell _ g (j * 5 + 2) (.int .i64 z)) (by rintro i ⟨⟩; exact .inl (by have := (World.ownsRow.lt HOU.out.own g rfl).1; have := HQE.out; omega))⟩
          rw [List.length_set]
          have hOU := HOU.out

          exact odd_done (r := none) hOU HSE.out HU.out GA.out (fun _ e => by cases e) (f := 2) (x := .int .i64 z) (by omega) rfl ⟨HVU.out.code, HVU.out.cr, rfl, ⟨HVU.out.ok.1, HVU.out.ok.2.1, ⟨by simp only; omega, by simp only; omega⟩⟩, (odd_mine hOU HU.out HOJ.out GA.out (j * 5 + 2) (.int .i64 z)).slots, (odd_mine hOU HU.out HOJ.out GA.out (j * 5 + 2) (.int .i64 z)).needs, HVU.out.few⟩
        · rw [show ((3 : Nat) : Int) = 3 from rfl]
          clear hc11
          have hw20 : IntKind.i64.wrap ((nn : Int) - 20) = (nn : Int) - 20 := by rw [IntKind.wrap_i64]; omega
          have ga := World.grownBy_alloc w4 (.cells #[.int .i64 ((nn : Int) - 20)] 3) none
          have HRg := HR.out.kept ga
          have HR0 := HR.out
          have y3 := HRg.c (j * 5 + 3) (HCU.out 3 _ rfl)
          have x3 := HR0.c (j * 5 + 3) (HCU.out 3 _ rfl)
          have hOU0 := HOU.out
          have HDI := Lib.hid (hOU0.dis j _ HU.out g rfl)
          have HOa : Hid ((w4.alloc (.cells #[.int .i64 ((nn : Int) - 20)] 3)).ownsRow (Q + 1) 3 1 (Value.slice uA un uk) o.slots.length (o.slots.map (Value.int .i64))) := Lib.hid (own_keep (hOU0.is j _ o HU.out HOJ.out).2.1 ga (fun _ e => by cases e))
          have HV := Lib.hid (new_vals w4 3 [.int .i64 ((nn : Int) - 20)] 1 rfl (by omega) (fun u hu => by rw [List.mem_singleton.1 hu]; rfl))
          have GA := Lib.hid ga
          have HBB : Hid (o.slots.length + 1 ≤ 1000000 ∧ Q + 1 ≤ (w4.alloc (.cells #[.int .i64 ((nn : Int) - 20)] 3)).heap.size) := Lib.hid ⟨by have := HSO.out; have := HT.out; omega, by have := (World.ownsRow.lt hOU0.own g rfl).1; have := HRg.lt; omega⟩
          have HRh := Lib.hid HRg
          clear ga HRg HR0 hOU0
          go_upto_region 35 with (at_builtin; first
            | (refine wpList_append_vals elt3 rfl (.tmp 74) (.tmp 77) rfl (Q + 1) (Value.slice uA un uk) o.slots.length _ rfl HOa.out _ 1 1 _ rfl HV.out HBB.out.1 HBB.out.2 ?_
               intro v2 w8 ho hg hb hv
               obtain ⟨A2, n2, c2, rfl⟩ : ∃ A n c, v2 = .slice A n c := by
                 obtain ⟨A, c, h, _⟩ := own_vals ho (fun u hu => by
                   rcases List.mem_append.1 hu with hu | hu
                   · obtain ⟨z, _, rfl⟩ := List.mem_map.1 hu; rfl
                   · rw [List.mem_singleton.1 hu]; rfl)
                 exact ⟨A, _, c, h⟩
               have HRb := HRh.out.keptR hg (fun e => HDI.out.1 e.symm)
               have z3 := HRb.c (j * 5 + 3) (HCU.out 3 _ rfl)
               have f3 := HRb.fz (j * 5 + 3)
               have hzg := HRb.lt
               have HWN := Lib.hid ho
               have HGG := Lib.hid hg
               have HBK := Lib.hid hb
               have GB := Lib.hid ((HG.out.trans GA.out).andThen hg (fun r e => .inl (by have := (World.ownsRow.lt HOa.out r e).1; have := HQE.out; omega)))
               clear ho hg hb hv HRb))
          go_wp2_with fail
          go_ret
          have hlen : (l.set j ⟨o.code, o.cr, o.pl, o.slots ++ [((nn : Int) - 20)], o.needs⟩).length = m := by rw [List.length_set]; exact HM.out.symm
          refine ⟨some ⟨g, 0, none⟩, d, us.set j ⟨uc, ur, up, A2, n2, c2, xA, xn, xk⟩, l.set j ⟨o.code, o.cr, o.pl, o.slots ++ [((nn : Int) - 20)], o.needs⟩, by rw [hlen]; rfl, ?_, HSM.out.set j ⟨o.code, o.cr, o.pl, o.slots ++ [((nn : Int) - 20)], o.needs⟩ (by have := HSO.out; simp only [List.length_append, List.length_singleton]; omega) (by have := HSO.out; simp only; omega), GB.out.andThen (grown_setCell _ g (j * 5 + 3) (.slice A2 n2 c2)) (by rintro i ⟨⟩; exact .inl (by have := (World.ownsRow.lt HOU.out.own g rfl).1; have := HQE.out; omega))⟩
          rw [List.length_set]
          have hOU := HOU.out

          exact odd_done (r := (Value.slice uA un uk).ownBlock) hOU HSE.out HU.out ((grow_r _ GA.out).trans HGG.out) (fun k hk => .inl hk) (f := 3) (x := .slice A2 n2 c2) (by omega) rfl (odd_slots hOU HSE.out HU.out HOJ.out GA.out (⟨by omega, by omega⟩ : i64 ((nn : Int) - 20)) HWN.out HGG.out HBK.out (by have := HSO.out; have := HT.out; omega) (j * 5 + 3) (.slice A2 n2 c2))
        · rw [show ((4 : Nat) : Int) = 4 from rfl]
          clear hc11
          have hrm : ((nn : Int)).tmod 2 = ((nn % 2 : Nat) : Int) := tmod_nat nn 2
          obtain ⟨e, he⟩ : ∃ e, e = nn % 2 := ⟨_, rfl⟩
          have he8 : e < 2 := by omega
          rw [← he] at hrm
          have e1 : (0 : Int) ≤ (e : Int) := by omega
          have e2 : (e : Int) < 2 := by omega
          have e3 : IntKind.i64.wrap (e : Int) = (e : Int) := by rw [IntKind.wrap_i64]; omega
          clear he
          have e4 : IntKind.i64.wrap (40 + (e : Int)) = 40 + (e : Int) := by rw [IntKind.wrap_i64]; omega
          have ga := World.grownBy_alloc w4 (.cells #[.int .i64 (40 + (e : Int))] 3) none
          have HRg := HR.out.kept ga
          have HR0 := HR.out
          have y3 := HRg.c (j * 5 + 3) (HCU.out 3 _ rfl)
          have x3 := HR0.c (j * 5 + 3) (HCU.out 3 _ rfl)
          have hOU0 := HOU.out
          have HDI := Lib.hid (hOU0.dis j _ HU.out g rfl)
          have HOa : Hid ((w4.alloc (.cells #[.int .i64 (40 + (e : Int))] 3)).ownsRow (Q + 1) 3 1 (Value.slice uA un uk) o.slots.length (o.slots.map (Value.int .i64))) := Lib.hid (own_keep (hOU0.is j _ o HU.out HOJ.out).2.1 ga (fun _ e => by cases e))
          have HV := Lib.hid (new_vals w4 3 [.int .i64 (40 + (e : Int))] 1 rfl (by omega) (fun u hu => by rw [List.mem_singleton.1 hu]; rfl))
          have GA := Lib.hid ga
          have HBB : Hid (o.slots.length + 1 ≤ 1000000 ∧ Q + 1 ≤ (w4.alloc (.cells #[.int .i64 (40 + (e : Int))] 3)).heap.size) := Lib.hid ⟨by have := HSO.out; have := HT.out; omega, by have := (World.ownsRow.lt hOU0.own g rfl).1; have := HRg.lt; omega⟩
          have HRh := Lib.hid HRg
          clear ga HRg HR0 hOU0
          go_upto_region 35 with (at_builtin; first
            | (refine wpList_append_vals elt3 rfl (.tmp 87) (.tmp 91) rfl (Q + 1) (Value.slice uA un uk) o.slots.length _ rfl HOa.out _ 1 1 _ rfl HV.out HBB.out.1 HBB.out.2 ?_
               intro v2 w8 ho hg hb hv
               obtain ⟨A2, n2, c2, rfl⟩ : ∃ A n c, v2 = .slice A n c := by
                 obtain ⟨A, c, h, _⟩ := own_vals ho (fun u hu => by
                   rcases List.mem_append.1 hu with hu | hu
                   · obtain ⟨z, _, rfl⟩ := List.mem_map.1 hu; rfl
                   · rw [List.mem_singleton.1 hu]; rfl)
                 exact ⟨A, _, c, h⟩
               have HRb := HRh.out.keptR hg (fun e => HDI.out.1 e.symm)
               have z3 := HRb.c (j * 5 + 3) (HCU.out 3 _ rfl)
               have f3 := HRb.fz (j * 5 + 3)
               have hzg := HRb.lt
               have HWN := Lib.hid ho
               have HGG := Lib.hid hg
               have HBK := Lib.hid hb
               have GB := Lib.hid ((HG.out.trans GA.out).andThen hg (fun r e => .inl (by have := (World.ownsRow.lt HOa.out r e).1; have := HQE.out; omega)))
               clear ho hg hb hv HRb))
          go_wp2_with fail
          go_ret
          have hlen : (l.set j ⟨o.code, o.cr, o.pl, o.slots ++ [(40 + (e : Int))], o.needs⟩).length = m := by rw [List.length_set]; exact HM.out.symm
          refine ⟨some ⟨g, 0, none⟩, d, us.set j ⟨uc, ur, up, A2, n2, c2, xA, xn, xk⟩, l.set j ⟨o.code, o.cr, o.pl, o.slots ++ [(40 + (e : Int))], o.needs⟩, by rw [hlen]; rfl, ?_, HSM.out.set j ⟨o.code, o.cr, o.pl, o.slots ++ [(40 + (e : Int))], o.needs⟩ (by have := HSO.out; simp only [List.length_append, List.length_singleton]; omega) (by have := HSO.out; simp only; omega), GB.out.andThen (grown_setCell _ g (j * 5 + 3) (.slice A2 n2 c2)) (by rintro i ⟨⟩; exact .inl (by have := (World.ownsRow.lt HOU.out.own g rfl).1; have := HQE.out; omega))⟩
          rw [List.length_set]
          have hOU := HOU.out

          exact odd_done (r := (Value.slice uA un uk).ownBlock) hOU HSE.out HU.out ((grow_r _ GA.out).trans HGG.out) (fun k hk => .inl hk) (f := 3) (x := .slice A2 n2 c2) (by omega) rfl (odd_slots hOU HSE.out HU.out HOJ.out GA.out (⟨by omega, by omega⟩ : i64 (40 + (e : Int))) HWN.out HGG.out HBK.out (by have := HSO.out; have := HT.out; omega) (j * 5 + 3) (.slice A2 n2 c2))
        · rw [show ((5 : Nat) : Int) = 5 from rfl]
          clear hc11
          have hrm : ((nn : Int)).tmod 6 = ((nn % 6 : Nat) : Int) := tmod_nat nn 6
          obtain ⟨e, he⟩ : ∃ e, e = nn % 6 := ⟨_, rfl⟩
          have he8 : e < 6 := by omega
          rw [← he] at hrm
          have e1 : (0 : Int) ≤ (e : Int) := by omega
          have e2 : (e : Int) < 6 := by omega
          have e3 : IntKind.i64.wrap (e : Int) = (e : Int) := by rw [IntKind.wrap_i64]; omega
          clear he
          obtain ⟨s, hs6⟩ : ∃ s, codesL[e]? = some s := ⟨_, List.getElem?_eq_getElem (by show e < 6; exact he8)⟩
          have HSC := Lib.hid hs6
          have HSL : Hid (s.length ≤ 1152921504606846976) := Lib.hid (codes_len s (List.mem_of_getElem? hs6))
          clear hs6
          have hOU0 := HOU.out
          have HDI := Lib.hid (hOU0.dis j _ HU.out g rfl)
          have gz : w4.grownBy w4.drew none := grown_dr (grown_refl _)
          have HRd := Lib.hid (HR.out.kept gz)
          have HNd : Hid (w4.drew.ownsRow (Q + 1) 9 1 (.slice xA xn xk) o.needs.length (o.needs.map fun s => Value.string ⟨s.toArray⟩)) := Lib.hid (own_keep (hOU0.is j _ o HU.out HOJ.out).2.2 gz (fun _ e => by cases e))
          have gd : w.grownBy w4.drew none := HG.out.trans gz
          have GW := Lib.hid gz
          have HBB : Hid (o.needs.length + 1 ≤ 1000000) := Lib.hid (by have := HSO.out; have := HT.out; omega)
          clear gz hOU0
          go_upto_region 22 with fail
          refine wp_region_noPanic ?_
          refine wp_region_held_drew (S := (fun W => w.grownBy W none)) (by kernel_rfl) ?_ (fun hHeld => ?_)
          · (try dsimp only); exact gd
          generalize w4.drew = wx at *
          refine wpAnyH_take (i := 0) (oi := _) (v := ?_) rfl (by kernel_rfl) (by kernel_rfl) (by kernel_rfl) (fun _ _ _ h => h) (Or.inl ⟨by rfl, ?_⟩) (by assumption) ?_
          rotate_left 1
          · (intro w hSw; (try dsimp only at hSw); go_simp; first | done | with_reducible rfl)
          try go_simp
          refine wpAnyH_take (i := 1) (oi := _) (v := ?_) rfl (by kernel_rfl) (by kernel_rfl) (by kernel_rfl) (fun _ _ _ h => h) (Or.inl ⟨by rfl, ?_⟩) (by assumption) ?_
          rotate_left 1
          · (intro w hSw; (try dsimp only at hSw); go_simp; first | done | with_reducible rfl)
          try go_simp
          refine wpAnyH_take (i := 2) (oi := _) (v := ?_) rfl (by kernel_rfl) (by kernel_rfl) (by kernel_rfl) (fun _ _ _ h => h) (Or.inl ⟨by rfl, ?_⟩) (by assumption) ?_
          rotate_left 1
          · (intro w hSw; (try dsimp only at hSw); go_simp; first | done | with_reducible rfl)
          try go_simp
          refine wpAnyH_take (i := 3) (oi := _) (v := ?_) rfl (by kernel_rfl) (by kernel_rfl) (by kernel_rfl) (fun _ _ _ h => h) (Or.inl ⟨by rfl, ?_⟩) (by assumption) ?_
          rotate_left 1
          · (intro w hSw; (try dsimp only at hSw); go_simp; first | done | with_reducible rfl)
          try go_simp
          refine wpAnyH_take (i := 6) (oi := _) (v := ?_) rfl (by kernel_rfl) (by kernel_rfl) (by kernel_rfl) (fun _ _ _ h => h) (Or.inl ⟨by rfl, ?_⟩) (by assumption) ?_
          rotate_left 1
          · (intro w hSw; (try dsimp only at hSw); go_simp; first | done | with_reducible rfl)
          try go_simp
          refine wpAnyH_take (i := 7) (oi := _) (v := .int .i64 (e : Int)) rfl (by kernel_rfl) (by kernel_rfl) (by kernel_rfl) (fun _ _ _ h => h) (Or.inl ⟨by kernel_rfl, ?_⟩) (by assumption) ?_
          · (intro w hSw; (try dsimp only at hSw); go_simp; first | done | with_reducible rfl)
          try go_simp
          refine wpAnyH_ready (rs := [4, 5]) (by kernel_rfl) (by simp) ?_
          refine AllReadyH.cons (o := _) rfl (fun K hK => ?_) ?_
          · clear hHeld
            have c4 := HRd.out.c (j * 5 + 4) (HCU.out 4 _ rfl)
            go_simp
            first | (refine hK.out _ _ ?_ (fun hHeld => ?_)) | (go_wp2_with fail; refine hK.out _ _ ?_ (fun hHeld => ?_))
            · (try dsimp only); exact gd
            clear hK K
            clear c4

            refine wpAnyH_ready (rs := [5]) (by kernel_rfl) (by simp) ?_
            refine AllReadyH.cons (o := _) rfl (fun K hK => ?_) ?_
            · clear hHeld
              go_simp
              refine (codes_r _).mono ?_
              rintro e' w5 ⟨rfl, hcs, g5⟩
              first | (refine hK.out _ _ ?_ (fun hHeld => ?_)) | (go_wp2_with fail; refine hK.out _ _ ?_ (fun hHeld => ?_))
              · (try dsimp only); exact gd.trans g5
              clear hK K
              have HCQ := Lib.hid (strs_cell hcs HSC.out)
              replace HRd := Lib.hid (HRd.out.kept g5)
              replace HNd := Lib.hid (own_keep HNd.out g5 (fun _ e => by cases e))
              replace gd := gd.trans g5
              replace GW := Lib.hid (GW.out.trans g5)
              clear g5 hcs
              generalize wx.heap.size = CB at *

              refine wpAnyH_take (i := 8) (oi := _) (v := .pointer (some ⟨CB, e, none⟩)) rfl (by kernel_rfl) (by kernel_rfl) (by kernel_rfl) (fun _ _ _ h => h) (Or.inl ⟨by kernel_rfl, ?_⟩) (by assumption) ?_
              · (intro w hSw; (try dsimp only at hSw); go_simp; first | done | with_reducible rfl)
              try go_simp
              refine wpAnyH_ready (rs := [9]) (by kernel_rfl) (by simp) ?_
              refine AllReadyH.cons (o := _) rfl (fun K hK => ?_) ?_
              · clear hHeld
                have cq := HCQ.out
                go_simp
                first | (refine hK.out _ _ ?_ (fun hHeld => ?_)) | (go_wp2_with fail; refine hK.out _ _ ?_ (fun hHeld => ?_))
                · (try dsimp only); exact gd
                clear hK K
                clear cq HCQ

                refine wpAnyH_ready (rs := [10]) (by kernel_rfl) (by simp) ?_
                refine AllReadyH.cons (o := _) rfl (fun K hK => ?_) ?_
                · clear hHeld
                  obtain ⟨w6, e6, HN6, g6⟩ := row_of w5 9 #[.string ⟨s.toArray⟩]
                  go_simp
                  first | (refine hK.out _ _ ?_ (fun hHeld => ?_)) | (go_wp2_with fail; refine hK.out _ _ ?_ (fun hHeld => ?_))
                  · (try dsimp only); rw [← e6]; exact gd.trans g6
                  clear hK K
                  rw [← e6]
                  have HV := Lib.hid (strs_row (l := [s]) HN6 rfl rfl (by simp) (fun z hz => by rw [List.mem_singleton.1 hz]; exact HSL.out))
                  replace HRd := Lib.hid (HRd.out.kept g6)
                  replace HNd := Lib.hid (own_keep HNd.out g6 (fun _ e => by cases e))
                  replace gd := gd.trans g6
                  replace GW := Lib.hid (GW.out.trans g6)
                  clear e6 g6 HN6
                  generalize w5.heap.size = Z at *

                  refine wpAnyH_ready (rs := [11]) (by kernel_rfl) (by simp) ?_
                  refine AllReadyH.cons (o := _) rfl (fun K hK => ?_) ?_
                  · clear hHeld
                    refine step_append_vals elt9 rfl (.tmp 101) (.tmp 107) rfl (Q + 1) (.slice xA xn xk) o.needs.length _ rfl HNd.out _ 1 1 _ rfl HV.out.v HBB.out (by have := HRd.out.lt; have := (World.ownsRow.lt HOU.out.own g rfl).1; omega) ?_
                    intro v2 w8 ho hg hb hv
                    have HRb := HRd.out.keptR hg (fun e => HDI.out.2 e.symm)
                    have HGG := Lib.hid hg
                    have HBK := Lib.hid hb
                    have GB := Lib.hid (gd.andThen hg (fun r e => .inl (by have := (World.ownsRow.lt HNd.out r e).1; have := HQE.out; omega)))
                    obtain ⟨A2, n2, c2, rfl⟩ : ∃ A n c, v2 = .slice A n c := by
                      obtain ⟨A, c, h, _⟩ := own_vals ho (fun u hu => by
                        rcases List.mem_append.1 hu with hu | hu
                        · obtain ⟨z, _, rfl⟩ := List.mem_map.1 hu; rfl
                        · obtain ⟨z, _, rfl⟩ := List.mem_map.1 hu; rfl)
                      exact ⟨A, _, c, h⟩
                    have HWN := Lib.hid ho
                    clear hg hb hv ho
                    first | (refine hK.out _ _ ?_ (fun hHeld => ?_)) | (go_wp2_with fail; refine hK.out _ _ ?_ (fun hHeld => ?_))
                    · (try dsimp only); exact GB.out
                    clear hK K
                    refine wpAnyH_take (i := 12) (oi := _) (v := ?_) rfl (by kernel_rfl) (by kernel_rfl) (by kernel_rfl) (fun _ _ _ h => h) (Or.inl ⟨by rfl, ?_⟩) (by assumption) ?_
                    rotate_left 1
                    · (intro w hSw; (try dsimp only at hSw); go_simp; first | done | with_reducible rfl)
                    try go_simp
                    refine wpAnyH_take (i := 13) (oi := _) (v := ?_) rfl (by kernel_rfl) (by kernel_rfl) (by kernel_rfl) (fun _ _ _ h => h) (Or.inl ⟨by rfl, ?_⟩) (by assumption) ?_
                    rotate_left 1
                    · (intro w hSw; (try dsimp only at hSw); go_simp; first | done | with_reducible rfl)
                    try go_simp
                    refine wpAnyH_ready (rs := [14]) (by kernel_rfl) (by simp) ?_
                    refine AllReadyH.cons (o := _) rfl (fun K hK => ?_) ?_
                    · clear hHeld
                      have c4 := HRb.c (j * 5 + 4) (HCU.out 4 _ rfl)
                      have f4 := HRb.fz (j * 5 + 4)
                      have hsz := HRb.lt
                      have gs := GB.out.andThen (grown_setCell _ g (j * 5 + 4) (.slice A2 n2 c2)) (by rintro i ⟨⟩; exact .inl (by have := (World.ownsRow.lt HOU.out.own g rfl).1; have := HQE.out; omega))
                      replace gs := Lib.hid gs
                      go_simp
                      first | (refine hK.out _ _ ?_ (fun hHeld => ?_)) | (go_wp2_with fail; refine hK.out _ _ ?_ (fun hHeld => ?_))
                      · (try dsimp only); exact gs.out
                      clear hK K
                      clear c4 f4 hsz

                      refine wpAnyH_done (by kernel_rfl) ?_ _
                      refine NoPanic.normal ?_
                      go_simp
                      go_wp2_with fail
                      go_ret
                      have hlen : (l.set j ⟨o.code, o.cr, o.pl, o.slots, o.needs ++ [s]⟩).length = m := by rw [List.length_set]; exact HM.out.symm
                      refine ⟨some ⟨g, 0, none⟩, d, us.set j ⟨uc, ur, up, uA, un, uk, A2, n2, c2⟩, l.set j ⟨o.code, o.cr, o.pl, o.slots, o.needs ++ [s]⟩, by rw [hlen]; rfl, ?_, HSM.out.set j ⟨o.code, o.cr, o.pl, o.slots, o.needs ++ [s]⟩ (by have := HSO.out; simp only; omega) (by have := HSO.out; simp only [List.length_append, List.length_singleton]; omega), GB.out.andThen (grown_setCell _ g (j * 5 + 4) (.slice A2 n2 c2)) (by rintro i ⟨⟩; exact .inl (by have := (World.ownsRow.lt HOU.out.own g rfl).1; have := HQE.out; omega))⟩
                      rw [List.length_set]
                      have hOU := HOU.out

                      exact odd_done (r := (Value.slice xA xn xk).ownBlock) hOU HSE.out HU.out ((grow_r _ GW.out).trans HGG.out) (fun k hk => .inr hk) (f := 4) (x := .slice A2 n2 c2) (by omega) rfl (odd_needs hOU HSE.out HU.out HOJ.out GW.out HSL.out HWN.out HGG.out HBK.out (by have := HSO.out; have := HT.out; omega) (j * 5 + 4) (.slice A2 n2 c2))
                    exact AllReadyH.nil
                  exact AllReadyH.nil
                exact AllReadyH.nil
              exact AllReadyH.nil
            exact AllReadyH.nil
          refine AllReadyH.cons (o := _) rfl (fun K hK => ?_) ?_
          · clear hHeld
            go_simp
            refine (codes_r _).mono ?_
            rintro e' w5 ⟨rfl, hcs, g5⟩
            first | (refine hK.out _ _ ?_ (fun hHeld => ?_)) | (go_wp2_with fail; refine hK.out _ _ ?_ (fun hHeld => ?_))
            · (try dsimp only); exact gd.trans g5
            clear hK K
            have HCQ := Lib.hid (strs_cell hcs HSC.out)
            replace HRd := Lib.hid (HRd.out.kept g5)
            replace HNd := Lib.hid (own_keep HNd.out g5 (fun _ e => by cases e))
            replace gd := gd.trans g5
            replace GW := Lib.hid (GW.out.trans g5)
            clear g5 hcs
            generalize wx.heap.size = CB at *

            refine wpAnyH_take (i := 8) (oi := _) (v := .pointer (some ⟨CB, e, none⟩)) rfl (by kernel_rfl) (by kernel_rfl) (by kernel_rfl) (fun _ _ _ h => h) (Or.inl ⟨by kernel_rfl, ?_⟩) (by assumption) ?_
            · (intro w hSw; (try dsimp only at hSw); go_simp; first | done | with_reducible rfl)
            try go_simp
            refine wpAnyH_ready (rs := [4, 9]) (by kernel_rfl) (by simp) ?_
            refine AllReadyH.cons (o := _) rfl (fun K hK => ?_) ?_
            · clear hHeld
              have c4 := HRd.out.c (j * 5 + 4) (HCU.out 4 _ rfl)
              go_simp
              first | (refine hK.out _ _ ?_ (fun hHeld => ?_)) | (go_wp2_with fail; refine hK.out _ _ ?_ (fun hHeld => ?_))
              · (try dsimp only); exact gd
              clear hK K
              clear c4

              refine wpAnyH_ready (rs := [9]) (by kernel_rfl) (by simp) ?_
              refine AllReadyH.cons (o := _) rfl (fun K hK => ?_) ?_
              · clear hHeld
                have cq := HCQ.out
                go_simp
                first | (refine hK.out _ _ ?_ (fun hHeld => ?_)) | (go_wp2_with fail; refine hK.out _ _ ?_ (fun hHeld => ?_))
                · (try dsimp only); exact gd
                clear hK K
                clear cq HCQ

                refine wpAnyH_ready (rs := [10]) (by kernel_rfl) (by simp) ?_
                refine AllReadyH.cons (o := _) rfl (fun K hK => ?_) ?_
                · clear hHeld
                  obtain ⟨w6, e6, HN6, g6⟩ := row_of w5 9 #[.string ⟨s.toArray⟩]
                  go_simp
                  first | (refine hK.out _ _ ?_ (fun hHeld => ?_)) | (go_wp2_with fail; refine hK.out _ _ ?_ (fun hHeld => ?_))
                  · (try dsimp only); rw [← e6]; exact gd.trans g6
                  clear hK K
                  rw [← e6]
                  have HV := Lib.hid (strs_row (l := [s]) HN6 rfl rfl (by simp) (fun z hz => by rw [List.mem_singleton.1 hz]; exact HSL.out))
                  replace HRd := Lib.hid (HRd.out.kept g6)
                  replace HNd := Lib.hid (own_keep HNd.out g6 (fun _ e => by cases e))
                  replace gd := gd.trans g6
                  replace GW := Lib.hid (GW.out.trans g6)
                  clear e6 g6 HN6
                  generalize w5.heap.size = Z at *

                  refine wpAnyH_ready (rs := [11]) (by kernel_rfl) (by simp) ?_
                  refine AllReadyH.cons (o := _) rfl (fun K hK => ?_) ?_
                  · clear hHeld
                    refine step_append_vals elt9 rfl (.tmp 101) (.tmp 107) rfl (Q + 1) (.slice xA xn xk) o.needs.length _ rfl HNd.out _ 1 1 _ rfl HV.out.v HBB.out (by have := HRd.out.lt; have := (World.ownsRow.lt HOU.out.own g rfl).1; omega) ?_
                    intro v2 w8 ho hg hb hv
                    have HRb := HRd.out.keptR hg (fun e => HDI.out.2 e.symm)
                    have HGG := Lib.hid hg
                    have HBK := Lib.hid hb
                    have GB := Lib.hid (gd.andThen hg (fun r e => .inl (by have := (World.ownsRow.lt HNd.out r e).1; have := HQE.out; omega)))
                    obtain ⟨A2, n2, c2, rfl⟩ : ∃ A n c, v2 = .slice A n c := by
                      obtain ⟨A, c, h, _⟩ := own_vals ho (fun u hu => by
                        rcases List.mem_append.1 hu with hu | hu
                        · obtain ⟨z, _, rfl⟩ := List.mem_map.1 hu; rfl
                        · obtain ⟨z, _, rfl⟩ := List.mem_map.1 hu; rfl)
                      exact ⟨A, _, c, h⟩
                    have HWN := Lib.hid ho
                    clear hg hb hv ho
                    first | (refine hK.out _ _ ?_ (fun hHeld => ?_)) | (go_wp2_with fail; refine hK.out _ _ ?_ (fun hHeld => ?_))
                    · (try dsimp only); exact GB.out
                    clear hK K
                    refine wpAnyH_take (i := 12) (oi := _) (v := ?_) rfl (by kernel_rfl) (by kernel_rfl) (by kernel_rfl) (fun _ _ _ h => h) (Or.inl ⟨by rfl, ?_⟩) (by assumption) ?_
                    rotate_left 1
                    · (intro w hSw; (try dsimp only at hSw); go_simp; first | done | with_reducible rfl)
                    try go_simp
                    refine wpAnyH_take (i := 13) (oi := _) (v := ?_) rfl (by kernel_rfl) (by kernel_rfl) (by kernel_rfl) (fun _ _ _ h => h) (Or.inl ⟨by rfl, ?_⟩) (by assumption) ?_
                    rotate_left 1
                    · (intro w hSw; (try dsimp only at hSw); go_simp; first | done | with_reducible rfl)
                    try go_simp
                    refine wpAnyH_ready (rs := [14]) (by kernel_rfl) (by simp) ?_
                    refine AllReadyH.cons (o := _) rfl (fun K hK => ?_) ?_
                    · clear hHeld
                      have c4 := HRb.c (j * 5 + 4) (HCU.out 4 _ rfl)
                      have f4 := HRb.fz (j * 5 + 4)
                      have hsz := HRb.lt
                      have gs := GB.out.andThen (grown_setCell _ g (j * 5 + 4) (.slice A2 n2 c2)) (by rintro i ⟨⟩; exact .inl (by have := (World.ownsRow.lt HOU.out.own g rfl).1; have := HQE.out; omega))
                      replace gs := Lib.hid gs
                      go_simp
                      first | (refine hK.out _ _ ?_ (fun hHeld => ?_)) | (go_wp2_with fail; refine hK.out _ _ ?_ (fun hHeld => ?_))
                      · (try dsimp only); exact gs.out
                      clear hK K
                      clear c4 f4 hsz

                      refine wpAnyH_done (by kernel_rfl) ?_ _
                      refine NoPanic.normal ?_
                      go_simp
                      go_wp2_with fail
                      go_ret
                      have hlen : (l.set j ⟨o.code, o.cr, o.pl, o.slots, o.needs ++ [s]⟩).length = m := by rw [List.length_set]; exact HM.out.symm
                      refine ⟨some ⟨g, 0, none⟩, d, us.set j ⟨uc, ur, up, uA, un, uk, A2, n2, c2⟩, l.set j ⟨o.code, o.cr, o.pl, o.slots, o.needs ++ [s]⟩, by rw [hlen]; rfl, ?_, HSM.out.set j ⟨o.code, o.cr, o.pl, o.slots, o.needs ++ [s]⟩ (by have := HSO.out; simp only; omega) (by have := HSO.out; simp only [List.length_append, List.length_singleton]; omega), GB.out.andThen (grown_setCell _ g (j * 5 + 4) (.slice A2 n2 c2)) (by rintro i ⟨⟩; exact .inl (by have := (World.ownsRow.lt HOU.out.own g rfl).1; have := HQE.out; omega))⟩
                      rw [List.length_set]
                      have hOU := HOU.out

                      exact odd_done (r := (Value.slice xA xn xk).ownBlock) hOU HSE.out HU.out ((grow_r _ GW.out).trans HGG.out) (fun k hk => .inr hk) (f := 4) (x := .slice A2 n2 c2) (by omega) rfl (odd_needs hOU HSE.out HU.out HOJ.out GW.out HSL.out HWN.out HGG.out HBK.out (by have := HSO.out; have := HT.out; omega) (j * 5 + 4) (.slice A2 n2 c2))
                    exact AllReadyH.nil
                  exact AllReadyH.nil
                exact AllReadyH.nil
              exact AllReadyH.nil
            refine AllReadyH.cons (o := _) rfl (fun K hK => ?_) ?_
            · clear hHeld
              have cq := HCQ.out
              go_simp
              first | (refine hK.out _ _ ?_ (fun hHeld => ?_)) | (go_wp2_with fail; refine hK.out _ _ ?_ (fun hHeld => ?_))
              · (try dsimp only); exact gd
              clear hK K
              clear cq HCQ

              refine wpAnyH_ready (rs := [4, 10]) (by kernel_rfl) (by simp) ?_
              refine AllReadyH.cons (o := _) rfl (fun K hK => ?_) ?_
              · clear hHeld
                have c4 := HRd.out.c (j * 5 + 4) (HCU.out 4 _ rfl)
                go_simp
                first | (refine hK.out _ _ ?_ (fun hHeld => ?_)) | (go_wp2_with fail; refine hK.out _ _ ?_ (fun hHeld => ?_))
                · (try dsimp only); exact gd
                clear hK K
                clear c4

                refine wpAnyH_ready (rs := [10]) (by kernel_rfl) (by simp) ?_
                refine AllReadyH.cons (o := _) rfl (fun K hK => ?_) ?_
                · clear hHeld
                  obtain ⟨w6, e6, HN6, g6⟩ := row_of w5 9 #[.string ⟨s.toArray⟩]
                  go_simp
                  first | (refine hK.out _ _ ?_ (fun hHeld => ?_)) | (go_wp2_with fail; refine hK.out _ _ ?_ (fun hHeld => ?_))
                  · (try dsimp only); rw [← e6]; exact gd.trans g6
                  clear hK K
                  rw [← e6]
                  have HV := Lib.hid (strs_row (l := [s]) HN6 rfl rfl (by simp) (fun z hz => by rw [List.mem_singleton.1 hz]; exact HSL.out))
                  replace HRd := Lib.hid (HRd.out.kept g6)
                  replace HNd := Lib.hid (own_keep HNd.out g6 (fun _ e => by cases e))
                  replace gd := gd.trans g6
                  replace GW := Lib.hid (GW.out.trans g6)
                  clear e6 g6 HN6
                  generalize w5.heap.size = Z at *

                  refine wpAnyH_ready (rs := [11]) (by kernel_rfl) (by simp) ?_
                  refine AllReadyH.cons (o := _) rfl (fun K hK => ?_) ?_
                  · clear hHeld
                    refine step_append_vals elt9 rfl (.tmp 101) (.tmp 107) rfl (Q + 1) (.slice xA xn xk) o.needs.length _ rfl HNd.out _ 1 1 _ rfl HV.out.v HBB.out (by have := HRd.out.lt; have := (World.ownsRow.lt HOU.out.own g rfl).1; omega) ?_
                    intro v2 w8 ho hg hb hv
                    have HRb := HRd.out.keptR hg (fun e => HDI.out.2 e.symm)
                    have HGG := Lib.hid hg
                    have HBK := Lib.hid hb
                    have GB := Lib.hid (gd.andThen hg (fun r e => .inl (by have := (World.ownsRow.lt HNd.out r e).1; have := HQE.out; omega)))
                    obtain ⟨A2, n2, c2, rfl⟩ : ∃ A n c, v2 = .slice A n c := by
                      obtain ⟨A, c, h, _⟩ := own_vals ho (fun u hu => by
                        rcases List.mem_append.1 hu with hu | hu
                        · obtain ⟨z, _, rfl⟩ := List.mem_map.1 hu; rfl
                        · obtain ⟨z, _, rfl⟩ := List.mem_map.1 hu; rfl)
                      exact ⟨A, _, c, h⟩
                    have HWN := Lib.hid ho
                    clear hg hb hv ho
                    first | (refine hK.out _ _ ?_ (fun hHeld => ?_)) | (go_wp2_with fail; refine hK.out _ _ ?_ (fun hHeld => ?_))
                    · (try dsimp only); exact GB.out
                    clear hK K
                    refine wpAnyH_take (i := 12) (oi := _) (v := ?_) rfl (by kernel_rfl) (by kernel_rfl) (by kernel_rfl) (fun _ _ _ h => h) (Or.inl ⟨by rfl, ?_⟩) (by assumption) ?_
                    rotate_left 1
                    · (intro w hSw; (try dsimp only at hSw); go_simp; first | done | with_reducible rfl)
                    try go_simp
                    refine wpAnyH_take (i := 13) (oi := _) (v := ?_) rfl (by kernel_rfl) (by kernel_rfl) (by kernel_rfl) (fun _ _ _ h => h) (Or.inl ⟨by rfl, ?_⟩) (by assumption) ?_
                    rotate_left 1
                    · (intro w hSw; (try dsimp only at hSw); go_simp; first | done | with_reducible rfl)
                    try go_simp
                    refine wpAnyH_ready (rs := [14]) (by kernel_rfl) (by simp) ?_
                    refine AllReadyH.cons (o := _) rfl (fun K hK => ?_) ?_
                    · clear hHeld
                      have c4 := HRb.c (j * 5 + 4) (HCU.out 4 _ rfl)
                      have f4 := HRb.fz (j * 5 + 4)
                      have hsz := HRb.lt
                      have gs := GB.out.andThen (grown_setCell _ g (j * 5 + 4) (.slice A2 n2 c2)) (by rintro i ⟨⟩; exact .inl (by have := (World.ownsRow.lt HOU.out.own g rfl).1; have := HQE.out; omega))
                      replace gs := Lib.hid gs
                      go_simp
                      first | (refine hK.out _ _ ?_ (fun hHeld => ?_)) | (go_wp2_with fail; refine hK.out _ _ ?_ (fun hHeld => ?_))
                      · (try dsimp only); exact gs.out
                      clear hK K
                      clear c4 f4 hsz

                      refine wpAnyH_done (by kernel_rfl) ?_ _
                      refine NoPanic.normal ?_
                      go_simp
                      go_wp2_with fail
                      go_ret
                      have hlen : (l.set j ⟨o.code, o.cr, o.pl, o.slots, o.needs ++ [s]⟩).length = m := by rw [List.length_set]; exact HM.out.symm
                      refine ⟨some ⟨g, 0, none⟩, d, us.set j ⟨uc, ur, up, uA, un, uk, A2, n2, c2⟩, l.set j ⟨o.code, o.cr, o.pl, o.slots, o.needs ++ [s]⟩, by rw [hlen]; rfl, ?_, HSM.out.set j ⟨o.code, o.cr, o.pl, o.slots, o.needs ++ [s]⟩ (by have := HSO.out; simp only; omega) (by have := HSO.out; simp only [List.length_append, List.length_singleton]; omega), GB.out.andThen (grown_setCell _ g (j * 5 + 4) (.slice A2 n2 c2)) (by rintro i ⟨⟩; exact .inl (by have := (World.ownsRow.lt HOU.out.own g rfl).1; have := HQE.out; omega))⟩
                      rw [List.length_set]
                      have hOU := HOU.out

                      exact odd_done (r := (Value.slice xA xn xk).ownBlock) hOU HSE.out HU.out ((grow_r _ GW.out).trans HGG.out) (fun k hk => .inr hk) (f := 4) (x := .slice A2 n2 c2) (by omega) rfl (odd_needs hOU HSE.out HU.out HOJ.out GW.out HSL.out HWN.out HGG.out HBK.out (by have := HSO.out; have := HT.out; omega) (j * 5 + 4) (.slice A2 n2 c2))
                    exact AllReadyH.nil
                  exact AllReadyH.nil
                exact AllReadyH.nil
              refine AllReadyH.cons (o := _) rfl (fun K hK => ?_) ?_
              · clear hHeld
                obtain ⟨w6, e6, HN6, g6⟩ := row_of w5 9 #[.string ⟨s.toArray⟩]
                go_simp
                first | (refine hK.out _ _ ?_ (fun hHeld => ?_)) | (go_wp2_with fail; refine hK.out _ _ ?_ (fun hHeld => ?_))
                · (try dsimp only); rw [← e6]; exact gd.trans g6
                clear hK K
                rw [← e6]
                have HV := Lib.hid (strs_row (l := [s]) HN6 rfl rfl (by simp) (fun z hz => by rw [List.mem_singleton.1 hz]; exact HSL.out))
                replace HRd := Lib.hid (HRd.out.kept g6)
                replace HNd := Lib.hid (own_keep HNd.out g6 (fun _ e => by cases e))
                replace gd := gd.trans g6
                replace GW := Lib.hid (GW.out.trans g6)
                clear e6 g6 HN6
                generalize w5.heap.size = Z at *

                refine wpAnyH_ready (rs := [4]) (by kernel_rfl) (by simp) ?_
                refine AllReadyH.cons (o := _) rfl (fun K hK => ?_) ?_
                · clear hHeld
                  have c4 := HRd.out.c (j * 5 + 4) (HCU.out 4 _ rfl)
                  go_simp
                  first | (refine hK.out _ _ ?_ (fun hHeld => ?_)) | (go_wp2_with fail; refine hK.out _ _ ?_ (fun hHeld => ?_))
                  · (try dsimp only); exact gd
                  clear hK K
                  clear c4

                  refine wpAnyH_ready (rs := [11]) (by kernel_rfl) (by simp) ?_
                  refine AllReadyH.cons (o := _) rfl (fun K hK => ?_) ?_
                  · clear hHeld
                    refine step_append_vals elt9 rfl (.tmp 101) (.tmp 107) rfl (Q + 1) (.slice xA xn xk) o.needs.length _ rfl HNd.out _ 1 1 _ rfl HV.out.v HBB.out (by have := HRd.out.lt; have := (World.ownsRow.lt HOU.out.own g rfl).1; omega) ?_
                    intro v2 w8 ho hg hb hv
                    have HRb := HRd.out.keptR hg (fun e => HDI.out.2 e.symm)
                    have HGG := Lib.hid hg
                    have HBK := Lib.hid hb
                    have GB := Lib.hid (gd.andThen hg (fun r e => .inl (by have := (World.ownsRow.lt HNd.out r e).1; have := HQE.out; omega)))
                    obtain ⟨A2, n2, c2, rfl⟩ : ∃ A n c, v2 = .slice A n c := by
                      obtain ⟨A, c, h, _⟩ := own_vals ho (fun u hu => by
                        rcases List.mem_append.1 hu with hu | hu
                        · obtain ⟨z, _, rfl⟩ := List.mem_map.1 hu; rfl
                        · obtain ⟨z, _, rfl⟩ := List.mem_map.1 hu; rfl)
                      exact ⟨A, _, c, h⟩
                    have HWN := Lib.hid ho
                    clear hg hb hv ho
                    first | (refine hK.out _ _ ?_ (fun hHeld => ?_)) | (go_wp2_with fail; refine hK.out _ _ ?_ (fun hHeld => ?_))
                    · (try dsimp only); exact GB.out
                    clear hK K
                    refine wpAnyH_take (i := 12) (oi := _) (v := ?_) rfl (by kernel_rfl) (by kernel_rfl) (by kernel_rfl) (fun _ _ _ h => h) (Or.inl ⟨by rfl, ?_⟩) (by assumption) ?_
                    rotate_left 1
                    · (intro w hSw; (try dsimp only at hSw); go_simp; first | done | with_reducible rfl)
                    try go_simp
                    refine wpAnyH_take (i := 13) (oi := _) (v := ?_) rfl (by kernel_rfl) (by kernel_rfl) (by kernel_rfl) (fun _ _ _ h => h) (Or.inl ⟨by rfl, ?_⟩) (by assumption) ?_
                    rotate_left 1
                    · (intro w hSw; (try dsimp only at hSw); go_simp; first | done | with_reducible rfl)
                    try go_simp
                    refine wpAnyH_ready (rs := [14]) (by kernel_rfl) (by simp) ?_
                    refine AllReadyH.cons (o := _) rfl (fun K hK => ?_) ?_
                    · clear hHeld
                      have c4 := HRb.c (j * 5 + 4) (HCU.out 4 _ rfl)
                      have f4 := HRb.fz (j * 5 + 4)
                      have hsz := HRb.lt
                      have gs := GB.out.andThen (grown_setCell _ g (j * 5 + 4) (.slice A2 n2 c2)) (by rintro i ⟨⟩; exact .inl (by have := (World.ownsRow.lt HOU.out.own g rfl).1; have := HQE.out; omega))
                      replace gs := Lib.hid gs
                      go_simp
                      first | (refine hK.out _ _ ?_ (fun hHeld => ?_)) | (go_wp2_with fail; refine hK.out _ _ ?_ (fun hHeld => ?_))
                      · (try dsimp only); exact gs.out
                      clear hK K
                      clear c4 f4 hsz

                      refine wpAnyH_done (by kernel_rfl) ?_ _
                      refine NoPanic.normal ?_
                      go_simp
                      go_wp2_with fail
                      go_ret
                      have hlen : (l.set j ⟨o.code, o.cr, o.pl, o.slots, o.needs ++ [s]⟩).length = m := by rw [List.length_set]; exact HM.out.symm
                      refine ⟨some ⟨g, 0, none⟩, d, us.set j ⟨uc, ur, up, uA, un, uk, A2, n2, c2⟩, l.set j ⟨o.code, o.cr, o.pl, o.slots, o.needs ++ [s]⟩, by rw [hlen]; rfl, ?_, HSM.out.set j ⟨o.code, o.cr, o.pl, o.slots, o.needs ++ [s]⟩ (by have := HSO.out; simp only; omega) (by have := HSO.out; simp only [List.length_append, List.length_singleton]; omega), GB.out.andThen (grown_setCell _ g (j * 5 + 4) (.slice A2 n2 c2)) (by rintro i ⟨⟩; exact .inl (by have := (World.ownsRow.lt HOU.out.own g rfl).1; have := HQE.out; omega))⟩
                      rw [List.length_set]
                      have hOU := HOU.out

                      exact odd_done (r := (Value.slice xA xn xk).ownBlock) hOU HSE.out HU.out ((grow_r _ GW.out).trans HGG.out) (fun k hk => .inr hk) (f := 4) (x := .slice A2 n2 c2) (by omega) rfl (odd_needs hOU HSE.out HU.out HOJ.out GW.out HSL.out HWN.out HGG.out HBK.out (by have := HSO.out; have := HT.out; omega) (j * 5 + 4) (.slice A2 n2 c2))
                    exact AllReadyH.nil
                  exact AllReadyH.nil
                exact AllReadyH.nil
              exact AllReadyH.nil
            exact AllReadyH.nil
          exact AllReadyH.nil
        · rw [show ((6 : Nat) : Int) = 6 from rfl]
          clear hc11
          have hrm : ((nn : Int)).tmod 6 = ((nn % 6 : Nat) : Int) := tmod_nat nn 6
          obtain ⟨e, he⟩ : ∃ e, e = nn % 6 := ⟨_, rfl⟩
          have he8 : e < 6 := by omega
          rw [← he] at hrm
          have e1 : (0 : Int) ≤ (e : Int) := by omega
          have e2 : (e : Int) < 6 := by omega
          have e3 : IntKind.i64.wrap (e : Int) = (e : Int) := by rw [IntKind.wrap_i64]; omega
          clear he
          obtain ⟨s, hs6⟩ : ∃ s, codesL[e]? = some s := ⟨_, List.getElem?_eq_getElem (by show e < 6; exact he8)⟩
          have HSC := Lib.hid hs6
          have HSL : Hid (s.length ≤ 1152921504606846976) := Lib.hid (codes_len s (List.mem_of_getElem? hs6))
          clear hs6
          go_wp2_with fail
          refine (codes_r _).mono ?_
          rintro e' w5 ⟨rfl, hcs, g5⟩
          have cq := strs_cell hcs HSC.out
          have ga := World.grownBy_alloc w5 (.cells #[.string ⟨s.toArray⟩] 9) none
          have HRg := HR.out.kept (g5.trans ga)
          have y4 := HRg.c (j * 5 + 4) (HCU.out 4 _ rfl)
          have f4 := HRg.fz (j * 5 + 4)
          have hzg := HRg.lt
          have GA := Lib.hid (g5.trans ga)
          have HBA : Hid (w4.heap.size ≤ w5.heap.size) := Lib.hid g5.size
          have HST : Hid (Strs (w5.alloc (.cells #[.string ⟨s.toArray⟩] 9)) (some ⟨w5.heap.size, 0, none⟩) 1 1 [s]) := Lib.hid ⟨new_vals w5 9 [.string ⟨s.toArray⟩] 1 rfl (by omega) (fun u hu => by rw [List.mem_singleton.1 hu]; rfl), fun x hx => by rw [List.mem_singleton.1 hx]; exact HSL.out⟩
          have cq2 := gcell ga cq
          clear hcs g5 ga HRg
          go_upto_region 35 with fail
          go_wp2_with fail
          go_ret
          have hlen : (l.set j ⟨o.code, o.cr, o.pl, o.slots, [s]⟩).length = m := by rw [List.length_set]; exact HM.out.symm
          refine ⟨some ⟨g, 0, none⟩, d, us.set j ⟨uc, ur, up, uA, un, uk, (some ⟨w5.heap.size, 0, none⟩), 1, 1⟩, l.set j ⟨o.code, o.cr, o.pl, o.slots, [s]⟩, by rw [hlen]; rfl, ?_, HSM.out.set j ⟨o.code, o.cr, o.pl, o.slots, [s]⟩ (by have := HSO.out; simp only; omega) (by have := HT.out; simp only [List.length_singleton]; omega), (HG.out.trans GA.out).andThen (grown_setCell _ g (j * 5 + 4) (.slice (some ⟨w5.heap.size, 0, none⟩) 1 1)) (by rintro i ⟨⟩; exact .inl (by have := (World.ownsRow.lt HOU.out.own g rfl).1; have := HQE.out; omega))⟩
          rw [List.length_set]
          have hOU := HOU.out

          exact odd_done (r := none) hOU HSE.out HU.out GA.out (fun _ e => by cases e) (f := 4) (x := .slice (some ⟨w5.heap.size, 0, none⟩) 1 1) (by omega) rfl (odd_fresh hOU HU.out HOJ.out GA.out HST.out (by rintro ad ⟨⟩; exact HBA.out) (by simp) (j * 5 + 4) (.slice (some ⟨w5.heap.size, 0, none⟩) 1 1))
        · rw [show ((7 : Nat) : Int) = 7 from rfl]
          clear hc11
          have ga := World.grownBy_alloc w4 (.cells #[.string ⟨#[90]⟩] 9) none
          have HRg := HR.out.kept ga
          have HR0 := HR.out
          have y4 := HRg.c (j * 5 + 4) (HCU.out 4 _ rfl)
          have x4 := HR0.c (j * 5 + 4) (HCU.out 4 _ rfl)
          have hOU0 := HOU.out
          have HDI := Lib.hid (hOU0.dis j _ HU.out g rfl)
          have HOa : Hid ((w4.alloc (.cells #[.string ⟨#[90]⟩] 9)).ownsRow (Q + 1) 9 1 (Value.slice xA xn xk) o.needs.length (o.needs.map (fun s => Value.string ⟨s.toArray⟩))) := Lib.hid (own_keep (hOU0.is j _ o HU.out HOJ.out).2.2 ga (fun _ e => by cases e))
          have HV := Lib.hid (new_vals w4 9 [.string ⟨#[90]⟩] 1 rfl (by omega) (fun u hu => by rw [List.mem_singleton.1 hu]; rfl))
          have GA := Lib.hid ga
          have HBB : Hid (o.needs.length + 1 ≤ 1000000 ∧ Q + 1 ≤ (w4.alloc (.cells #[.string ⟨#[90]⟩] 9)).heap.size) := Lib.hid ⟨by have := HSO.out; have := HT.out; omega, by have := (World.ownsRow.lt hOU0.own g rfl).1; have := HRg.lt; omega⟩
          have HRh := Lib.hid HRg
          clear ga HRg HR0 hOU0
          go_upto_region 35 with (at_builtin; first
            | (refine wpList_append_vals elt9 rfl (.tmp 128) (.tmp 129) rfl (Q + 1) (Value.slice xA xn xk) o.needs.length _ rfl HOa.out _ 1 1 _ rfl HV.out HBB.out.1 HBB.out.2 ?_
               intro v2 w8 ho hg hb hv
               obtain ⟨A2, n2, c2, rfl⟩ : ∃ A n c, v2 = .slice A n c := by
                 obtain ⟨A, c, h, _⟩ := own_vals ho (fun u hu => by
                   rcases List.mem_append.1 hu with hu | hu
                   · obtain ⟨z, _, rfl⟩ := List.mem_map.1 hu; rfl
                   · rw [List.mem_singleton.1 hu]; rfl)
                 exact ⟨A, _, c, h⟩
               have HRb := HRh.out.keptR hg (fun e => HDI.out.2 e.symm)
               have z4 := HRb.c (j * 5 + 4) (HCU.out 4 _ rfl)
               have f4 := HRb.fz (j * 5 + 4)
               have hzg := HRb.lt
               have HWN := Lib.hid ho
               have HGG := Lib.hid hg
               have HBK := Lib.hid hb
               have GB := Lib.hid ((HG.out.trans GA.out).andThen hg (fun r e => .inl (by have := (World.ownsRow.lt HOa.out r e).1; have := HQE.out; omega)))
               clear ho hg hb hv HRb))
          go_wp2_with fail
          go_ret
          have hlen : (l.set j ⟨o.code, o.cr, o.pl, o.slots, o.needs ++ [[90]]⟩).length = m := by rw [List.length_set]; exact HM.out.symm
          refine ⟨some ⟨g, 0, none⟩, d, us.set j ⟨uc, ur, up, uA, un, uk, A2, n2, c2⟩, l.set j ⟨o.code, o.cr, o.pl, o.slots, o.needs ++ [[90]]⟩, by rw [hlen]; rfl, ?_, HSM.out.set j ⟨o.code, o.cr, o.pl, o.slots, o.needs ++ [[90]]⟩ (by have := HSO.out; simp only; omega) (by have := HSO.out; simp only [List.length_append, List.length_singleton]; omega), GB.out.andThen (grown_setCell _ g (j * 5 + 4) (.slice A2 n2 c2)) (by rintro i ⟨⟩; exact .inl (by have := (World.ownsRow.lt HOU.out.own g rfl).1; have := HQE.out; omega))⟩
          rw [List.length_set]
          have hOU := HOU.out

          exact odd_done (r := (Value.slice xA xn xk).ownBlock) hOU HSE.out HU.out ((grow_r _ GA.out).trans HGG.out) (fun k hk => .inr hk) (f := 4) (x := .slice A2 n2 c2) (by omega) rfl (odd_needs hOU HSE.out HU.out HOJ.out GA.out (by decide : ([90] : Str).length ≤ 1152921504606846976) HWN.out HGG.out HBK.out (by have := HSO.out; have := HT.out; omega) (j * 5 + 4) (.slice A2 n2 c2))
        · rw [show ((8 : Nat) : Int) = 8 from rfl]
          clear hc11
          have hrm : ((nn : Int)).tmod 7 = ((nn % 7 : Nat) : Int) := tmod_nat nn 7
          obtain ⟨e, he⟩ : ∃ e, e = nn % 7 := ⟨_, rfl⟩
          have he8 : e < 7 := by omega
          rw [← he] at hrm
          have e1 : (0 : Int) ≤ (e : Int) := by omega
          have e2 : (e : Int) < 7 := by omega
          have e3 : IntKind.i64.wrap (e : Int) = (e : Int) := by rw [IntKind.wrap_i64]; omega
          clear he
          have ga := World.grownBy_alloc w4 (.cells #[.string ⟨#[65, 49]⟩, .string ⟨#[66, 49]⟩, .string ⟨#[66, 50]⟩, .string ⟨#[67, 49]⟩, .string ⟨#[68, 49]⟩, .string ⟨#[69, 57]⟩] 9) none
          have HRg := HR.out.kept ga
          have y4 := HRg.c (j * 5 + 4) (HCU.out 4 _ rfl)
          have f4 := HRg.fz (j * 5 + 4)
          have hzg := HRg.lt
          have e6 : (e : Int) ≤ 6 := by omega
          have e7 : e ≤ 6 := by omega
          have GA := Lib.hid ga
          have HBA : Hid (w4.heap.size ≤ w4.heap.size) := Lib.hid (Nat.le_refl _)
          have HST : Hid (Strs (w4.alloc (.cells #[.string ⟨#[65, 49]⟩, .string ⟨#[66, 49]⟩, .string ⟨#[66, 50]⟩, .string ⟨#[67, 49]⟩, .string ⟨#[68, 49]⟩, .string ⟨#[69, 57]⟩] 9)) (some ⟨w4.heap.size, 0, none⟩) e 6 (codesL.take e)) := Lib.hid ⟨by
            have h := (new_vals w4 9 #[.string ⟨#[65, 49]⟩, .string ⟨#[66, 49]⟩, .string ⟨#[66, 50]⟩, .string ⟨#[67, 49]⟩, .string ⟨#[68, 49]⟩, .string ⟨#[69, 57]⟩].toList 6 rfl (by omega) (fun u hu => by simp at hu; rcases hu with rfl | rfl | rfl | rfl | rfl | rfl <;> rfl)).takeV e e7
            rw [List.map_take]
            exact h, fun x hx => by
            exact codes_len x (List.mem_of_mem_take hx)⟩
          clear ga HRg
          go_upto_region 35 with fail
          go_wp2_with fail
          go_ret
          have hlen : (l.set j ⟨o.code, o.cr, o.pl, o.slots, (codesL.take e)⟩).length = m := by rw [List.length_set]; exact HM.out.symm
          refine ⟨some ⟨g, 0, none⟩, d, us.set j ⟨uc, ur, up, uA, un, uk, (some ⟨w4.heap.size, 0, none⟩), e, 6⟩, l.set j ⟨o.code, o.cr, o.pl, o.slots, (codesL.take e)⟩, by rw [hlen]; rfl, ?_, HSM.out.set j ⟨o.code, o.cr, o.pl, o.slots, (codesL.take e)⟩ (by have := HSO.out; simp only; omega) (by have := HT.out; simp only [List.length_take]; omega), (HG.out.trans GA.out).andThen (grown_setCell _ g (j * 5 + 4) (.slice (some ⟨w4.heap.size, 0, none⟩) e 6)) (by rintro i ⟨⟩; exact .inl (by have := (World.ownsRow.lt HOU.out.own g rfl).1; have := HQE.out; omega))⟩
          rw [List.length_set]
          have hOU := HOU.out

          exact odd_done (r := none) hOU HSE.out HU.out GA.out (fun _ e => by cases e) (f := 4) (x := .slice (some ⟨w4.heap.size, 0, none⟩) e 6) (by omega) rfl (odd_fresh hOU HU.out HOJ.out GA.out HST.out (by rintro ad ⟨⟩; exact HBA.out) (by simp only [List.length_take]; omega) (j * 5 + 4) (.slice (some ⟨w4.heap.size, 0, none⟩) e 6))
        · rw [show ((9 : Nat) : Int) = 9 from rfl]
          clear hc11
          have hrm : ((nn : Int)).tmod (m : Int) = ((nn % m : Nat) : Int) := tmod_nat nn m
          obtain ⟨e, he⟩ : ∃ e, e = nn % m := ⟨_, rfl⟩
          have hem : e < m := by rw [he]; exact Nat.mod_lt _ (by omega)
          rw [← he] at hrm
          have e1 : (0 : Int) ≤ (e : Int) := by omega
          have e2 : (e : Int) < (m : Int) := by omega
          have e3 : IntKind.i64.wrap (e : Int) = (e : Int) := by rw [IntKind.wrap_i64]; omega
          clear he
          obtain ⟨u2, hu2⟩ : ∃ u2, us[e]? = some u2 := ⟨_, List.getElem?_eq_getElem (by have := HOU.out.vlen; have := HM.out; omega)⟩
          obtain ⟨o2, ho2⟩ : ∃ o2, l[e]? = some o2 := ⟨_, List.getElem?_eq_getElem (by have := HM.out; omega)⟩
          obtain ⟨cur2, hrow2, hcur2⟩ := out_cells HOU.out.own hu2
          obtain rfl := row_eq hrow2 HR.out
          have HU2 := Lib.hid hu2
          have HO2 := Lib.hid ho2
          have HCV := Lib.hid hcur2
          obtain ⟨vc2, vr2, vp2, sA2, sn2, sc2, nA2, nn2, nc2⟩ := u2
          clear hu2 ho2 hcur2 hrow2
          go_upto_region 31 with fail
          have gz : w4.grownBy w4.drew (some g) := grow_r _ (grown_dr (grown_refl _))
          have HRd := Lib.hid (HR.out.kept (grown_dr (grown_refl w4)))
          have HOW := Lib.hid (own_keep HOU.out.own (grown_dr (grown_refl w4)) (fun _ e => by cases e))
          refine wp_region_noPanic ?_
          refine wp_region_held_drew (S := (fun W => w4.grownBy W (some g))) (by kernel_rfl) ?_ (fun hHeld => ?_)
          · (try dsimp only); exact gz
          generalize w4.drew = wx at *
          refine wpAnyH_take (i := 0) (oi := _) (v := ?_) rfl (by kernel_rfl) (by kernel_rfl) (by kernel_rfl) (fun _ _ _ h => h) (Or.inl ⟨by rfl, ?_⟩) (by assumption) ?_
          rotate_left 1
          · (intro w hSw; (try dsimp only at hSw); go_simp; first | done | with_reducible rfl)
          try go_simp
          refine wpAnyH_take (i := 1) (oi := _) (v := ?_) rfl (by kernel_rfl) (by kernel_rfl) (by kernel_rfl) (fun _ _ _ h => h) (Or.inl ⟨by rfl, ?_⟩) (by assumption) ?_
          rotate_left 1
          · (intro w hSw; (try dsimp only at hSw); go_simp; first | done | with_reducible rfl)
          try go_simp
          refine wpAnyH_take (i := 2) (oi := _) (v := ?_) rfl (by kernel_rfl) (by kernel_rfl) (by kernel_rfl) (fun _ _ _ h => h) (Or.inl ⟨by rfl, ?_⟩) (by assumption) ?_
          rotate_left 1
          · (intro w hSw; (try dsimp only at hSw); go_simp; first | done | with_reducible rfl)
          try go_simp
          refine wpAnyH_take (i := 3) (oi := _) (v := ?_) rfl (by kernel_rfl) (by kernel_rfl) (by kernel_rfl) (fun _ _ _ h => h) (Or.inl ⟨by rfl, ?_⟩) (by assumption) ?_
          rotate_left 1
          · (intro w hSw; (try dsimp only at hSw); go_simp; first | done | with_reducible rfl)
          try go_simp
          refine wpAnyH_take (i := 4) (oi := _) (v := ?_) rfl (by kernel_rfl) (by kernel_rfl) (by kernel_rfl) (fun _ _ _ h => h) (Or.inl ⟨by rfl, ?_⟩) (by assumption) ?_
          rotate_left 1
          · (intro w hSw; (try dsimp only at hSw); go_simp; first | done | with_reducible rfl)
          try go_simp
          refine wpAnyH_take (i := 5) (oi := _) (v := ?_) rfl (by kernel_rfl) (by kernel_rfl) (by kernel_rfl) (fun _ _ _ h => h) (Or.inl ⟨by rfl, ?_⟩) (by assumption) ?_
          rotate_left 1
          · (intro w hSw; (try dsimp only at hSw); go_simp; first | done | with_reducible rfl)
          try go_simp
          refine wpAnyH_take (i := 7) (oi := _) (v := ?_) rfl (by kernel_rfl) (by kernel_rfl) (by kernel_rfl) (fun _ _ _ h => h) (Or.inl ⟨by rfl, ?_⟩) (by assumption) ?_
          rotate_left 1
          · (intro w hSw; (try dsimp only at hSw); go_simp; first | done | with_reducible rfl)
          try go_simp
          refine wpAnyH_take (i := 8) (oi := _) (v := ?_) rfl (by kernel_rfl) (by kernel_rfl) (by kernel_rfl) (fun _ _ _ h => h) (Or.inl ⟨by rfl, ?_⟩) (by assumption) ?_
          rotate_left 1
          · (intro w hSw; (try dsimp only at hSw); go_simp; first | done | with_reducible rfl)
          try go_simp
          refine wpAnyH_ready (rs := [6, 9]) (by kernel_rfl) (by simp) ?_
          refine AllReadyH.cons (o := _) rfl (fun K hK => ?_) ?_
          · clear hHeld
            have p0 := HRd.out.c (e * 5 + 0) (HCV.out 0 (.string ⟨vc2.toArray⟩) rfl)
            have p1 := HRd.out.c (e * 5 + 1) (HCV.out 1 (.int .i64 vr2) rfl)
            have p2 := HRd.out.c (e * 5 + 2) (HCV.out 2 (.int .i64 vp2) rfl)
            have p3 := HRd.out.c (e * 5 + 3) (HCV.out 3 (.slice sA2 sn2 sc2) rfl)
            have p4 := HRd.out.c (e * 5 + 4) (HCV.out 4 (.slice nA2 nn2 nc2) rfl)
            rw [Nat.add_zero] at p0
            go_simp
            first | (refine hK.out _ _ ?_ (fun hHeld => ?_)) | (go_wp2_with fail; refine hK.out _ _ ?_ (fun hHeld => ?_))
            · (try dsimp only); exact gz
            clear hK K
            clear p0 p1 p2 p3 p4

            refine wpAnyH_ready (rs := [9]) (by kernel_rfl) (by simp) ?_
            refine AllReadyH.cons (o := _) rfl (fun K hK => ?_) ?_
            · clear hHeld
              have q0 := HRd.out.c (j * 5 + 0) (HCU.out 0 (.string ⟨uc.toArray⟩) rfl)
              have q1 := HRd.out.c (j * 5 + 1) (HCU.out 1 (.int .i64 ur) rfl)
              have q2 := HRd.out.c (j * 5 + 2) (HCU.out 2 (.int .i64 up) rfl)
              have q3 := HRd.out.c (j * 5 + 3) (HCU.out 3 (.slice uA un uk) rfl)
              have q4 := HRd.out.c (j * 5 + 4) (HCU.out 4 (.slice xA xn xk) rfl)
              rw [Nat.add_zero] at q0
              go_simp
              first | (refine hK.out _ _ ?_ (fun hHeld => ?_)) | (go_wp2_with fail; refine hK.out _ _ ?_ (fun hHeld => ?_))
              · (try dsimp only); exact gz
              clear hK K
              clear q0 q1 q2 q3 q4

              refine wpAnyH_take (i := 10) (oi := _) (v := ?_) rfl (by kernel_rfl) (by kernel_rfl) (by kernel_rfl) (fun _ _ _ h => h) (Or.inl ⟨by rfl, ?_⟩) (by assumption) ?_
              rotate_left 1
              · (intro w hSw; (try dsimp only at hSw); go_simp; first | done | with_reducible rfl)
              try go_simp
              refine wpAnyH_ready (rs := [11]) (by kernel_rfl) (by simp) ?_
              refine AllReadyH.cons (o := _) rfl (fun K hK => ?_) ?_
              · clear hHeld
                have q0 := HRd.out.c (j * 5 + 0) (HCU.out 0 (.string ⟨uc.toArray⟩) rfl)
                have q1 := HRd.out.c (j * 5 + 1) (HCU.out 1 (.int .i64 ur) rfl)
                have q2 := HRd.out.c (j * 5 + 2) (HCU.out 2 (.int .i64 up) rfl)
                have q3 := HRd.out.c (j * 5 + 3) (HCU.out 3 (.slice uA un uk) rfl)
                have q4 := HRd.out.c (j * 5 + 4) (HCU.out 4 (.slice xA xn xk) rfl)
                rw [Nat.add_zero] at q0
                have f0 := HRd.out.fz (j * 5 + 0)
                have f1 := HRd.out.fz (j * 5 + 1)
                have f2 := HRd.out.fz (j * 5 + 2)
                have f3 := HRd.out.fz (j * 5 + 3)
                have f4 := HRd.out.fz (j * 5 + 4)
                rw [Nat.add_zero] at f0
                have hzz := HRd.out.lt
                have gs := gz.trans (grown_put5 wx g j ⟨vc2, vr2, vp2, sA2, sn2, sc2, nA2, nn2, nc2⟩)
                have OW1 := Lib.hid (own_put (v := ⟨vc2, vr2, vp2, sA2, sn2, sc2, nA2, nn2, nc2⟩) HOW.out HU.out)
                (try dsimp only at gs); (try dsimp only at OW1)
                replace gs := Lib.hid gs
                go_simp
                first | (refine hK.out _ _ ?_ (fun hHeld => ?_)) | (go_wp2_with fail; refine hK.out _ _ ?_ (fun hHeld => ?_))
                · (try dsimp only); exact gs.out
                clear hK K
                clear q0 q1 q2 q3 q4
                clear f0 f1 f2 f3 f4 hzz
                generalize (((((wx.setCell ⟨g, j * 5, none⟩ (.string ⟨vc2.toArray⟩)).setCell ⟨g, j * 5 + 1, none⟩ (.int .i64 vr2)).setCell ⟨g, j * 5 + 2, none⟩ (.int .i64 vp2)).setCell ⟨g, j * 5 + 3, none⟩ (.slice sA2 sn2 sc2)).setCell ⟨g, j * 5 + 4, none⟩ (.slice nA2 nn2 nc2)) = wy at *
                obtain ⟨cur3, hrow3, hcur3⟩ := out_cells OW1.out (swap_self (j := j) HU2.out)
                have HR3 := Lib.hid hrow3
                have HC3 := Lib.hid hcur3
                clear hrow3 hcur3 HRd

                refine wpAnyH_take (i := 12) (oi := _) (v := ?_) rfl (by kernel_rfl) (by kernel_rfl) (by kernel_rfl) (fun _ _ _ h => h) (Or.inl ⟨by rfl, ?_⟩) (by assumption) ?_
                rotate_left 1
                · (intro w hSw; (try dsimp only at hSw); go_simp; first | done | with_reducible rfl)
                try go_simp
                refine wpAnyH_ready (rs := [13]) (by kernel_rfl) (by simp) ?_
                refine AllReadyH.cons (o := _) rfl (fun K hK => ?_) ?_
                · clear hHeld
                  have q0 := HR3.out.c (e * 5 + 0) (HC3.out 0 (.string ⟨vc2.toArray⟩) rfl)
                  have q1 := HR3.out.c (e * 5 + 1) (HC3.out 1 (.int .i64 vr2) rfl)
                  have q2 := HR3.out.c (e * 5 + 2) (HC3.out 2 (.int .i64 vp2) rfl)
                  have q3 := HR3.out.c (e * 5 + 3) (HC3.out 3 (.slice sA2 sn2 sc2) rfl)
                  have q4 := HR3.out.c (e * 5 + 4) (HC3.out 4 (.slice nA2 nn2 nc2) rfl)
                  rw [Nat.add_zero] at q0
                  have f0 := HR3.out.fz (e * 5 + 0)
                  have f1 := HR3.out.fz (e * 5 + 1)
                  have f2 := HR3.out.fz (e * 5 + 2)
                  have f3 := HR3.out.fz (e * 5 + 3)
                  have f4 := HR3.out.fz (e * 5 + 4)
                  rw [Nat.add_zero] at f0
                  have hzz := HR3.out.lt
                  have GZ := gs.out.trans (grown_put5 _ g e ⟨uc, ur, up, uA, un, uk, xA, xn, xk⟩)
                  have OW2 := Lib.hid (own_put (v := ⟨uc, ur, up, uA, un, uk, xA, xn, xk⟩) OW1.out (swap_self (j := j) HU2.out))
                  replace GZ := Lib.hid GZ
                  go_simp
                  first | (refine hK.out _ _ ?_ (fun hHeld => ?_)) | (go_wp2_with fail; refine hK.out _ _ ?_ (fun hHeld => ?_))
                  · (try dsimp only); exact GZ.out
                  clear hK K
                  clear q0 q1 q2 q3 q4
                  clear f0 f1 f2 f3 f4 hzz

                  refine wpAnyH_done (by kernel_rfl) ?_ _
                  refine NoPanic.normal ?_
                  go_simp
                  go_wp2_with fail
                  go_ret
                  have hlen : ((l.set j o2).set e o).length = m := by rw [List.length_set, List.length_set]; exact HM.out.symm
                  refine ⟨some ⟨g, 0, none⟩, d, (us.set j ⟨vc2, vr2, vp2, sA2, sn2, sc2, nA2, nn2, nc2⟩).set e ⟨uc, ur, up, uA, un, uk, xA, xn, xk⟩, (l.set j o2).set e o, by rw [hlen]; rfl, ?_, (HSM.out.swap (List.mem_of_getElem? HO2.out) (List.mem_of_getElem? HOJ.out)).up (Nat.le_succ _), HG.out.andThen GZ.out (by rintro i ⟨⟩; exact .inl (by have := (World.ownsRow.lt HOU.out.own g rfl).1; have := HQE.out; omega))⟩
                  rw [hlen, HM.out]
                  exact off_mixed HOU.out GZ.out OW2.out (by rw [List.length_set, List.length_set]) (by simp only [List.length_set]; exact HOU.out.vlen) (swap_is HU.out HOJ.out HU2.out HO2.out)
                exact AllReadyH.nil
              exact AllReadyH.nil
            exact AllReadyH.nil
          refine AllReadyH.cons (o := _) rfl (fun K hK => ?_) ?_
          · clear hHeld
            have q0 := HRd.out.c (j * 5 + 0) (HCU.out 0 (.string ⟨uc.toArray⟩) rfl)
            have q1 := HRd.out.c (j * 5 + 1) (HCU.out 1 (.int .i64 ur) rfl)
            have q2 := HRd.out.c (j * 5 + 2) (HCU.out 2 (.int .i64 up) rfl)
            have q3 := HRd.out.c (j * 5 + 3) (HCU.out 3 (.slice uA un uk) rfl)
            have q4 := HRd.out.c (j * 5 + 4) (HCU.out 4 (.slice xA xn xk) rfl)
            rw [Nat.add_zero] at q0
            go_simp
            first | (refine hK.out _ _ ?_ (fun hHeld => ?_)) | (go_wp2_with fail; refine hK.out _ _ ?_ (fun hHeld => ?_))
            · (try dsimp only); exact gz
            clear hK K
            clear q0 q1 q2 q3 q4

            refine wpAnyH_ready (rs := [6]) (by kernel_rfl) (by simp) ?_
            refine AllReadyH.cons (o := _) rfl (fun K hK => ?_) ?_
            · clear hHeld
              have p0 := HRd.out.c (e * 5 + 0) (HCV.out 0 (.string ⟨vc2.toArray⟩) rfl)
              have p1 := HRd.out.c (e * 5 + 1) (HCV.out 1 (.int .i64 vr2) rfl)
              have p2 := HRd.out.c (e * 5 + 2) (HCV.out 2 (.int .i64 vp2) rfl)
              have p3 := HRd.out.c (e * 5 + 3) (HCV.out 3 (.slice sA2 sn2 sc2) rfl)
              have p4 := HRd.out.c (e * 5 + 4) (HCV.out 4 (.slice nA2 nn2 nc2) rfl)
              rw [Nat.add_zero] at p0
              go_simp
              first | (refine hK.out _ _ ?_ (fun hHeld => ?_)) | (go_wp2_with fail; refine hK.out _ _ ?_ (fun hHeld => ?_))
              · (try dsimp only); exact gz
              clear hK K
              clear p0 p1 p2 p3 p4

              refine wpAnyH_take (i := 10) (oi := _) (v := ?_) rfl (by kernel_rfl) (by kernel_rfl) (by kernel_rfl) (fun _ _ _ h => h) (Or.inl ⟨by rfl, ?_⟩) (by assumption) ?_
              rotate_left 1
              · (intro w hSw; (try dsimp only at hSw); go_simp; first | done | with_reducible rfl)
              try go_simp
              refine wpAnyH_ready (rs := [11]) (by kernel_rfl) (by simp) ?_
              refine AllReadyH.cons (o := _) rfl (fun K hK => ?_) ?_
              · clear hHeld
                have q0 := HRd.out.c (j * 5 + 0) (HCU.out 0 (.string ⟨uc.toArray⟩) rfl)
                have q1 := HRd.out.c (j * 5 + 1) (HCU.out 1 (.int .i64 ur) rfl)
                have q2 := HRd.out.c (j * 5 + 2) (HCU.out 2 (.int .i64 up) rfl)
                have q3 := HRd.out.c (j * 5 + 3) (HCU.out 3 (.slice uA un uk) rfl)
                have q4 := HRd.out.c (j * 5 + 4) (HCU.out 4 (.slice xA xn xk) rfl)
                rw [Nat.add_zero] at q0
                have f0 := HRd.out.fz (j * 5 + 0)
                have f1 := HRd.out.fz (j * 5 + 1)
                have f2 := HRd.out.fz (j * 5 + 2)
                have f3 := HRd.out.fz (j * 5 + 3)
                have f4 := HRd.out.fz (j * 5 + 4)
                rw [Nat.add_zero] at f0
                have hzz := HRd.out.lt
                have gs := gz.trans (grown_put5 wx g j ⟨vc2, vr2, vp2, sA2, sn2, sc2, nA2, nn2, nc2⟩)
                have OW1 := Lib.hid (own_put (v := ⟨vc2, vr2, vp2, sA2, sn2, sc2, nA2, nn2, nc2⟩) HOW.out HU.out)
                (try dsimp only at gs); (try dsimp only at OW1)
                replace gs := Lib.hid gs
                go_simp
                first | (refine hK.out _ _ ?_ (fun hHeld => ?_)) | (go_wp2_with fail; refine hK.out _ _ ?_ (fun hHeld => ?_))
                · (try dsimp only); exact gs.out
                clear hK K
                clear q0 q1 q2 q3 q4
                clear f0 f1 f2 f3 f4 hzz
                generalize (((((wx.setCell ⟨g, j * 5, none⟩ (.string ⟨vc2.toArray⟩)).setCell ⟨g, j * 5 + 1, none⟩ (.int .i64 vr2)).setCell ⟨g, j * 5 + 2, none⟩ (.int .i64 vp2)).setCell ⟨g, j * 5 + 3, none⟩ (.slice sA2 sn2 sc2)).setCell ⟨g, j * 5 + 4, none⟩ (.slice nA2 nn2 nc2)) = wy at *
                obtain ⟨cur3, hrow3, hcur3⟩ := out_cells OW1.out (swap_self (j := j) HU2.out)
                have HR3 := Lib.hid hrow3
                have HC3 := Lib.hid hcur3
                clear hrow3 hcur3 HRd

                refine wpAnyH_take (i := 12) (oi := _) (v := ?_) rfl (by kernel_rfl) (by kernel_rfl) (by kernel_rfl) (fun _ _ _ h => h) (Or.inl ⟨by rfl, ?_⟩) (by assumption) ?_
                rotate_left 1
                · (intro w hSw; (try dsimp only at hSw); go_simp; first | done | with_reducible rfl)
                try go_simp
                refine wpAnyH_ready (rs := [13]) (by kernel_rfl) (by simp) ?_
                refine AllReadyH.cons (o := _) rfl (fun K hK => ?_) ?_
                · clear hHeld
                  have q0 := HR3.out.c (e * 5 + 0) (HC3.out 0 (.string ⟨vc2.toArray⟩) rfl)
                  have q1 := HR3.out.c (e * 5 + 1) (HC3.out 1 (.int .i64 vr2) rfl)
                  have q2 := HR3.out.c (e * 5 + 2) (HC3.out 2 (.int .i64 vp2) rfl)
                  have q3 := HR3.out.c (e * 5 + 3) (HC3.out 3 (.slice sA2 sn2 sc2) rfl)
                  have q4 := HR3.out.c (e * 5 + 4) (HC3.out 4 (.slice nA2 nn2 nc2) rfl)
                  rw [Nat.add_zero] at q0
                  have f0 := HR3.out.fz (e * 5 + 0)
                  have f1 := HR3.out.fz (e * 5 + 1)
                  have f2 := HR3.out.fz (e * 5 + 2)
                  have f3 := HR3.out.fz (e * 5 + 3)
                  have f4 := HR3.out.fz (e * 5 + 4)
                  rw [Nat.add_zero] at f0
                  have hzz := HR3.out.lt
                  have GZ := gs.out.trans (grown_put5 _ g e ⟨uc, ur, up, uA, un, uk, xA, xn, xk⟩)
                  have OW2 := Lib.hid (own_put (v := ⟨uc, ur, up, uA, un, uk, xA, xn, xk⟩) OW1.out (swap_self (j := j) HU2.out))
                  replace GZ := Lib.hid GZ
                  go_simp
                  first | (refine hK.out _ _ ?_ (fun hHeld => ?_)) | (go_wp2_with fail; refine hK.out _ _ ?_ (fun hHeld => ?_))
                  · (try dsimp only); exact GZ.out
                  clear hK K
                  clear q0 q1 q2 q3 q4
                  clear f0 f1 f2 f3 f4 hzz

                  refine wpAnyH_done (by kernel_rfl) ?_ _
                  refine NoPanic.normal ?_
                  go_simp
                  go_wp2_with fail
                  go_ret
                  have hlen : ((l.set j o2).set e o).length = m := by rw [List.length_set, List.length_set]; exact HM.out.symm
                  refine ⟨some ⟨g, 0, none⟩, d, (us.set j ⟨vc2, vr2, vp2, sA2, sn2, sc2, nA2, nn2, nc2⟩).set e ⟨uc, ur, up, uA, un, uk, xA, xn, xk⟩, (l.set j o2).set e o, by rw [hlen]; rfl, ?_, (HSM.out.swap (List.mem_of_getElem? HO2.out) (List.mem_of_getElem? HOJ.out)).up (Nat.le_succ _), HG.out.andThen GZ.out (by rintro i ⟨⟩; exact .inl (by have := (World.ownsRow.lt HOU.out.own g rfl).1; have := HQE.out; omega))⟩
                  rw [hlen, HM.out]
                  exact off_mixed HOU.out GZ.out OW2.out (by rw [List.length_set, List.length_set]) (by simp only [List.length_set]; exact HOU.out.vlen) (swap_is HU.out HOJ.out HU2.out HO2.out)
                exact AllReadyH.nil
              exact AllReadyH.nil
            exact AllReadyH.nil
          exact AllReadyH.nil
        · rw [show ((10 : Nat) : Int) = 10 from rfl]
          clear hc11
          have hrm : ((nn : Int)).tmod 2 = ((nn % 2 : Nat) : Int) := tmod_nat nn 2
          obtain ⟨e, he⟩ : ∃ e, e = nn % 2 := ⟨_, rfl⟩
          have he8 : e < 2 := by omega
          rw [← he] at hrm
          have e1 : (0 : Int) ≤ (e : Int) := by omega
          have e2 : (e : Int) < 2 := by omega
          have e3 : IntKind.i64.wrap (e : Int) = (e : Int) := by rw [IntKind.wrap_i64]; omega
          clear he
          have e4 : IntKind.i64.wrap (60 + (e : Int)) = 60 + (e : Int) := by rw [IntKind.wrap_i64]; omega
          have HQB := Lib.hid (World.ownsRow.lt HOU.out.own g rfl)
          have HG4 : Hid (w4.heap.size ≤ w4.heap.size) := Lib.hid (Nat.le_refl _)
          have HOU1 : Hid (OutIs w4 (Q + 1) (.slice (some ⟨g, 0, none⟩) m d) us l) := Lib.hid (by rw [HM.out]; exact HOU.out)
          go_upto_region 33 with fail
          go_loopw [5] (fun y wr => ∃ (us2 : List V) (L : List O), Hid (OutIs wr (Q + 1) y us2 L ∧ Small t L ∧ w4.heap.size ≤ wr.heap.size) ∧ Hid (w.grownBy wr none)) (fun y _ => 61 - lenS y)
          case atStart => exact ⟨us, l, Lib.hid ⟨HOU1.out, HSM.out, Nat.le_refl _⟩, HG⟩
          case round =>
            clear HR HCU HVU HUL HNL HOU HOU1 HG HSO
            obtain ⟨us2, L, H, HG⟩ := hrel
            generalize u5 = y at *
            obtain ⟨B2, d2, rfl, hoffs, _⟩ := H.out.1.offs
            have hb2le := hoffs.v.le
            have hb2cap := hoffs.v.cap
            have HF2 := Lib.hid hoffs
            have HO2 := Lib.hid H.out.1
            have HS2 := Lib.hid H.out.2.1
            have HZ2 := Lib.hid H.out.2.2
            clear H hoffs
            obtain ⟨k, hk⟩ : ∃ k, k = L.length := ⟨_, rfl⟩
            rw [← hk] at hb2le ⊢
            have HK := Lib.hid hk
            have hk61 : k ≤ 61 := by have := HS2.out.few; omega
            clear hk
            by_cases hlt : k < 60 + e
            · have k3 : decide ((k : Int) < 60 + (e : Int)) = true := decide_eq_true (by omega)
              have hq : ((k : Int)).tdiv 10 = ((k / 10 : Nat) : Int) := by rw [Int.tdiv_eq_ediv_of_nonneg (by omega)]; rfl
              have hr : ((k : Int)).tmod 10 = ((k % 10 : Nat) : Int) := tmod_nat k 10
              obtain ⟨a1, ha1⟩ : ∃ a, a = k / 10 := ⟨_, rfl⟩
              obtain ⟨a2, ha2⟩ : ∃ a, a = k % 10 := ⟨_, rfl⟩
              have b1 : a1 ≤ 6 := by omega
              have b2 : a2 ≤ 9 := by omega
              rw [← ha1] at hq
              rw [← ha2] at hr
              clear ha1 ha2
              have w1a : IntKind.i64.wrap (a1 : Int) = (a1 : Int) := by rw [IntKind.wrap_i64]; omega
              have w2a : IntKind.i64.wrap (a2 : Int) = (a2 : Int) := by rw [IntKind.wrap_i64]; omega
              have w1b : IntKind.i64.wrap (65 + (a1 : Int)) = 65 + (a1 : Int) := by rw [IntKind.wrap_i64]; omega
              have w2b : IntKind.i64.wrap (48 + (a2 : Int)) = 48 + (a2 : Int) := by rw [IntKind.wrap_i64]; omega
              have w1c : IntKind.u8.wrap (65 + (a1 : Int)) = 65 + (a1 : Int) := by show (65 + (a1 : Int)) % 256 = _; omega
              have w2c : IntKind.u8.wrap (48 + (a2 : Int)) = 48 + (a2 : Int) := by show (48 + (a2 : Int)) % 256 = _; omega
              go_upto_region 34 with fail
              have hcv := conv2 (65 + (a1 : Int)) (48 + (a2 : Int)) wr
              have hap := app3 89 (UInt8.ofNat (65 + (a1 : Int)).toNat) (UInt8.ofNat (48 + (a2 : Int)).toNat)
              generalize UInt8.ofNat (65 + (a1 : Int)).toNat = c1 at *
              generalize UInt8.ofNat (48 + (a2 : Int)).toNat = c2 at *
              have g1 := World.grownBy_alloc wr (.cells #[.int .u8 (65 + (a1 : Int)), .int .u8 (48 + (a2 : Int))] 5) none
              have hz1 : (wr.alloc (.cells #[.int .u8 (65 + (a1 : Int)), .int .u8 (48 + (a2 : Int))] 5)).heap.size = wr.heap.size + 1 := by simp
              have g2 := World.grownBy_alloc (wr.alloc (.cells #[.int .u8 (65 + (a1 : Int)), .int .u8 (48 + (a2 : Int))] 5)) (.cells #[.string ⟨#[89, c1, c2]⟩, .int .i64 1, .int .i64 0, .slice none 0 0, .slice none 0 0] 35) none
              have HVL : Hid (Vals ((wr.alloc (.cells #[.int .u8 (65 + (a1 : Int)), .int .u8 (48 + (a2 : Int))] 5)).alloc (.cells #[.string ⟨#[89, c1, c2]⟩, .int .i64 1, .int .i64 0, .slice none 0 0, .slice none 0 0] 35)) (some ⟨wr.heap.size + 1, 0, none⟩) 1 1 5 (V.mk [89, c1, c2] 1 0 none 0 0 none 0 0).cells.toList) := Lib.hid (by
                have h := new_vals5 (wr.alloc (.cells #[.int .u8 (65 + (a1 : Int)), .int .u8 (48 + (a2 : Int))] 5)) (V.mk [89, c1, c2] 1 0 none 0 0 none 0 0)
                rw [hz1] at h
                exact h)
              have HOW := Lib.hid ((HO2.out.kept g1 (fun _ e => by cases e)).kept g2 (fun _ e => by cases e))
              have HVA : Hid (VIs ((wr.alloc (.cells #[.int .u8 (65 + (a1 : Int)), .int .u8 (48 + (a2 : Int))] 5)).alloc (.cells #[.string ⟨#[89, c1, c2]⟩, .int .i64 1, .int .i64 0, .slice none 0 0, .slice none 0 0] 35)) (V.mk [89, c1, c2] 1 0 none 0 0 none 0 0) (O.mk [89, c1, c2] 1 0 [] [])) := Lib.hid ⟨rfl, rfl, rfl, ⟨by simp, ⟨by simp, by simp⟩, ⟨by simp, by simp⟩⟩, Ints.nil_ _, Strs.nil_ _, by simp⟩
              have HGa := Lib.hid (HG.out.trans (g1.trans g2))
              have HLT : Hid (∀ i, (Value.slice B2 k d2).ownBlock = some i → Q + 1 ≤ i ∧ i < wr.heap.size) := Lib.hid (fun i e => by rw [HK.out] at e; exact World.ownsRow.lt HO2.out.own i e)
              have HLB : Hid (k + 1 ≤ 1000000 ∧ Q + 1 ≤ ((wr.alloc (.cells #[.int .u8 (65 + (a1 : Int)), .int .u8 (48 + (a2 : Int))] 5)).alloc (.cells #[.string ⟨#[89, c1, c2]⟩, .int .i64 1, .int .i64 0, .slice none 0 0, .slice none 0 0] 35)).heap.size ∧ Q + 1 ≤ wr.heap.size) := Lib.hid (by
                have h1 := HG.out.size
                have h3 := HQB.out
                have h4 := (g1.trans g2).size
                have h5 := HZ2.out
                omega)
              have HG12 := Lib.hid (g1.trans g2)
              clear g1 g2 hz1
              go_upto_region 33 with (at_builtin; first
                | (refine wpList_append_vals elt35 rfl (.tmp 168) (.tmp 183) rfl (Q + 1) (.slice B2 k d2) k (vc us2) rfl (by rw [HK.out]; exact HOW.out.own) _ 1 1 _ rfl HVL.out HLB.out.1 HLB.out.2.1 ?_
                   intro y2 w8 hown hg hb hv
                   have HOX := Lib.hid (HOW.out.snoc (v2 := y2) (b2 := wr.heap.size) (by rw [HK.out] at hown; exact hown) (by rw [← HK.out]; exact hg) (by rw [← HK.out]; exact hb) HVA.out (World.ownsRow_nil _ _ 3 1) (World.ownsRow_nil _ _ 9 1) HLB.out.2.2 (fun i e => (HLT.out i (by rw [HK.out]; exact e)).2))
                   have HGX := Lib.hid (HGa.out.andThen hg (fun r e => .inl (by have := (HLT.out r e).1; have := HQE.out; omega)))
                   have HZX := Lib.hid (Nat.le_trans HZ2.out (Nat.le_trans HG12.out.size hg.size))
                   clear hown hg hb hv))
              clear hcv hap
              go_wp2_with fail
              obtain ⟨B3, d3, rfl, _, _⟩ := HOX.out.offs
              have hk2 := HK.out
              exact ⟨⟨_, _, Lib.hid ⟨HOX.out, HS2.out.snoc (by omega) _ (by simp) (by simp), HZX.out⟩, HGX⟩, by simp only [lenS, List.length_append, List.length_singleton]; omega⟩
            · have k3 : decide ((k : Int) < 60 + (e : Int)) = false := decide_eq_false (by omega)
              go_wp2_with fail
              go_ret
              exact ⟨B2, d2, us2, L, by rw [← HK.out]; rfl, HF2.out, HS2.out.up (Nat.le_succ _), HG.out⟩
end Go.Proofs.Ytnkemoicgadefaa
