/-
  The reference's Find.
-/
import Derived.Test.YtnkemoicgadefaaRfb
namespace Go.Proofs.Ytnkemoicgadefaa
open Go.RowKit
attribute [local go_sem] get_mk extract_mk
theorem findKept {w w2 W : World} {v : V} {o : O} {R : Nat} (h : VIs w2 v o) (hi : OwnI w2 w.heap.size (.slice v.sA v.sn v.sc) o.slots) (hs : OwnS w2 w.heap.size (.slice v.nA v.nn v.nc) o.needs) (g : w2.grownBy W (some R)) (hR : R < w.heap.size) :
    VIs W v o ∧ OwnI W w.heap.size (.slice v.sA v.sn v.sc) o.slots ∧ OwnS W w.heap.size (.slice v.nA v.nn v.nc) o.needs := by
  have i2 : OwnI W w.heap.size (.slice v.sA v.sn v.sc) o.slots := World.ownsRow.kept hi g (.inr (fun e => by have := (World.ownsRow.lt hi R e).1; omega))
  have s2 : OwnS W w.heap.size (.slice v.nA v.nn v.nc) o.needs := World.ownsRow.kept hs g (.inr (fun e => by have := (World.ownsRow.lt hs R e).1; omega))
  exact ⟨⟨h.code, h.cr, h.pl, h.ok, ⟨vals_own i2 h.slots.len (fun v hv => by obtain ⟨x, _, rfl⟩ := List.mem_map.1 hv; rfl), h.slots.ok⟩, ⟨vals_own s2 h.needs.len (fun v hv => by obtain ⟨x, _, rfl⟩ := List.mem_map.1 hv; rfl), h.needs.ok⟩, h.few⟩, i2, s2⟩
set_option maxRecDepth 100000 in
set_option maxHeartbeats 2000000 in
theorem find_r (A : Option Addr) (n c : Nat) (vs : List V) (l : List O) (code : Str) (w : World) (h : Offs w A n c vs l) :
    Calls Try.prog 21 #[.slice A n c, .string ⟨code.toArray⟩] w fun e w' => ∃ (v' : V) (b : Bool), e = .returned (.tuple #[.agg v'.cells, .bool b]) ∧ w.grownBy w' none ∧
      ((b = false ∧ fnd l code = none ∧ v' = ⟨[], 0, 0, none, 0, 0, none, 0, 0⟩) ∨ ∃ o, b = true ∧ fnd l code = some o ∧ VIs w' v' o ∧ OwnI w' w.heap.size (.slice v'.sA v'.sn v'.sc) o.slots ∧ OwnS w' w.heap.size (.slice v'.nA v'.nn v'.nc) o.needs) := by
  have hle := h.v.le
  have hcap := h.v.cap
  have HL := Lib.hid h.len
  obtain ⟨w1, e1, HR, g1⟩ := row_of w 35 #[.string ⟨#[]⟩, .int .i64 0, .int .i64 0, .slice none 0 0, .slice none 0 0]
  have HO := Lib.hid (h.kept g1)
  have G1 := Lib.hid g1
  have E1 := Lib.hid e1
  clear e1 g1 h
  have HR1 := Lib.hid HR
  clear HR
  go_enter Try.func21, Try.ntmps21
  go_upto_region 1 with fail
  rw [← E1.out]
  clear E1
  obtain ⟨R, hR⟩ : ∃ R, R = w.heap.size := ⟨_, rfl⟩
  rw [← hR] at HR1 ⊢
  have HE := Lib.hid hR
  clear hR
  go_wp2_with fail
  go_loopw [6] (fun z wr => ∃ k : Nat, k ≤ n ∧ z = .int .i64 (k : Int) ∧ Hid (fnd (l.take k) code = none) ∧ wr = w1) (fun z _ => n - (intOf z).toNat)
  case atStart => exact ⟨0, Nat.zero_le _, rfl, Lib.hid rfl, rfl⟩
  case round =>
    obtain ⟨k, hk, rfl, HT, rfl⟩ := hrel
    by_cases hlt : k < n
    · obtain ⟨ad, v, o, ho, hvj, rfl, hb, hv, x0, x1, x2, x3, x4⟩ := HO.out.at k hlt
      have HF := Lib.hid ho
      have HV := Lib.hid hv
      have HCD := Lib.hid hv.code
      obtain ⟨vc, vr, vp, sA, sn, sc, nA, nn, nc⟩ := v
      dsimp only at HCD x0 x1 x2 x3 x4
      have k1 : (0 : Int) ≤ (k : Int) := by omega
      have k2 : (k : Int) < (n : Int) := by omega
      have k5 : IntKind.i64.wrap (k : Int) = (k : Int) := by rw [IntKind.wrap_i64]; omega
      have k6 : IntKind.i64.wrap ((k : Int) + 1) = (k : Int) + 1 := by rw [IntKind.wrap_i64]; omega
      clear ho hvj hv
      by_cases hxy : vc = code
      · subst hxy
        have HQ : Hid (fnd l vc = some o) := Lib.hid (fnd_take HF.out HT.out HCD.out.symm)
        clear HT HF HCD hb
        go_wp2_with fail
        refine (copy_r ⟨vc, vr, vp, sA, sn, sc, nA, nn, nc⟩ o _ HV.out).mono ?_
        rintro e w2 ⟨⟨yc, yr, yp, yA, yn, yd, zA, zn, zd⟩, rfl, hvi, hoi, hos, g⟩
        have HR2 := Lib.hid (HR1.out.kept g)
        have HVI := Lib.hid hvi
        have HOI := Lib.hid hoi
        have HOS := Lib.hid hos
        have G2 := Lib.hid (G1.out.trans g)
        have hzz := HR1.out.lt
        clear hvi hoi hos g x0 x1 x2 x3 x4
        have f0 := HR2.out.fz 0
        have d0 := HR2.out.c 0 rfl
        have f1 := HR2.out.fz 1
        have d1 := HR2.out.c 1 rfl
        have f2 := HR2.out.fz 2
        have d2 := HR2.out.c 2 rfl
        have f3 := HR2.out.fz 3
        have d3 := HR2.out.c 3 rfl
        have f4 := HR2.out.fz 4
        have d4 := HR2.out.c 4 rfl
        have RS : Row _ R 35 _ := (((((HR2.out.set 0 (.string ⟨yc.toArray⟩)).set 1 (.int .i64 yr)).set 2 (.int .i64 yp)).set 3 (.slice yA yn yd)).set 4 (.slice zA zn zd))
        have gl := (((((grown_setCell w2 R 0 (.string ⟨yc.toArray⟩)).trans (grown_setCell _ R 1 (.int .i64 yr))).trans (grown_setCell _ R 2 (.int .i64 yp))).trans (grown_setCell _ R 3 (.slice yA yn yd))).trans (grown_setCell _ R 4 (.slice zA zn zd)))
        have RS2 := Lib.hid RS
        have GG := Lib.hid (G2.out.andThen gl (by rintro j ⟨⟩; exact .inl (by rw [HE.out]; exact Nat.le_refl _)))
        have hz2 := HR2.out.lt
        have HVN := Lib.hid (fun W (g : w2.grownBy W (some R)) => findKept HVI.out HOI.out HOS.out g hzz)
        have HVF := Lib.hid (HVN.out _ gl)
        clear RS gl HVN
        simp only [V.cells]
        go_wp2_with fail
        exact bodyPost_ret (v := .tuple #[.agg #[.string ⟨yc.toArray⟩, .int .i64 yr, .int .i64 yp, .slice yA yn yd, .slice zA zn zd], .bool true]) (by simp [results, Try.results21, go_sem, RS2.out.c 0 rfl, RS2.out.c 1 rfl, RS2.out.c 2 rfl, RS2.out.c 3 rfl, RS2.out.c 4 rfl]) rfl
          ⟨⟨yc, yr, yp, yA, yn, yd, zA, zn, zd⟩, .inr ⟨rfl, GG.out, o, HQ.out, HVF.out.1, own_base HVF.out.2.1 G1.out.size, own_base HVF.out.2.2 G1.out.size⟩⟩
      · have HT2 : Hid (fnd (l.take (k + 1)) code = none) := Lib.hid (fnd_snoc HF.out HT.out (by rw [← HCD.out]; simpa using hxy))
        have q1 : (vc == code) = false := by simpa using hxy
        clear HT HF HCD hxy HV hb
        go_wp2_with fail
        go_roundw
        case rel => exact ⟨k + 1, by omega, by go_num, HT2, trivial⟩
        case measure => simp [intOf]; omega
    · obtain rfl : n = k := by omega
      have HQ : Hid (fnd l code = none) := Lib.hid (by have := HT.out; rwa [HL.out, List.take_length] at this)
      clear HT HL
      have HR2 := HR1
      have f0 := HR2.out.fz 0
      have d0 := HR2.out.c 0 rfl
      have f1 := HR2.out.fz 1
      have d1 := HR2.out.c 1 rfl
      have f2 := HR2.out.fz 2
      have d2 := HR2.out.c 2 rfl
      have f3 := HR2.out.fz 3
      have d3 := HR2.out.c 3 rfl
      have f4 := HR2.out.fz 4
      have d4 := HR2.out.c 4 rfl
      have hzz := HR1.out.lt
      have RS : Row _ R 35 _ := (((((HR1.out.set 0 (.string ⟨#[]⟩)).set 1 (.int .i64 0)).set 2 (.int .i64 0)).set 3 (.slice none 0 0)).set 4 (.slice none 0 0))
      have gl := (((((grown_setCell wr R 0 (.string ⟨#[]⟩)).trans (grown_setCell _ R 1 (.int .i64 0))).trans (grown_setCell _ R 2 (.int .i64 0))).trans (grown_setCell _ R 3 (.slice none 0 0))).trans (grown_setCell _ R 4 (.slice none 0 0)))
      have RS2 := Lib.hid RS
      have GG := Lib.hid (G1.out.andThen gl (by rintro j ⟨⟩; exact .inl (by rw [HE.out]; exact Nat.le_refl _)))
      clear RS gl HR2
      go_wp2_with fail
      exact bodyPost_ret (v := .tuple #[.agg #[.string ⟨#[]⟩, .int .i64 0, .int .i64 0, .slice none 0 0, .slice none 0 0], .bool false]) (by simp [results, Try.results21, go_sem, RS2.out.c 0 rfl, RS2.out.c 1 rfl, RS2.out.c 2 rfl, RS2.out.c 3 rfl, RS2.out.c 4 rfl]) rfl
        ⟨⟨[], 0, 0, none, 0, 0, none, 0, 0⟩, false, rfl, GG.out, .inl ⟨rfl, HQ.out, rfl⟩⟩
end Go.Proofs.Ytnkemoicgadefaa
