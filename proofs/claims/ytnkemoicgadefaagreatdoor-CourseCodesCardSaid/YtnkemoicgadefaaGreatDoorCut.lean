/-
  The law's cut of a catalog as it comes.
-/
import Derived.Test.YtnkemoicgadefaaGreatDoorTxt
namespace Go.Proofs.YtnkemoicgadefaaGreatDoor
open Go.RowKit
attribute [local go_sem] get_mk extract_mk
/-- an offer as it comes -/
structure RV (w : World) (v : V) (o : O) : Prop where
  code : v.code = o.code
  cr : v.cr = o.cr
  pl : v.pl = o.pl
  ok : o.code.length ≤ 9223372036854775807 ∧ i64 o.cr ∧ i64 o.pl
  slots : Ints w v.sA v.sn v.sc o.slots
  needs : RawS w v.nA v.nn v.nc o.needs
theorem RV.kept {w w' : World} {v : V} {o : O} (h : RV w v o) (g : w.grownBy w' none) : RV w' v o := ⟨h.code, h.cr, h.pl, h.ok, h.slots.kept g, h.needs.kept g⟩
structure Raws (w : World) (A : Option Addr) (n c : Nat) (vs : List V) (l : List O) : Prop where
  v : Vals w A n c 5 (vc vs)
  len : n = l.length
  vlen : vs.length = l.length
  is : ∀ (j : Nat) (v : V) (o : O), vs[j]? = some v → l[j]? = some o → RV w v o
theorem Raws.kept {w w' : World} {A : Option Addr} {n c : Nat} {vs : List V} {l : List O} (h : Raws w A n c vs l) (g : w.grownBy w' none) : Raws w' A n c vs l := ⟨h.v.kept g, h.len, h.vlen, fun j v o h1 h2 => (h.is j v o h1 h2).kept g⟩
theorem Raws.at {w : World} {A : Option Addr} {n c : Nat} {vs : List V} {l : List O} (h : Raws w A n c vs l) (j : Nat) (hj : j < n) :
    ∃ (ad : Addr) (v : V) (o : O), l[j]? = some o ∧ vs[j]? = some v ∧ A = some ad ∧ ad.block < w.heap.size ∧ RV w v o ∧ w.cell? (ad.add (j * 5)) = some (.string ⟨v.code.toArray⟩) ∧ w.cell? ⟨(ad.add (j * 5)).block, (ad.add (j * 5)).off + 1, none⟩ = some (.int .i64 v.cr) ∧
      w.cell? ⟨(ad.add (j * 5)).block, (ad.add (j * 5)).off + 2, none⟩ = some (.int .i64 v.pl) ∧ w.cell? ⟨(ad.add (j * 5)).block, (ad.add (j * 5)).off + 3, none⟩ = some (.slice v.sA v.sn v.sc) ∧ w.cell? ⟨(ad.add (j * 5)).block, (ad.add (j * 5)).off + 4, none⟩ = some (.slice v.nA v.nn v.nc) := by
  obtain ⟨ad, e, hb, hc⟩ := h.v.cell (by omega)
  have hl := h.len
  have hv := h.vlen
  obtain ⟨o, ho⟩ : ∃ o, l[j]? = some o := ⟨_, List.getElem?_eq_getElem (by omega)⟩
  obtain ⟨v, hvj⟩ : ∃ v, vs[j]? = some v := ⟨_, List.getElem?_eq_getElem (by omega)⟩
  have hx := fun i u hu => hc (j * 5 + i) u (vc_at vs j v hvj i u hu)
  have x0 := hx 0 _ rfl
  have x1 := hx 1 _ rfl
  have x2 := hx 2 _ rfl
  have x3 := hx 3 _ rfl
  have x4 := hx 4 _ rfl
  rw [← add_add, add_at _ 1 (by omega)] at x1
  rw [← add_add, add_at _ 2 (by omega)] at x2
  rw [← add_add, add_at _ 3 (by omega)] at x3
  rw [← add_add, add_at _ 4 (by omega)] at x4
  rw [Nat.add_zero] at x0
  exact ⟨ad, v, o, ho, hvj, e, hb, h.is j v o hvj ho, x0, x1, x2, x3, x4⟩
def cutO (o : O) : O := ⟨o.code.take 12, o.cr, o.pl, o.slots.take 6, txtV o.needs⟩
def cutV (l : List O) : List O := (l.take 6).map cutO
theorem cut_snoc {l : List O} {k : Nat} {x : O} (h : l[k]? = some x) (hk : k < 6) : cutV (l.take (k + 1)) = cutV (l.take k) ++ [cutO x] := by
  unfold cutV
  rw [List.take_take, List.take_take, Nat.min_eq_right (by omega), Nat.min_eq_right (by omega), take_snoc h]
  simp
theorem cut_len (l : List O) : (cutV l).length ≤ 6 := by unfold cutV; simp; omega
theorem cut_small (l : List O) : Small 7 (cutV l) := ⟨by have := cut_len l; omega, fun o ho => by
  obtain ⟨x, _, rfl⟩ := List.mem_map.1 ho
  unfold cutO
  have := txt_len x.needs
  simp only [List.length_take]
  omega⟩
theorem VIs.keptR {w w' : World} {v : V} {o : O} {r : Option Nat} (h : VIs w v o) (g : w.grownBy w' r) (h1 : ∀ ad, v.sA = some ad → 0 < v.sn → some ad.block ≠ r) (h2 : ∀ ad, v.nA = some ad → 0 < v.nn → some ad.block ≠ r) : VIs w' v o :=
  ⟨h.code, h.cr, h.pl, h.ok, ⟨h.slots.v.keptR g h1, h.slots.ok⟩, ⟨h.needs.v.keptR g h2, h.needs.ok⟩, h.few⟩
/-- a row of offers of the call's own, whose lists lie elsewhere -/
structure CutIs (w : World) (b : Nat) (y : Value) (us : List V) (l : List O) : Prop where
  own : w.ownsRow b 41 5 y l.length (vc us)
  vlen : us.length = l.length
  is : ∀ (j : Nat) (u : V) (o : O), us[j]? = some u → l[j]? = some o → VIs w u o
  far : ∀ (j : Nat) (u : V), us[j]? = some u → ∀ k, y.ownBlock = some k → (∀ ad, u.sA = some ad → 0 < u.sn → ad.block ≠ k) ∧ (∀ ad, u.nA = some ad → 0 < u.nn → ad.block ≠ k)
theorem CutIs.kept {w w' : World} {b : Nat} {y : Value} {us : List V} {l : List O} (h : CutIs w b y us l) (g : w.grownBy w' none) : CutIs w' b y us l :=
  ⟨own_keep h.own g (fun _ e => by cases e), h.vlen, fun j u o hu ho => (h.is j u o hu ho).kept g, h.far⟩
theorem cut_nil (w : World) (b : Nat) : CutIs w b (.slice none 0 0) [] [] := ⟨World.ownsRow_nil _ _ 41 5, rfl, (fun _ _ _ h => by simp at h), (fun _ _ h => by simp at h)⟩
theorem CutIs.offs {w : World} {b : Nat} {y : Value} {us : List V} {l : List O} (h : CutIs w b y us l) : ∃ A c, y = .slice A l.length c ∧ Offs w A l.length c us l := by
  obtain ⟨A, c, e, hv, _⟩ := own_vals h.own (fun _ hv => vc_one hv)
  exact ⟨A, c, e, ⟨hv, rfl, h.vlen, h.is⟩⟩
theorem vals_lt {w : World} {A : Option Addr} {n c sz : Nat} {vs : List Value} (h : Vals w A n c sz vs) {ad : Addr} (e : A = some ad) (h0 : 0 < n) : ad.block < w.heap.size := by
  obtain ⟨ad', e', hb, _⟩ := h.cell h0
  rw [e] at e'
  injection e' with e'
  subst e'
  exact hb
theorem CutIs.snoc {w w' : World} {b : Nat} {y y2 : Value} {us : List V} {l : List O} {u : V} {o : O} (h : CutIs w b y us l) (hown : w'.ownsRow b 41 5 y2 (l.length + 1) (vc us ++ u.cells.toList)) (hg : w.grownBy w' y.ownBlock)
    (hb : y2.ownBlock = y.ownBlock ∨ y2.ownBlock = some w.heap.size) (hu : VIs w u o) (hf : ∀ k, y.ownBlock = some k → (∀ ad, u.sA = some ad → 0 < u.sn → ad.block ≠ k) ∧ (∀ ad, u.nA = some ad → 0 < u.nn → ad.block ≠ k)) : CutIs w' b y2 (us ++ [u]) (l ++ [o]) := by
  have key : ∀ (x : V) (z : O), VIs w x z → (∀ k, y.ownBlock = some k → (∀ ad, x.sA = some ad → 0 < x.sn → ad.block ≠ k) ∧ (∀ ad, x.nA = some ad → 0 < x.nn → ad.block ≠ k)) → VIs w' x z := fun x z hx hd => hx.keptR hg (fun ad e h0 e2 => (hd ad.block e2.symm).1 ad e h0 rfl) (fun ad e h0 e2 => (hd ad.block e2.symm).2 ad e h0 rfl)
  refine ⟨?_, by simp [h.vlen], fun j x z hx hz => ?_, fun j x hx k hk => ?_⟩
  · rw [List.length_append, vc_app]
    simpa [vc] using hown
  · rcases get_snoc hx with ⟨hj, hx2⟩ | ⟨rfl, rfl⟩ <;> rcases get_snoc hz with ⟨hj2, hz2⟩ | ⟨h2, rfl⟩
    · exact key x z (h.is j x z hx2 hz2) (h.far j x hx2)
    · have := h.vlen; omega
    · have := h.vlen; omega
    · exact key _ _ hu hf
  · have fr : ∀ (x : V) (z : O), VIs w x z → (∀ k, y.ownBlock = some k → (∀ ad, x.sA = some ad → 0 < x.sn → ad.block ≠ k) ∧ (∀ ad, x.nA = some ad → 0 < x.nn → ad.block ≠ k)) → (∀ ad, x.sA = some ad → 0 < x.sn → ad.block ≠ k) ∧ (∀ ad, x.nA = some ad → 0 < x.nn → ad.block ≠ k) := fun x z hx hd => by
      rcases hb with hb | hb
      · exact hd k (hb ▸ hk)
      · rw [hb] at hk
        injection hk with hk
        exact ⟨fun ad e h0 e2 => by have := vals_lt hx.slots.v e h0; omega, fun ad e h0 e2 => by have := vals_lt hx.needs.v e h0; omega⟩
    rcases get_snoc hx with ⟨hj, hx2⟩ | ⟨rfl, rfl⟩
    · obtain ⟨z, hz⟩ : ∃ z, l[j]? = some z := ⟨_, List.getElem?_eq_getElem (by have := h.vlen; omega)⟩
      exact fr x z (h.is j x z hx2 hz) (h.far j x hx2)
    · exact fr _ _ hu hf
set_option maxRecDepth 100000 in
set_option maxHeartbeats 8000000 in
theorem cut_r (A : Option Addr) (n c : Nat) (vs : List V) (l : List O) (w : World) (h : Raws w A n c vs l) :
    Calls Tryz.prog 6 #[.slice A n c] w fun e w' => ∃ (B : Option Addr) (d : Nat) (us : List V), e = .returned (.slice B (cutV l).length d) ∧ Offs w' B (cutV l).length d us (cutV l) ∧ w.grownBy w' none := by
  have HA := Lib.hid (fun W (g : w.grownBy W none) => h.kept g)
  have HL := Lib.hid h.len
  have hle := h.v.le
  have hcap := h.v.cap
  clear h
  go_enter Tryz.func6, Tryz.ntmps6
  go_wp2_with fail
  go_loopw [3, 4] (fun y z wr => ∃ (k : Nat) (us : List V), k ≤ n ∧ k ≤ 6 ∧ z = .int .i64 (k : Int) ∧ Hid (CutIs wr w.heap.size y us (cutV (l.take k))) ∧ Hid (w.grownBy wr none)) (fun _ z _ => n - (intOf z).toNat)
  case atStart => exact ⟨0, [], Nat.zero_le _, by omega, rfl, Lib.hid (cut_nil _ _), Lib.hid (grown_refl _)⟩
  case round =>
    obtain ⟨k, us, hk, hk6, rfl, HO, HG⟩ := hrel
    generalize u3 = y at *
    by_cases hlt : k < n
    · by_cases h6 : k < 6
      · obtain ⟨ad, v, o, ho, hvk, rfl, _, hv, x0, x1, x2, x3, x4⟩ := (HA.out _ HG.out).at k hlt
        have HOB := Lib.hid ((HA.out w (grown_refl _)).is k v o hvk ho)
        obtain ⟨vc_, vr, vp, sA, sn, sc, nA, nn, nc⟩ := v
        have hcd := hv.code
        simp only at x0 x1 x2 x3 x4 hcd
        subst hcd
        have HRV := Lib.hid hv
        have hsle := hv.slots.v.le
        have hscap := hv.slots.v.cap
        have hcl := hv.ok.1
        simp only at hsle hscap
        have HCS := Lib.hid (cut_snoc ho h6)
        obtain ⟨r, hr⟩ : ∃ r, r = min o.code.length 12 := ⟨_, rfl⟩
        have r1 : min (o.code.length : Int) 12 = (r : Int) := by omega
        have r2 : (0 : Int) ≤ (r : Int) := by omega
        have r3 : (r : Int) ≤ (o.code.length : Int) := by omega
        have HCR : Hid (o.code.take r = o.code.take 12) := Lib.hid (by rw [hr, List.take_eq_take_iff]; omega)
        obtain ⟨p, hp⟩ : ∃ p, p = min sn 6 := ⟨_, rfl⟩
        have p1 : min (sn : Int) 6 = (p : Int) := by omega
        have p2 : (0 : Int) ≤ (p : Int) := by omega
        have p3 : (p : Int) ≤ (sn : Int) := by omega
        have p4 : (p : Int) ≤ (sc : Int) := by omega
        have hpn : p ≤ sn := by omega
        have HSP : Hid (o.slots.take p = o.slots.take 6 ∧ p ≤ sn) := Lib.hid (by
          have := hv.slots.len
          simp only at this
          exact ⟨by rw [hp, this, List.take_eq_take_iff]; omega, hpn⟩)
        clear hr hp hv ho hvk hpn
        have k1 : (0 : Int) ≤ (k : Int) := by omega
        have k2 : (k : Int) < (n : Int) := by omega
        have k3 : decide ((k : Int) < (n : Int)) = true := decide_eq_true k2
        have k4 : decide ((k : Int) < 6) = true := decide_eq_true (by omega)
        have k5 : IntKind.i64.wrap (k : Int) = (k : Int) := by rw [IntKind.wrap_i64]; omega
        have k6 : IntKind.i64.wrap ((k : Int) + 1) = (k : Int) + 1 := by rw [IntKind.wrap_i64]; omega
        obtain ⟨w6, e6, HP, g6⟩ := row_of wr 41 #[.string ⟨o.code.toArray⟩, .int .i64 vr, .int .i64 vp, .slice sA sn sc, .slice nA nn nc]
        have E6 := Lib.hid e6
        clear e6
        go_upto_region 6 with fail
        rw [← E6.out]
        clear E6 x0 x1 x2 x3 x4
        have HPW : Hid (w.heap.size ≤ wr.heap.size) := Lib.hid HG.out.size
        have HO6 := Lib.hid (HO.out.kept g6)
        have G6 := Lib.hid (HG.out.trans g6)
        have HPB : Hid (∀ b, y.ownBlock = some b → b < wr.heap.size) := Lib.hid (fun b e => (World.ownsRow.lt HO.out.own b e).2)
        have HO0 := Lib.hid HO.out
        have G60 := Lib.hid g6
        generalize hPq : wr.heap.size = P at *
        have HPQ := Lib.hid hPq
        clear hPq g6 HO HG
        have HP6 := Lib.hid HP
        have c0 := HP.c 0 rfl
        have c3 := HP.c 3 rfl
        have f0 := HP.fz 0
        have f3 := HP.fz 3
        have hzp := HP.lt
        clear HP
        have gs := (grown_setCell w6 P 0 (.string ⟨(o.code.take r).toArray⟩)).trans (grown_setCell _ P 3 (.slice sA p sc))
        have HR8 : Hid (Row ((w6.setCell ⟨P, 0, none⟩ (.string ⟨(o.code.take r).toArray⟩)).setCell ⟨P, 3, none⟩ (.slice sA p sc)) P 41 #[.string ⟨(o.code.take r).toArray⟩, .int .i64 vr, .int .i64 vp, .slice sA p sc, .slice nA nn nc]) := Lib.hid ((HP6.out.set 0 (.string ⟨(o.code.take r).toArray⟩)).set 3 (.slice sA p sc))
        have G8 := Lib.hid (G6.out.andThen gs (by rintro j ⟨⟩; exact .inl HPW.out))
        have GS := Lib.hid gs
        have HS68 := Lib.hid gs.size
        clear gs
        go_upto_region 8 with fail
        clear c0 c3 f0 f3 hzp r1 r2 r3 p1 p2 p3 p4
        generalize (w6.setCell ⟨P, 0, none⟩ (.string ⟨(o.code.take r).toArray⟩)).setCell ⟨P, 3, none⟩ (.slice sA p sc) = w8 at *
        have c4 := HR8.out.c 4 rfl
        go_wp2_with fail
        refine (texts_r nA nn nc o.needs _ (HOB.out.needs.kept G8.out)).mono ?_
        rintro e w9 ⟨tv, rfl, ht, g9⟩
        obtain ⟨TA, tc, rfl, hts⟩ := strs_own ht (txt_ok o.needs)
        have HTS := Lib.hid hts
        have HTF : Hid (∀ ad, TA = some ad → w8.heap.size ≤ ad.block) := Lib.hid (fun ad e => by
          have := (World.ownsRow.lt ht ad.block (by rw [e]; rfl)).1
          exact this)
        obtain ⟨tn, htn⟩ : ∃ tn, tn = (txtV o.needs).length := ⟨_, rfl⟩
        rw [← htn] at HTS ⊢
        clear c4 ht hts htn
        have HR9 := Lib.hid (HR8.out.kept g9)
        have G9 := Lib.hid (G8.out.trans g9)
        have GS9 : Hid (w6.grownBy w9 (some P)) := Lib.hid (grow_p GS.out g9)
        have c4 := HR9.out.c 4 rfl
        have f4 := HR9.out.fz 4
        have hzp := HR9.out.lt
        have HZ89 := Lib.hid g9.size
        clear g9 HR8 G8 GS
        have gs := grown_setCell w9 P 4 (.slice TA tn tc)
        have HR10 : Hid (Row (w9.setCell ⟨P, 4, none⟩ (.slice TA tn tc)) P 41 #[.string ⟨(o.code.take r).toArray⟩, .int .i64 vr, .int .i64 vp, .slice sA p sc, .slice TA tn tc]) := Lib.hid (HR9.out.set 4 (.slice TA tn tc))
        have G10 := Lib.hid (G9.out.andThen gs (by rintro j ⟨⟩; exact .inl HPW.out))
        have GS10 := Lib.hid (GS9.out.trans gs)
        have HT10 : Hid (Strs (w9.setCell ⟨P, 4, none⟩ (.slice TA tn tc)) TA tn tc (txtV o.needs)) := Lib.hid ⟨HTS.out.v.keptR gs (fun ad e _ e2 => by injection e2 with e2; have h1 := HTF.out ad e; have h2 := HP6.out.lt; have h3 := HS68.out; omega), HTS.out.ok⟩
        clear gs
        go_upto_region 9 with fail
        clear c4 f4 hzp HR9 G9 GS9 HTS
        generalize w9.setCell ⟨P, 4, none⟩ (.slice TA tn tc) = w10 at *
        have GW : Hid (wr.grownBy w10 none) := Lib.hid (G60.out.andThen GS10.out (by rintro j ⟨⟩; exact .inl (by rw [HPQ.out]; exact Nat.le_refl _)))
        obtain ⟨v, hv⟩ : ∃ v : V, v = ⟨o.code.take r, vr, vp, sA, p, sc, TA, tn, tc⟩ := ⟨_, rfl⟩
        have ga := World.grownBy_alloc w10 (.cells v.cells 41) none
        have HVI : Hid (VIs w10 v (cutO o)) := Lib.hid (by
          subst hv
          have hs := (HOB.out.slots.kept G10.out)
          have hl : tn = (txtV o.needs).length := HT10.out.len
          refine ⟨HCR.out, HOB.out.cr, HOB.out.pl, ⟨by unfold cutO; simp; omega, HOB.out.ok.2⟩, ⟨?_, fun x hx => hs.ok x (List.mem_of_mem_take hx)⟩, HT10.out, ?_⟩
          · have h1 := hs.v.takeV p HSP.out.2
            rw [← List.map_take, HSP.out.1] at h1
            exact h1
          · have := txt_len o.needs
            unfold cutO
            simp only [List.length_take]
            omega)
        have HFR : Hid (∀ b, y.ownBlock = some b → (∀ ad, v.sA = some ad → 0 < v.sn → ad.block ≠ b) ∧ (∀ ad, v.nA = some ad → 0 < v.nn → ad.block ≠ b)) := Lib.hid (fun b hb => by
          subst hv
          have h1 := HPB.out b hb
          have h2 := (World.ownsRow.lt HO0.out.own b hb).1
          refine ⟨fun ad e h0 e2 => ?_, fun ad e h0 e2 => ?_⟩
          · have := vals_lt HOB.out.slots.v e (by have := HSP.out.2; simp only at h0 ⊢; omega)
            omega
          · have h3 := HTF.out ad e
            have h4 := HS68.out
            have h5 := HP6.out.lt
            omega)
        have HVA := Lib.hid (HVI.out.kept ga)
        have HOW := Lib.hid ((HO0.out.kept GW.out).kept ga)
        have HVL : Hid (Vals (w10.alloc (.cells #[.string ⟨(o.code.take r).toArray⟩, .int .i64 vr, .int .i64 vp, .slice sA p sc, .slice TA tn tc] 41)) (some ⟨w10.heap.size, 0, none⟩) 1 1 5 v.cells.toList) := Lib.hid (by subst hv; exact new_vals5 w10 ⟨o.code.take r, vr, vp, sA, p, sc, TA, tn, tc⟩)
        have HGa := Lib.hid (G10.out.trans ga)
        have HLB : Hid ((cutV (l.take k)).length + 1 ≤ 1000000 ∧ w.heap.size ≤ (w10.alloc (.cells v.cells 41)).heap.size) := Lib.hid ⟨by have := cut_len (l.take k); omega, HGa.out.size⟩
        have c0 := HR10.out.c 0 rfl
        have c1 := HR10.out.c 1 rfl
        have c2 := HR10.out.c 2 rfl
        have c3 := HR10.out.c 3 rfl
        have c4 := HR10.out.c 4 rfl
        have HCE : Hid (v.cells = #[.string ⟨(o.code.take r).toArray⟩, .int .i64 vr, .int .i64 vp, .slice sA p sc, .slice TA tn tc]) := Lib.hid (by rw [hv]; rfl)
        clear ga hv HVI HPB
        rw [HCE.out] at HVA HOW HGa HLB
        go_upto_region 4 with (at_builtin; first
          | (refine wpList_append_vals elt35 rfl (.tmp 40) (.tmp 42) rfl w.heap.size y (cutV (l.take k)).length (vc us) rfl HOW.out.own _ 1 1 _ rfl HVL.out HLB.out.1 HLB.out.2 ?_
             intro y2 w11 hown hg hb hv
             have HOX := Lib.hid (HOW.out.snoc hown hg hb HVA.out HFR.out)
             have HGX := Lib.hid (HGa.out.andThen hg (fun r e => .inl (World.ownsRow.lt HOW.out.own r e).1))
             clear hown hg hb hv))
        clear c0 c1 c2 c3 c4
        go_wp2_with fail
        exact ⟨⟨k + 1, us ++ [v], by omega, by omega, by go_num, Lib.hid (by rw [HCS.out]; exact HOX.out), HGX⟩, by simp [intOf]; omega⟩
      · obtain rfl : k = 6 := by omega
        have HE : Hid (cutV (l.take 6) = cutV l) := Lib.hid (by unfold cutV; rw [List.take_take]; rfl)
        have k3 : decide (((6 : Nat) : Int) < (n : Int)) = true := decide_eq_true (by omega)
        have k4 : decide (((6 : Nat) : Int) < 6) = false := by simp
        have k7 : ((6 : Nat) : Int) < (n : Int) := by omega
        rw [HE.out] at HO
        obtain ⟨B, d, rfl, hof⟩ := HO.out.offs
        have HF := Lib.hid hof
        clear hof HO
        go_wp2_with fail
        go_ret
        exact ⟨B, d, us, rfl, HF.out, HG.out⟩
    · obtain rfl : n = k := by omega
      have HE : Hid (cutV (l.take n) = cutV l) := Lib.hid (by rw [HL.out, List.take_length])
      have k3 : decide ((n : Int) < (n : Int)) = false := decide_eq_false (by omega)
      rw [HE.out] at HO
      obtain ⟨B, d, rfl, hof⟩ := HO.out.offs
      have HF := Lib.hid hof
      clear hof HO
      go_wp2_with fail
      go_ret
      exact ⟨B, d, us, rfl, HF.out, HG.out⟩
end Go.Proofs.YtnkemoicgadefaaGreatDoor
