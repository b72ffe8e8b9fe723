/-
  The reference's Top, by its contract.
-/
import Derived.Test.YtljjmoeplfcblaaRWith
namespace Go.Proofs.Ytljjmoeplfcblaa
open Go.RowKit Go.Shelf
attribute [local go_sem] get_mk extract_mk
theorem own_last' {w : World} {base e : Nat} {v : Value} {r : List Nd} {a : Nd} (h : w.ownsRow base e 3 v (r.length + 1) (ndcs (r.reverse ++ [a]))) :
    ∃ g cap, v = .slice (some ⟨g, 0, none⟩) (r.length + 1) cap ∧ base ≤ g ∧ g < w.heap.size ∧ r.length + 1 ≤ cap ∧ cap ≤ maxLen ∧ NdAt w g r.length a ∧ (∃ cs, w.heap[g]? = some (.cells cs e (0, 0))) ∧
      w.ownsRow base e 3 (.slice (some ⟨g, 0, none⟩) r.length cap) r.length (ndcs r.reverse) := by
  rcases h.2 with ⟨_, h0⟩ | ⟨g, cap, cur, rfl, hb, hg, h1, h2, h3, h4⟩
  · omega
  · have hl : (ndcs r.reverse).length = r.length * 3 := by rw [ndcs_len, List.length_reverse]
    rw [ndcs_snoc] at h4
    have hc : ∀ q x, (ndc a)[q]? = some x → w.cell? ⟨g, r.length * 3 + q, none⟩ = some x := fun q x hx => by
      have : (ndcs r.reverse ++ ndc a)[r.length * 3 + q]? = some x := by
        rw [List.getElem?_append_right (by omega), hl, Nat.add_sub_cancel_left]
        exact hx
      rw [← h4, List.getElem?_take] at this
      split at this
      · simpa [World.cell?, hg] using this
      · cases this
    refine ⟨g, cap, rfl, hb, (Array.getElem?_eq_some_iff.1 hg).1, h1, h2, ⟨hc 0 _ rfl, hc 1 _ rfl, hc 2 _ rfl⟩, ⟨cur, hg⟩, hl, .inr ⟨g, cap, cur, rfl, hb, hg, by omega, h2, h3, ?_⟩⟩
    have := congrArg (List.take (r.length * 3)) h4
    rw [List.take_take, Nat.min_eq_left (by omega), List.take_append_of_le_length (Nat.le_of_eq hl.symm), List.take_of_length_le (Nat.le_of_eq hl)] at this
    exact this
theorem ctg_len : ∀ (r : List Nd) (k : Nat), ctg r k → r.length ≤ k
  | [], _, _ => Nat.zero_le _
  | a :: r, k, ⟨h1, h2, _, h4⟩ => by have := ctg_len r a.b h4; simp; omega
def d8 (l : List Nd) : Prop := ∀ x ∈ l, x.d.length ≤ 8
def lenOf : Value → Nat
  | .slice _ n _ => n
  | _ => 0
def KRel (w : World) (L : List Nd) (n : Nat) (z v : Value) (wr : World) : Prop :=
  ∃ (P R : List Nd) (i : Nat), L = P ++ R ∧ z = .int .i64 P.length ∧ ctg (pushes [] P) i ∧ chained R i n ∧ d8 (pushes [] P) ∧ wr.ownsRow w.heap.size 79 3 v (pushes [] P).length (ndcs (pushes [] P).reverse) ∧ w.grownBy wr none
def JRel (w : World) (st : List Nd) (x : Nd) (k : Nat) (v : Value) (wr : World) : Prop :=
  ∃ (m : Nd) (r : List Nd), wr.ownsRow w.heap.size 79 3 v (r.length + 1) (ndcs (r.reverse ++ [m])) ∧ push pairD r m = push pairD st x ∧ ctg (m :: r) k ∧ d8 (m :: r) ∧ w.grownBy wr none
theorem chained_le : ∀ (l : List Nd) (i j : Nat), chained l i j → i + l.length ≤ j
  | [], i, j, h => by rw [show i = j from h]; simp
  | n :: l, i, j, ⟨h1, h2, _, h4⟩ => by have := chained_le l _ j h4; have := pw_pos h2; simp; omega
theorem krel_next {w wr : World} {L P R st r : List Nd} {x m : Nd} {n k N : Nat} {v : Value} (hL : L = P ++ x :: R) (hst : pushes [] P = st) (hp : push pairD r m = push pairD st x) (hpe : push pairD r m = m :: r)
    (hc : ctg (m :: r) (x.b + x.s)) (hxc : chained R (x.b + x.s) n) (hd : d8 (m :: r)) (hN : N = r.length + 1) (ho : wr.ownsRow w.heap.size 79 3 v N (ndcs (r.reverse ++ [m]))) (hg : w.grownBy wr none) (hk : P.length = k) :
    KRel w L n (.int .i64 ((k : Int) + 1)) v wr := by
  have e : pushes [] (P ++ [x]) = m :: r := by
    rw [pushes_app, hst]
    show push pairD st x = _
    rw [← hp, hpe]
  refine ⟨P ++ [x], R, x.b + x.s, by rw [hL]; simp, by simp [hk], by rw [e]; exact hc, hxc, by rw [e]; exact hd, ?_, hg⟩
  rw [e]
  subst hN
  simpa using ho
theorem jrel_next {w wj w9 : World} {st r : List Nd} {x : Nd} {mb ms ab k q gq cq : Nat} {md ad : Str} (hq : r.length = q) (hcond : ab % (2 * ms) = 0) (hp : push pairD (⟨ab, ms, ad⟩ :: r) ⟨mb, ms, md⟩ = push pairD st x) (h0 : 0 < ms) (h1 : mb + ms = k) (h2 : ab + ms = mb) (hc : ctg r ab) (hd : d8 (⟨mb, ms, md⟩ :: ⟨ab, ms, ad⟩ :: r))
    (ho : w9.ownsRow w.heap.size 79 3 (.slice (some ⟨gq, 0, none⟩) (q + 1) cq) (q + 1) (ndcs r.reverse ++ [.int .i64 ab, .int .i64 (2 * (ms : Int)), .string ⟨(pairD ad md).toArray⟩])) (hg : w.grownBy wj none) (g : Nat) (hgg : w.heap.size ≤ g) (hg9 : wj.grownBy w9 (some g)) :
    JRel w st x k (.slice (some ⟨gq, 0, none⟩) (q + 1) cq) w9 := by
  subst hq
  refine ⟨⟨ab, 2 * ms, pairD ad md⟩, r, ?_, ?_, ⟨by simp; omega, by simp; omega, hcond, hc⟩, ?_, hg.andThen hg9 fun r e => .inl (by cases e; exact hgg)⟩
  · rw [ndcs_snoc]
    simpa [ndc] using ho
  · rw [← hp]
    conv => rhs; unfold push
    rw [if_pos ⟨rfl, hcond⟩]
  · intro y hy
    rcases List.mem_cons.1 hy with rfl | hy
    · exact Nat.le_of_eq (pairD_len _ _)
    · exact hd y (List.mem_cons_of_mem _ (List.mem_cons_of_mem _ hy))
theorem push_stop {r : List Nd} {a m : Nd} (h : ¬ (a.s = m.s ∧ a.b % (2 * a.s) = 0)) : push pairD (a :: r) m = m :: a :: r := by
  conv => lhs; unfold push
  rw [if_neg h]
set_option maxRecDepth 100000 in
set_option maxHeartbeats 8000000 in
/-- the reference's Top -/
theorem top_r (base : Nat) (v : Value) (L : List Nd) (n : Nat) (hn : n ≤ 1099511627776) (w : World) (hb : w.ownsRow base 79 3 v L.length (ndcs L)) (hch : chained L 0 n) (hd : d8 L) :
    Calls Try.prog 50 #[v] w fun e w' => e = .returned (.string ⟨(topD (pushes [] L)).toArray⟩) ∧ w.grownBy w' none := by
  obtain ⟨i0, hi0, hz0, hz1, hz2⟩ := info_parts info79
  have hLn : L.length ≤ n := by have := chained_le L 0 n hch; omega
  obtain ⟨A8, c8, rfl, hc8, hc9⟩ := slice_of hb
  have HB := Lib.hid (fun k x (h : L[k]? = some x) => node_in hb k _ h)
  have HCH := Lib.hid hch
  have HD := Lib.hid hd
  clear hb hch hd
  obtain ⟨N, hN⟩ : ∃ N, L.length = N := ⟨_, rfl⟩
  rw [hN] at hc8 hLn ⊢
  have HNN := Lib.hid hN
  have HB : Hid (∀ k x, L[k]? = some x → ∃ g cap, Value.slice A8 N c8 = .slice (some ⟨g, 0, none⟩) N cap ∧ g < w.heap.size ∧ NdAt w g k x) := Lib.hid (by have := HB.out; rw [hN] at this; exact this)
  clear hN
  go_enter Try.func50, Try.ntmps50
  go_wp2_with fail
  go_loopw [4, 3] (fun z v wr => KRel w L n z v wr) (fun z _ _ => N - (intOf z).toNat)
  case atStart => exact ⟨[], L, 0, rfl, rfl, rfl, HCH.out, (fun x h => by cases h), World.ownsRow_nil _ _ _ _, World.grownBy.refl _ _⟩
  case round =>
    obtain ⟨P, R, i, hL, rfl, hct, hcr, hd8, ho, hgr⟩ := hrel
    have hNl := HNN.out
    cases R with
    | cons x R =>
      have hlt : P.length < N := by rw [← hNl, hL]; simp
      have hx : L[P.length]? = some x := by rw [hL]; simp
      obtain ⟨g8, cap8, e8, hg8, m0, m1, m2⟩ := HB.out _ x hx
      injection e8 with e8a _ e8b
      subst e8a e8b
      obtain ⟨rfl, hxp, hxd, hxc⟩ := hcr
      have hxs := pw_pos hxp
      have hxn := chained_le R _ n hxc
      have HX := Lib.hid (show x.d.length ≤ 8 from HD.out x (List.mem_of_getElem? hx))
      have hstl := ctg_len _ _ hct
      have c0 := hgr.cell m0 (by simp)
      have c1 := hgr.cell m1 (by simp)
      have c2 := hgr.cell m2 (by simp)
      have Ho := Lib.hid ho
      have hsz := hgr.size
      have Hct := Lib.hid hct
      have Hxc := Lib.hid hxc
      have Hd8 := Lib.hid hd8
      have HL := Lib.hid hL
      have HXD := Lib.hid (dvd_mod hxd)
      obtain ⟨k, hk⟩ : ∃ k, P.length = k := ⟨_, rfl⟩
      rw [hk] at hlt c0 c1 c2
      rw [hk]
      have HK := Lib.hid hk
      have r1 : (0 : Int) ≤ (k : Int) := by omega
      have r2 : (k : Int) < (N : Int) := by omega
      have r3 : IntKind.i64.wrap ((k : Int) + 1) = (k : Int) + 1 := by rw [IntKind.wrap_i64]; omega
      have Hg := Lib.hid hgr
      clear hx ho m0 m1 m2 hct hxc hd8 hL hxd hk hgr hNl hxp
      obtain ⟨st, hst⟩ : ∃ st, pushes [] P = st := ⟨_, rfl⟩
      rw [hst] at Ho Hct Hd8 hstl
      have HST := Lib.hid hst
      clear hst
      go_wp2_with (at_builtin; refine wpList_append_lies _ rfl _ _ 67 rfl w.heap.size 79 i0 _ 3 32 Try.underlying67 hi0 hz0 hz1 hz2 rfl (by omega) _ st.length _ rfl (Ho.out.alloc _) ⟨wr.heap.size, 0, none⟩ 1 1 [.int .i64 x.b, .int .i64 x.s, .string ⟨x.d.toArray⟩] rfl rfl (World.news_of_block (cs := #[.int .i64 x.b, .int .i64 x.s, .string ⟨x.d.toArray⟩]) (t := 79) (fr := (0, 0)) (heap_alloc_new wr _)) (by intro u hu; simp at hu; rcases hu with rfl | rfl | rfl <;> rfl) (by omega) (by simp only [maxLen]; omega) (by omega) (by have := Hg.out.size; simp; omega) _ rfl ?_; intro gg cap w9 hown9 hgrow9 hat9 hlt9)
      have hg9 : (wr.alloc (.cells #[.int .i64 x.b, .int .i64 x.s, .string ⟨x.d.toArray⟩] 79)).grownBy w9 u3.ownBlock := hgrow9
      have G9 := (Hg.out.trans (World.grownBy_alloc wr (.cells #[.int .i64 x.b, .int .i64 x.s, .string ⟨x.d.toArray⟩] 79) none)).andThen hg9 (fun r e => .inl (own_fresh Ho.out r e))
      have J0 : Hid (JRel w st x (x.b + x.s) (.slice (some ⟨gg, 0, none⟩) (st.length + 1) cap) w9) := Lib.hid ⟨x, st, by rw [ndcs_snoc]; exact hown9, rfl, ⟨rfl, hxs, HXD.out, Hct.out⟩, (fun y hy => by
        rcases List.mem_cons.1 hy with rfl | hy
        · exact HX.out
        · exact Hd8.out y hy), G9⟩
      clear hown9 hgrow9 hat9 hg9 G9 Ho Hct Hd8 c0 c1 c2 HXD hg8
      go_loopw [3] (fun z wj => JRel w st x (x.b + x.s) z wj) (fun z _ => lenOf z)
      case atStart => exact J0.out
      case round =>
        obtain ⟨m, r, ho, hp, hc, hd, hg⟩ := hrel
        cases r with
        | nil =>
          obtain ⟨g, cp, rfl, _, _, _, _, _, _, _⟩ := own_last' ho
          have Ho := Lib.hid ho
          have Hp := Lib.hid hp
          have Hc := Lib.hid hc
          have Hd := Lib.hid hd
          have Hg := Lib.hid hg
          clear ho hp hc hd hg
          go_wp2_with fail
          exact ⟨krel_next HL.out HST.out Hp.out rfl Hc.out Hxc.out Hd.out rfl Ho.out Hg.out HK.out, by simp [intOf]; omega⟩
        | cons a r =>
          obtain ⟨ab, az, ad⟩ := a
          obtain ⟨mb, ms, md⟩ := m
          obtain ⟨g, cp, rfl, hbg, hglt, hcp, _, ⟨b0, b1, b2⟩, _, ho2⟩ := own_last' ho
          obtain ⟨_, _, e2, _, _, _, _, ⟨a0, a1, a2⟩, _, ho3⟩ := own_last' (r := r) (a := ⟨ab, az, ad⟩) (by simpa using ho2)
          injection e2 with e3 _ e4
          injection e3 with e3
          injection e3 with e3
          subst e3 e4
          obtain ⟨e1, e2, e3, ⟨e4, e5, e6, e7⟩⟩ := hc
          have HAB := Lib.hid e6
          have HAC := Lib.hid e7
          have hrl := ctg_len _ _ e7
          simp only [List.length_cons] at *
          try simp only at a0 a1 a2 b0 b1 b2 e1 e2 e3 e4 e5 e6 hrl e7
          have hqn : r.length ≤ 1099511627776 := by omega
          have has : az ≤ 1099511627776 := by omega
          have Ho3 := Lib.hid ho3
          have Ho := Lib.hid ho
          have Hp := Lib.hid hp
          have Had := Lib.hid (show ad.length ≤ 8 from hd ⟨ab, az, ad⟩ (by simp))
          have Hmd := Lib.hid (show md.length ≤ 8 from hd ⟨mb, ms, md⟩ (by simp))
          have HCT : Hid (ctg (⟨mb, ms, md⟩ :: ⟨ab, az, ad⟩ :: r) (x.b + x.s)) := Lib.hid ⟨e1, e2, e3, e4, e5, e6, e7⟩
          have Hd := Lib.hid hd
          have Hg := Lib.hid hg
          generalize hq : r.length = q at *
          have HQ := Lib.hid hq
          clear ho hp hd hg ho2 ho3 e6 e7 hq
          have q0 : (0 : Int) ≤ (q : Int) := by omega
          have q1 : (q : Int) < (q : Int) + 1 + 1 := by omega
          have q2 : IntKind.i64.wrap ((q : Int) + 1 + 1 - 2) = (q : Int) := by rw [IntKind.wrap_i64]; omega
          have q3 : IntKind.i64.wrap ((q : Int) + 1 + 1 - 1) = (q : Int) + 1 := by rw [IntKind.wrap_i64]; omega
          have q4 : (q : Int) + 1 < (q : Int) + 1 + 1 := by omega
          have q5 : q ≤ cp := by omega
          have q6 : IntKind.i64.wrap (2 * (az : Int)) = 2 * (az : Int) := by rw [IntKind.wrap_i64]; omega
          by_cases hs : az = ms
          · subst hs
            by_cases hm : ab % (2 * az) = 0
            · have cc : ((ab : Int) % (2 * (az : Int)) != 0) = false := by rw [mod_cast2, hm]; rfl
              have HM := Lib.hid hm
              clear hm
              go_upto_region 10 with fail
              have B0 := heap_alloc_new wr (.cells #[.int .i64 ab, .int .i64 az, .string ⟨ad.toArray⟩] 79)
              have B1 := heap_alloc_new (wr.alloc (.cells #[.int .i64 ab, .int .i64 az, .string ⟨ad.toArray⟩] 79)) (.cells #[.int .i64 mb, .int .i64 az, .string ⟨md.toArray⟩] 79)
              have B0 := ((World.grownBy_alloc (wr.alloc (.cells #[.int .i64 ab, .int .i64 az, .string ⟨ad.toArray⟩] 79)) (.cells #[.int .i64 mb, .int .i64 az, .string ⟨md.toArray⟩] 79) none).block _ (Array.getElem?_eq_some_iff.1 B0).1 (by simp)).trans B0
              rw [World.size_alloc] at B1
              have Gj := Lib.hid ((Hg.out.trans (World.grownBy_alloc wr (.cells #[.int .i64 ab, .int .i64 az, .string ⟨ad.toArray⟩] 79) none)).trans (World.grownBy_alloc _ (.cells #[.int .i64 mb, .int .i64 az, .string ⟨md.toArray⟩] 79) none))
              have Ho4 := Lib.hid ((Ho3.out.alloc (.cells #[.int .i64 ab, .int .i64 az, .string ⟨ad.toArray⟩] 79)).alloc (.cells #[.int .i64 mb, .int .i64 az, .string ⟨md.toArray⟩] 79))
              generalize (wr.alloc (.cells #[.int .i64 ab, .int .i64 az, .string ⟨ad.toArray⟩] 79)).alloc (.cells #[.int .i64 mb, .int .i64 az, .string ⟨md.toArray⟩] 79) = wj at *
              have hwj := Gj.out.size
              have ca0 : wj.cell? ⟨wr.heap.size, 0, none⟩ = some (.int .i64 ab) := by simp [World.cell?, B0]
              have ca1 : wj.cell? ⟨wr.heap.size, 1, none⟩ = some (.int .i64 az) := by simp [World.cell?, B0]
              have ca2 : wj.cell? ⟨wr.heap.size, 2, none⟩ = some (.string ⟨ad.toArray⟩) := by simp [World.cell?, B0]
              have cm2 : wj.cell? ⟨wr.heap.size + 1, 2, none⟩ = some (.string ⟨md.toArray⟩) := by simp [World.cell?, B1]
              have NB : Hid (some wr.heap.size ≠ some g) := Lib.hid (by intro e; injection e with e; omega)
              have NC : Hid (some (wr.heap.size + 1) ≠ some g) := Lib.hid (by intro e; injection e with e; omega)
              clear B0 B1 b0 b1 b2 a0 a1 a2
              refine wp_region_noPanic ?_
              refine wp_region_held_drew (S := (fun w' => wj.grownBy w' (some g))) (by kernel_rfl) ?_ (fun hHeld => ?_)
              · (try dsimp only); (repeat (first | assumption | exact World.grownBy.refl _ _ | refine grown_drR ?_ | refine grown_alR ?_))
              refine wpAnyH_take (i := 0) (oi := _) (v := ?_) rfl (by kernel_rfl) (by kernel_rfl) (by kernel_rfl) (fun _ _ _ h => h) (Or.inl ⟨by rfl, ?_⟩) (by assumption) ?_
              rotate_left 1
              · (intro w hSw; (try dsimp only at hSw); go_simp; first | done | with_reducible rfl)
              try go_simp
              refine wpAnyH_take (i := 1) (oi := _) (v := ?_) rfl (by kernel_rfl) (by kernel_rfl) (by kernel_rfl) (fun _ _ _ h => h) (Or.inl ⟨by rfl, ?_⟩) (by assumption) ?_
              rotate_left 1
              · (intro w hSw; (try dsimp only at hSw); go_simp; first | done | with_reducible rfl)
              try go_simp
              refine wpAnyH_take (i := 2) (oi := _) (v := ?_) rfl (by kernel_rfl) (by kernel_rfl) (by kernel_rfl) (fun _ _ _ h => h) (Or.inl ⟨by rfl, ?_⟩) (by assumption) ?_
              rotate_left 1
              · (intro w hSw; (try dsimp only at hSw); go_simp; first | done | with_reducible rfl)
              try go_simp
              refine wpAnyH_take (i := 3) (oi := _) (v := ?_) rfl (by kernel_rfl) (by kernel_rfl) (by kernel_rfl) (fun _ _ _ h => h) (Or.inl ⟨by rfl, ?_⟩) (by assumption) ?_
              rotate_left 1
              · (intro w hSw; (try dsimp only at hSw); go_simp; first | done | with_reducible rfl)
              try go_simp
              refine wpAnyH_take (i := 4) (oi := _) (v := ?_) rfl (by kernel_rfl) (by kernel_rfl) (by kernel_rfl) (fun _ _ _ h => h) (Or.inl ⟨by rfl, ?_⟩) (by assumption) ?_
              rotate_left 1
              · (intro w hSw; (try dsimp only at hSw); go_simp; first | done | with_reducible rfl)
              try go_simp
              refine wpAnyH_take (i := 5) (oi := _) (v := ?_) rfl (by kernel_rfl) (by kernel_rfl) (by kernel_rfl) (fun _ _ _ h => h) (Or.inl ⟨by rfl, ?_⟩) (by assumption) ?_
              rotate_left 1
              · (intro w hSw; (try dsimp only at hSw); go_simp; first | done | with_reducible rfl)
              try go_simp
              refine wpAnyH_take (i := 6) (oi := _) (v := .int .i64 ab) rfl (by kernel_rfl) (by kernel_rfl) (by kernel_rfl) (fun _ _ _ h => h) (Or.inl ⟨by kernel_rfl, ?_⟩) (by assumption) ?_
              · (intro w hSw; (try dsimp only at hSw); go_simp; have q9 := gcellR hSw NB.out ca0; clear hSw; go_simp; first | done | with_reducible rfl)
              try go_simp
              refine wpAnyH_take (i := 7) (oi := _) (v := ?_) rfl (by kernel_rfl) (by kernel_rfl) (by kernel_rfl) (fun _ _ _ h => h) (Or.inl ⟨by rfl, ?_⟩) (by assumption) ?_
              rotate_left 1
              · (intro w hSw; (try dsimp only at hSw); go_simp; first | done | with_reducible rfl)
              try go_simp
              refine wpAnyH_take (i := 8) (oi := _) (v := .int .i64 az) rfl (by kernel_rfl) (by kernel_rfl) (by kernel_rfl) (fun _ _ _ h => h) (Or.inl ⟨by kernel_rfl, ?_⟩) (by assumption) ?_
              · (intro w hSw; (try dsimp only at hSw); go_simp; have q9 := gcellR hSw NB.out ca1; clear hSw; go_simp; first | done | with_reducible rfl)
              try go_simp
              refine wpAnyH_take (i := 9) (oi := _) (v := ?_) rfl (by kernel_rfl) (by kernel_rfl) (by kernel_rfl) (fun _ _ _ h => h) (Or.inl ⟨by rfl, ?_⟩) (by assumption) ?_
              rotate_left 1
              · (intro w hSw; (try dsimp only at hSw); go_simp; first | done | with_reducible rfl)
              try go_simp
              refine wpAnyH_take (i := 10) (oi := _) (v := ?_) rfl (by kernel_rfl) (by kernel_rfl) (by kernel_rfl) (fun _ _ _ h => h) (Or.inl ⟨by rfl, ?_⟩) (by assumption) ?_
              rotate_left 1
              · (intro w hSw; (try dsimp only at hSw); go_simp; first | done | with_reducible rfl)
              try go_simp
              refine wpAnyH_take (i := 11) (oi := _) (v := .string ⟨ad.toArray⟩) rfl (by kernel_rfl) (by kernel_rfl) (by kernel_rfl) (fun _ _ _ h => h) (Or.inl ⟨by kernel_rfl, ?_⟩) (by assumption) ?_
              · (intro w hSw; (try dsimp only at hSw); go_simp; have q9 := gcellR hSw NB.out ca2; clear hSw; go_simp; first | done | with_reducible rfl)
              try go_simp
              refine wpAnyH_take (i := 12) (oi := _) (v := ?_) rfl (by kernel_rfl) (by kernel_rfl) (by kernel_rfl) (fun _ _ _ h => h) (Or.inl ⟨by rfl, ?_⟩) (by assumption) ?_
              rotate_left 1
              · (intro w hSw; (try dsimp only at hSw); go_simp; first | done | with_reducible rfl)
              try go_simp
              refine wpAnyH_take (i := 13) (oi := _) (v := .string ⟨md.toArray⟩) rfl (by kernel_rfl) (by kernel_rfl) (by kernel_rfl) (fun _ _ _ h => h) (Or.inl ⟨by kernel_rfl, ?_⟩) (by assumption) ?_
              · (intro w hSw; (try dsimp only at hSw); go_simp; have q9 := gcellR hSw NC.out cm2; clear hSw; go_simp; first | done | with_reducible rfl)
              try go_simp
              refine wpAnyH_ready (rs := [14]) (by kernel_rfl) (by simp) ?_
              refine AllReadyH.cons (o := _) rfl (fun K hK => ?_) AllReadyH.nil
              go_simp
              refine (node_r ad md (by have := Had.out; omega) (by have := Hmd.out; omega) wj.drew).mono ?_
              rintro e w2 ⟨rfl, g2⟩
              have gn : wj.grownBy w2 none := (grown_dr (World.grownBy.refl _ _)).trans g2
              have gv := grown_any gn (some g)
              first | (refine hK.out _ _ ?_ (fun hHeld => ?_)) | (go_wp2_with fail; refine hK.out _ _ ?_ (fun hHeld => ?_))
              · (try dsimp only); (repeat (first | assumption | exact World.grownBy.refl _ _ | refine grown_drR ?_ | refine grown_alR ?_))
              clear hK K
              refine wpAnyH_take (i := 15) (oi := _) (v := ?_) rfl (by kernel_rfl) (by kernel_rfl) (by kernel_rfl) (fun _ _ _ h => h) (Or.inl ⟨by rfl, ?_⟩) (by assumption) ?_
              rotate_left 1
              · (intro w hSw; (try dsimp only at hSw); go_simp; first | done | with_reducible rfl)
              try go_simp
              refine wpAnyH_ready (rs := [16]) (by kernel_rfl) (by simp) ?_
              refine AllReadyH.cons (o := _) rfl (fun K hK => ?_) AllReadyH.nil
              go_simp
              first | (refine hK.out _ _ ?_ (fun hHeld => ?_)) | (go_wp2_with fail; refine hK.out _ _ ?_ (fun hHeld => ?_))
              · (try dsimp only); (repeat (first | assumption | exact World.grownBy.refl _ _ | refine grown_drR ?_ | refine grown_alR ?_))
              clear hK K
              refine wpAnyH_ready (rs := [17]) (by kernel_rfl) (by simp) ?_
              refine AllReadyH.cons (o := _) rfl (fun K hK => ?_) AllReadyH.nil
              have ga := World.grownBy_alloc w2 (.cells #[.int .i64 ab, .int .i64 (2 * (az : Int)), .string ⟨(pairD ad md).toArray⟩] 79) none
              have ho4 := (Ho4.out.kept gn (Classical.em _)).alloc (.cells #[.int .i64 ab, .int .i64 (2 * (az : Int)), .string ⟨(pairD ad md).toArray⟩] 79)
              have hsz2 := gn.size
              refine step_append_lies _ rfl _ _ 67 rfl w.heap.size 79 i0 _ 3 32 Try.underlying67 hi0 hz0 hz1 hz2 rfl (by omega) (.slice (some ⟨g, 0, none⟩) q cp) q _ (by rfl) ho4 ⟨w2.heap.size, 0, none⟩ 1 1 [.int .i64 ab, .int .i64 (2 * (az : Int)), .string ⟨(pairD ad md).toArray⟩] (by rfl) rfl (World.news_of_block (cs := #[.int .i64 ab, .int .i64 (2 * (az : Int)), .string ⟨(pairD ad md).toArray⟩]) (t := 79) (fr := (0, 0)) (heap_alloc_new w2 _)) (by intro u hu; simp at hu; rcases hu with rfl | rfl | rfl <;> rfl) (by omega) (by simp only [maxLen]; omega) (by omega) (by simp; omega) _ rfl ?_
              intro gq cq w9 hown9 hgrow9 hat9 hlt9
              have hgrow9 : (w2.alloc (.cells #[.int .i64 ab, .int .i64 (2 * (az : Int)), .string ⟨(pairD ad md).toArray⟩] 79)).grownBy w9 (some g) := hgrow9
              have g9 : wj.grownBy w9 (some g) := (grown_any (gn.trans ga) _).trans hgrow9
              refine hK.out _ _ ?_ (fun hHeld => ?_)
              · (try dsimp only); assumption
              clear hK K hat9
              try go_simp
              refine wpAnyH_take (i := 18) (oi := _) (v := ?_) rfl (by kernel_rfl) (by kernel_rfl) (by kernel_rfl) (fun _ _ _ h => h) (Or.inl ⟨by rfl, ?_⟩) (by assumption) ?_
              rotate_left 1
              · (intro w hSw; (try dsimp only at hSw); go_simp; first | done | with_reducible rfl)
              try go_simp
              refine wpAnyH_done (by kernel_rfl) ?_ _
              refine NoPanic.normal ?_
              go_simp
              have hown9 := Lib.hid hown9
              clear hgrow9 ga ho4 gv hHeld gn ca0 ca1 ca2 cm2
              go_wp2_with fail
              exact ⟨jrel_next HQ.out HM.out Hp.out e5 e1 e4 HAC.out Hd.out hown9.out Gj.out g hbg g9, by simp [lenOf]⟩
            · have cc : ((ab : Int) % (2 * (az : Int)) != 0) = true := by rw [mod_cast2, bne_iff_ne]; omega
              have HNC : Hid (¬ ((⟨ab, az, ad⟩ : Nd).s = (⟨mb, az, md⟩ : Nd).s ∧ (⟨ab, az, ad⟩ : Nd).b % (2 * (⟨ab, az, ad⟩ : Nd).s) = 0)) := Lib.hid (fun h => hm h.2)
              clear hm
              go_wp2_with fail
              exact ⟨krel_next (r := ⟨ab, az, ad⟩ :: r) HL.out HST.out Hp.out (push_stop HNC.out) HCT.out Hxc.out Hd.out (by rw [← HQ.out]; rfl) ((Ho.out.alloc _).alloc _) (grown_al (grown_al Hg.out)) HK.out, by simp [intOf]; omega⟩
          · have cc : ((az : Int) != (ms : Int)) = true := by rw [bne_iff_ne]; omega
            have HNC : Hid (¬ ((⟨ab, az, ad⟩ : Nd).s = (⟨mb, ms, md⟩ : Nd).s ∧ (⟨ab, az, ad⟩ : Nd).b % (2 * (⟨ab, az, ad⟩ : Nd).s) = 0)) := Lib.hid (fun h => hs h.1)
            clear hs
            go_wp2_with fail
            exact ⟨krel_next (r := ⟨ab, az, ad⟩ :: r) HL.out HST.out Hp.out (push_stop HNC.out) HCT.out Hxc.out Hd.out (by rw [← HQ.out]; rfl) ((Ho.out.alloc _).alloc _) (grown_al (grown_al Hg.out)) HK.out, by simp [intOf]; omega⟩
    | nil =>
      obtain rfl : L = P := by simpa using hL
      have hNl2 : L.length = N := hNl
      have hlt : ¬ ((L.length : Int) < (N : Int)) := by omega
      obtain ⟨st, hst⟩ : ∃ st, pushes [] L = st := ⟨_, rfl⟩
      rw [hst] at hct hd8 ho
      have HST := Lib.hid hst
      have hstl := ctg_len _ _ hct
      have hin : i = n := hcr
      clear hst hct hL hcr
      cases st with
      | nil =>
        obtain ⟨A, c, rfl, hc, hc63⟩ := slice_of ho
        have HO := Lib.hid (of_r [5] (by simp))
        have Hg := Lib.hid hgr
        clear ho hd8 hgr hstl
        go_wp2_with fail
        refine (HO.out _).mono ?_
        rintro e w2 ⟨rfl, g2⟩
        go_wp2_with fail
        go_ret
        exact ⟨by rw [HST.out]; rfl, Hg.out.trans g2⟩
      | cons a r =>
        have ho' : wr.ownsRow w.heap.size 79 3 u3 (a :: r).reverse.length (ndcs (a :: r).reverse) := by simpa using ho
        obtain ⟨g, cap, hlv, hbg, hgl, hcap, hcm, hna, _, _⟩ := own_last' (r := r) (a := a) (by simpa using ho)
        have had : a.d.length ≤ 8 := hd8 a List.mem_cons_self
        have HNA : Hid (∀ w', wr.grownBy w' none → ∀ k x, (a :: r).reverse[k]? = some x → NdAt w' g k x) := Lib.hid (fun w' gg k x hx => by
          obtain ⟨g', cap', e, _, hat⟩ := node_in (ho'.kept gg (Classical.em _)) k x hx
          rw [hlv] at e
          injection e with e1 e2 e3
          injection e1 with e1
          injection e1 with e1
          rw [e1]; exact hat)
        have Hd := Lib.hid hd8
        have Hg := Lib.hid hgr
        subst hlv
        obtain ⟨n0, n1, n2⟩ := hna
        have hkn : r.length ≤ 1099511627776 := by simp at hstl; omega
        generalize hk : r.length = k at *
        have Hk := Lib.hid hk
        have q1 : IntKind.i64.wrap ((k : Int) + 1 - 1) = (k : Int) := by rw [IntKind.wrap_i64]; omega
        have q2 : IntKind.i64.wrap ((k : Int) + 1 - 2) = (k : Int) - 1 := by rw [IntKind.wrap_i64]; omega
        have q3 : (0 : Int) ≤ (k : Int) := by omega
        have q4 : (k : Int) < (k : Int) + 1 := by omega
        clear ho ho' hd8 hgr hstl hk
        go_wp2_with fail
        go_loopw [7, 8] (fun o i wq => TInv a r o i ∧ wr.grownBy wq none) (fun _ i _ => (intOf i + 1).toNat)
        case atStart => exact ⟨⟨[], r, rfl, rfl, by rw [Hk.out]⟩, World.grownBy.refl _ _⟩
        case round =>
          obtain ⟨⟨p, q, hr, rfl, rfl⟩, hg⟩ := hrel
          have hpl := fold_len a had p
          cases q with
          | nil =>
            have HE : Hid (p.foldl (fun out x => pairD x.d out) a.d = topD (a :: r)) := Lib.hid (by rw [hr, List.append_nil]; rfl)
            clear hr
            go_wp2_with fail
            go_ret
            exact ⟨by rw [HST.out, ← HE.out]; rfl, Hg.out.trans hg⟩
          | cons x q =>
            have hx : (a :: r).reverse[q.length]? = some x := by rw [hr]; simp
            obtain ⟨m0, m1, m2⟩ := HNA.out _ hg q.length x hx
            have hxd : x.d.length ≤ 8 := Hd.out x (by rw [hr]; simp)
            have hqk : q.length < k := by rw [← Hk.out, hr]; simp; omega
            have e0 : (((x :: q).length : Int) - 1) = (q.length : Int) := by simp
            have HR : Hid (r = p ++ x :: q) := Lib.hid hr
            rw [e0]
            clear hr hx
            have t1 : (q.length : Int) < (k : Int) + 1 := by omega
            have t2 : (0 : Int) ≤ (q.length : Int) := by omega
            have t3 : IntKind.i64.wrap ((q.length : Int) - 1) = (q.length : Int) - 1 := by rw [IntKind.wrap_i64]; omega
            go_wp2_with fail
            refine (node_r _ _ (by omega) (by omega) _).mono ?_
            rintro e w2 ⟨rfl, g2⟩
            go_wp2_with fail
            refine ⟨⟨⟨p ++ [x], q, by rw [HR.out]; simp, ?_, rfl⟩, hg.trans g2⟩, ?_⟩
            · rw [List.foldl_append]; rfl
            · simp [intOf]
end Go.Proofs.Ytljjmoeplfcblaa
