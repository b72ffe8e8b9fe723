/-
  digest.top and digest.rootOf, by their contracts.
-/
import Derived.Test.YtljjmoeplfcblaaSum
namespace Go.Proofs.Ytljjmoeplfcblaa
open Go.RowKit Go.Shelf
attribute [local go_sem] get_mk extract_mk

theorem ndcs_at {w : World} {base : Nat} {v : Value} {L : List Nd} (h : w.ownsRow base 77 3 v L.length (ndcs L)) {g n cap : Nat} (hv : v = .slice (some ⟨g, 0, none⟩) n cap) (k : Nat) (a : Nd) (hk : L[k]? = some a) : NdAt w g k a := by
  obtain ⟨g', cap', e, _, hat⟩ := node_at h k a hk
  rw [hv] at e
  injection e with e1 e2 e3
  injection e1 with e1
  injection e1 with e1
  rw [e1]; exact hat
def TInv (a : Nd) (r : List Nd) (o i : Value) : Prop :=
  ∃ p q : List Nd, r = p ++ q ∧ o = .string ⟨(p.foldl (fun out x => pairD x.d out) a.d).toArray⟩ ∧ i = .int .i64 ((q.length : Int) - 1)
theorem fold_len8 : ∀ (p : List Nd) (s : Str), s.length ≤ 8 → (p.foldl (fun out x => pairD x.d out) s).length ≤ 8
  | [], _, h => h
  | _ :: p, _, _ => fold_len8 p _ (Nat.le_of_eq (pairD_len _ _))
theorem fold_len (a : Nd) (ha : a.d.length ≤ 8) (p : List Nd) : (p.foldl (fun out x => pairD x.d out) a.d).length ≤ 8 := fold_len8 p _ ha
set_option maxRecDepth 100000 in
set_option maxHeartbeats 2000000 in
/-- digest.top -/
theorem top_k (base : Nat) (v : Value) (st : List Nd) (w : World) (hown : w.ownsRow base 77 3 v st.length (ndcs st.reverse)) (hd : ∀ x ∈ st, x.d.length ≤ 8) (hn : st.length ≤ 1099511627776) :
    Calls Try.prog 62 #[v] w fun e w' => e = .returned (.string ⟨(topD st).toArray⟩) ∧ w.grownBy w' none := by
  cases st with
  | nil =>
    obtain ⟨A, c, rfl, hc, hc63⟩ := slice_of hown
    clear hown hd hn
    go_enter Try.func62, Try.ntmps62
    go_wp2_with fail
    refine (together_new [[5]] w 1 rfl (by simp) (by omega) _ rfl).mono ?_
    rintro e w' ⟨rfl, hg⟩
    go_wp2_with fail
    go_ret
    exact ⟨ret_str (by simp [topD]), hg⟩
  | cons a r =>
    have hown' : w.ownsRow base 77 3 v (a :: r).reverse.length (ndcs (a :: r).reverse) := by simpa using hown
    obtain ⟨g, cap, hlv, hbg, hgl, hcap, hcm, hna, _, _⟩ := own_last (r := r) (a := a) (by simpa using hown)
    have had : a.d.length ≤ 8 := hd a List.mem_cons_self
    have HN : Hid (∀ w', w.grownBy w' none → ∀ k x, (a :: r).reverse[k]? = some x → NdAt w' g k x) := Lib.hid (fun w' gg k x hx => ndcs_at (hown'.kept gg (Classical.em _)) hlv k x hx)
    have Hd := Lib.hid hd
    subst hlv
    obtain ⟨n0, n1, n2⟩ := hna
    have hkn : r.length ≤ 1099511627776 := by simp at hn; omega
    generalize hk : r.length = k at *
    have Hk := Lib.hid hk
    have q1 : IntKind.i64.wrap (k : Int) = (k : Int) := by rw [IntKind.wrap_i64]; omega
    have q2 : IntKind.i64.wrap ((k : Int) + 1 - 2) = (k : Int) - 1 := by rw [IntKind.wrap_i64]; omega
    have q3 : (0 : Int) ≤ (k : Int) := by omega
    have q4 : (k : Int) < (k : Int) + 1 := by omega
    clear hown hown' hd hn hk
    go_enter Try.func62, Try.ntmps62
    go_wp2_with fail
    go_loopw [3, 4] (fun o i wr => TInv a r o i ∧ w.grownBy wr none) (fun _ i _ => (intOf i + 1).toNat)
    case atStart => exact ⟨⟨[], r, rfl, rfl, by rw [Hk.out]⟩, World.grownBy.refl _ _⟩
    case round =>
      obtain ⟨⟨p, q, hr, rfl, rfl⟩, hg⟩ := hrel
      have hpl := fold_len a had p
      cases q with
      | nil =>
        have HE : Hid (p.foldl (fun out x => pairD x.d out) a.d = topD (a :: r)) := Lib.hid (by rw [hr, List.append_nil]; rfl)
        clear hr
        go_wp2_with fail
        go_ret
        exact ⟨by rw [HE.out]; rfl, hg⟩
      | cons x q =>
        have hx : (a :: r).reverse[q.length]? = some x := by rw [hr]; simp
        obtain ⟨m0, m1, m2⟩ := HN.out wr hg q.length x hx
        have hxd : x.d.length ≤ 8 := Hd.out x (by rw [hr]; simp)
        have hqk : q.length < k := by rw [← Hk.out, hr]; simp; omega
        have e0 : (((x :: q).length : Int) - 1) = (q.length : Int) := by simp
        have HR : Hid (r = p ++ x :: q) := Lib.hid hr
        rw [e0]
        clear hr hx
        have t1 : (q.length : Int) < (k : Int) + 1 := by omega
        have t2 : (0 : Int) ≤ (q.length : Int) := by omega
        have t3 : IntKind.i64.wrap ((q.length : Int) - 1) = (q.length : Int) - 1 := by rw [IntKind.wrap_i64]; omega
        go_wp2_with fail
        refine (pair_k _ _ (by omega) (by omega) _).mono ?_
        rintro e w2 ⟨rfl, g2⟩
        go_wp2_with fail
        refine ⟨⟨_, _, _, _, _, _, _, _, _, _, _, _, _, ⟨⟨p ++ [x], q, by rw [HR.out]; simp, ?_, rfl⟩, hg.trans g2⟩, rfl⟩, ?_⟩
        · rw [List.foldl_append]; rfl
        · simp [intOf]
set_option maxHeartbeats 1000000 in
/-- digest.rootOf -/
theorem rootOf_k (base n : Nat) (v : Value) (st : List Nd) (w : World) (hn9 : n < 9223372036854775808) (hown : w.ownsRow base 77 3 v st.length (ndcs st.reverse)) (hd : ∀ x ∈ st, x.d.length ≤ 8) (hn : st.length ≤ 1099511627776) :
    Calls Try.prog 46 #[.int .i64 n, v] w fun e w' => e = .returned (.string ⟨(rootD n st).toArray⟩) ∧ w.grownBy w' none := by
  have HT := Lib.hid (fun w' (g : w.grownBy w' none) => top_k base v st w' (hown.kept g (Classical.em _)) hd hn)
  have htl : (topD st).length ≤ 4611686018427387904 := by
    cases st with
    | nil => rw [topD, dg_len]; decide
    | cons a r => have := fold_len a (hd a List.mem_cons_self) r; rw [topD]; omega
  clear hown hd hn
  go_enter Try.func46, Try.ntmps46
  go_wp2_with fail
  refine (number_k n hn9 w).mono ?_
  rintro e w1 ⟨rfl, g1⟩
  go_wp2_with fail
  refine (HT.out w1 g1).mono ?_
  rintro e w2 ⟨rfl, g2⟩
  go_wp2_with fail
  refine (together_new [[6], be n 8, topD st] w2 3 rfl (by simp [htl, be_len]) (by omega) _ rfl).mono ?_
  rintro e w3 ⟨rfl, g3⟩
  go_wp2_with fail
  go_ret
  exact ⟨ret_str (by simp [rootD]), (g1.trans g2).trans g3⟩
end Go.Proofs.Ytljjmoeplfcblaa
