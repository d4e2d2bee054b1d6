/-
  The document's arena: what is written.
-/
import Derived.Test.YtbdkcelggffneaaGreatDoorB5
set_option linter.unusedVariables false
set_option maxRecDepth 20000
namespace Go.Proofs.YtbdkcelggffneaaGreatDoor
open Go.RowKit Go.Shelf

abbrev rft (b : Nat) (g : Nat → Nat) : List Nat := [b, g 1, g 2, g 3, g 4]

theorem rft_g (b : Nat) (g : Nat → Nat) (s : Nat) (h1 : 1 ≤ s) (h4 : s ≤ 4) : g s ∈ rft b g := by
  obtain rfl | rfl | rfl | rfl : s = 1 ∨ s = 2 ∨ s = 3 ∨ s = 4 := by omega
  all_goals simp [rft]

section
variable {w w' : World} {b : Nat} {g : Nat → Nat} {c : Cfg} {x : Tps} {sw : Bool} {ws : Nat → Int}

theorem Ra.bg (h : Ra w b g c x sw ws) (s : Nat) (h1 : 1 ≤ s) (h4 : s ≤ 4) : b ≠ g s := by
  intro e
  obtain ⟨c1, k1, -, -⟩ := h.own
  obtain ⟨c2, k2, -, -⟩ := h.row s h1 h4
  rw [← e, k1] at k2
  simp only [Option.some.injEq, Obj.cells.injEq] at k2
  exact absurd k2.2.1 (by decide)

theorem Ra.keep (h : Ra w b g c x sw ws) (hk : ∀ q ∈ rft b g, w'.heap[q]? = w.heap[q]?) : Ra w' b g c x sw ws :=
  ⟨h.own.of_block (hk b (by simp [rft])), fun s h1 h4 => (h.row s h1 h4).of_block (hk _ (rft_g b g s h1 h4)), h.ok, h.tk, h.z0, h.gd⟩

theorem Ra.lt (h : Ra w b g c x sw ws) : ∀ q ∈ rft b g, q < w.heap.size := by
  intro q hq
  simp only [rft, List.mem_cons, List.not_mem_nil, or_false] at hq
  rcases hq with rfl | rfl | rfl | rfl | rfl
  · exact h.own.lt
  · exact (h.row 1 (by decide) (by decide)).lt
  · exact (h.row 2 (by decide) (by decide)).lt
  · exact (h.row 3 (by decide) (by decide)).lt
  · exact (h.row 4 (by decide) (by decide)).lt

theorem Ra.touch {F : List Nat} (h : Ra w b g c x sw ws) (t : Touch F w w') (hF : ∀ q ∈ rft b g, q ∉ F) : Ra w' b g c x sw ws :=
  h.keep (fun q hq => t.block q (h.lt q hq) (hF q hq))

/-- Two words of two spaces aren't the same. -/
theorem fst_apart {c : Cfg} (ok : c.Ok) {s t d j : Nat} (s1 : 1 ≤ s) (s4 : s ≤ 4) (t1 : 1 ≤ t) (t4 : t ≤ 4) (hst : s ≠ t) (hd : d < spn c s) (hj : j < spn c t) : (fst c s).toNat + d ≠ (fst c t).toNat + j := by
  have := ok.e0; have := ok.s0; have := ok.t0
  obtain rfl | rfl | rfl | rfl : s = 1 ∨ s = 2 ∨ s = 3 ∨ s = 4 := by omega
  all_goals
    obtain rfl | rfl | rfl | rfl : t = 1 ∨ t = 2 ∨ t = 3 ∨ t = 4 := by omega
    all_goals first
      | exact absurd rfl hst
      | (simp [spn] at hd hj; simp [fst]; omega)

theorem Ra.set (h : Ra w b g c x sw ws) (s d : Nat) (v : Int) (h1 : 1 ≤ s) (h4 : s ≤ 4) (hd : d < spn c s) : Ra (w.setCell ⟨g s, d, none⟩ (.int .u64 v)) b g c x sw (upd ws ((fst c s).toNat + d) v) := by
  refine ⟨h.own.setOther (h.bg s h1 h4) _, fun t t1 t4 => ?_, h.ok, h.tk, ?_, h.gd⟩
  · by_cases e : t = s
    · subst e
      refine ((h.row t t1 t4).set d _).congr (fun j _ => ?_)
      unfold upd
      by_cases ej : j = d
      · subst ej; rw [if_pos rfl, if_pos rfl]
      · rw [if_neg ej, if_neg (by omega)]
    · refine ((h.row t t1 t4).setOther (h.gd t s t1 t4 h1 h4 e) _).congr (fun j hj => ?_)
      unfold upd
      rw [if_neg (fst_apart h.ok t1 t4 h1 h4 e hj hd)]
  · unfold upd
    have : 1 ≤ fst c s := by
      have := h.ok.e0; have := h.ok.s0
      obtain rfl | rfl | rfl | rfl : s = 1 ∨ s = 2 ∨ s = 3 ∨ s = 4 := by omega
      all_goals
        simp [fst]
        try omega
    rw [if_neg (by omega)]
    exact h.z0

theorem raf_top (c : Cfg) (g : Nat → Nat) (x : Tps) (sw : Bool) (s : Nat) (v : Int) (h1 : 1 ≤ s) (h4 : s ≤ 4) (j : Nat) (hj : j < 25) : (if j = 19 + s then Value.int .i64 (v - fst c s) else raf c g x sw j) = raf c g (x.put s v) sw j := by
  obtain rfl | rfl | rfl | rfl : s = 1 ∨ s = 2 ∨ s = 3 ∨ s = 4 := by omega
  all_goals
    match j, hj with
    | 0, _ | 1, _ | 2, _ | 3, _ | 4, _ | 5, _ | 6, _ | 7, _ | 8, _ | 9, _ | 10, _ | 11, _ | 12, _ | 13, _ | 14, _ | 15, _ | 16, _ | 17, _ | 18, _ | 19, _ | 20, _ | 21, _ | 22, _ | 23, _ | 24, _ => simp [raf, Tps.put, fst]
    | j + 25, h => exact absurd (show j + 25 < 25 from h) (by omega)

theorem Ra.put (h : Ra w b g c x sw ws) (s : Nat) (v : Int) (h1 : 1 ≤ s) (h4 : s ≤ 4) (v0 : fst c s ≤ v) (v1 : v ≤ bhd c s) : Ra (w.setCell ⟨b, 19 + s, none⟩ (.int .i64 (v - fst c s))) b g c (x.put s v) sw ws := by
  refine ⟨(h.own.set _ _).congr (fun j hj => raf_top c g x sw s v h1 h4 j hj), fun t t1 t4 => (h.row t t1 t4).setOther (fun e => h.bg t t1 t4 e.symm) _, h.ok, ?_, h.z0, h.gd⟩
  obtain ⟨a1, a2, a3, a4, a5, a6, a7, a8⟩ := h.tk
  obtain rfl | rfl | rfl | rfl : s = 1 ∨ s = 2 ∨ s = 3 ∨ s = 4 := by omega
  all_goals
    simp [fst] at v0
    simp [bhd] at v1
    constructor <;> simp [Tps.put] <;> omega

theorem Ra.swp (h : Ra w b g c x sw ws) : Ra (w.setCell ⟨b, 24, none⟩ (.int .i64 (if (!sw) = true then 3 else 2))) b g c x (!sw) ws := by
  refine ⟨(h.own.set _ _).congr (fun j hj => ?_), fun t t1 t4 => (h.row t t1 t4).setOther (fun e => h.bg t t1 t4 e.symm) _, h.ok, h.tk, h.z0, h.gd⟩
  match j, hj with
  | 0, _ | 1, _ | 2, _ | 3, _ | 4, _ | 5, _ | 6, _ | 7, _ | 8, _ | 9, _ | 10, _ | 11, _ | 12, _ | 13, _ | 14, _ | 15, _ | 16, _ | 17, _ | 18, _ | 19, _ | 20, _ | 21, _ | 22, _ | 23, _ | 24, _ => rfl
  | j + 25, h => exact absurd (show j + 25 < 25 from h) (by omega)
end

section
variable (b : Nat) (g : Nat → Nat) (c : Cfg) (x : Tps) (sw : Bool) (ws : Nat → Int)

set_option maxHeartbeats 2000000 in
theorem rsetWord_no (i v : Int) (hi : ¬ (1 ≤ i ∧ i < c.words)) (w : World) (h : Ra w b g c x sw ws) :
    Calls Tryz.prog 71 #[.pointer (some ⟨b, 0, none⟩), .int .i64 i, .int .u64 v] w fun e w' => e = .returned (.bool false) ∧ Below w.heap.size w w' := by
  have hsp := rspaceof_any b g c x sw ws i w h
  have hz : spc c i = 0 := by
    have := h.ok.e0; have := h.ok.s0; have := h.ok.t0
    unfold Cfg.words at hi
    unfold spc
    repeat' split
    all_goals omega
  rw [hz] at hsp
  clear h hz hi
  go_enter Tryz.func71, Tryz.ntmps71
  go_wp2_with fail
  refine hsp.mono ?_
  rintro e w1 ⟨rfl, l1⟩
  clear hsp
  go_wp2
  go_ret
  exact ⟨rfl, l1⟩

set_option maxHeartbeats 2000000 in
theorem rsetWord_int (i v : Int) (h0 : 0 < i) (h1 : i < c.words) (w : World) (h : Ra w b g c x sw ws) :
    Calls Tryz.prog 71 #[.pointer (some ⟨b, 0, none⟩), .int .i64 i, .int .u64 v] w fun e w' => e = .returned (.bool true) ∧ Ra w' b g c x sw (upd ws i.toNat v) ∧ Touch (rft b g) w w' := by
  have hsp := rspaceof_any b g c x sw ws i w h
  obtain ⟨q0, q4, q1, q2⟩ := spc_in h.ok i
  have hz : spc c i ≠ 0 := fun e => by have := q2 e; omega
  obtain ⟨n, hn⟩ : ∃ n : Nat, spc c i = n := ⟨(spc c i).toNat, by omega⟩
  rw [hn] at hsp q0 q4 q1 hz
  have hn1 : 1 ≤ n := by omega
  have hn4 : n ≤ 4 := by omega
  have hq := q1 hz
  have hs := spn_bhd h.ok n hn1 hn4
  have hf := fst_in h.ok (n : Int)
  obtain ⟨d, hd⟩ : ∃ d : Nat, i - fst c n = d := ⟨(i - fst c n).toNat, by omega⟩
  have hdl : d < spn c n := by omega
  have HI : Hid (i.toNat = (fst c n).toNat + d) := by show _ = _; omega
  have HR : Hid (Ra w b g c x sw ws) := h
  have HBd : Hid (∀ w1, Below w.heap.size w w1 → Calls Tryz.prog 73 #[.pointer (some ⟨b, 0, none⟩), .int .i64 n] w1 fun e w' => e = .returned (.tuple #[.int .i64 (fst c n), .int .i64 (bhd c n)]) ∧ Below w1.heap.size w1 w') := fun w1 l => rbounds_any b g c x sw ws n w1 (h.below l)
  have hib : i < 400000 := by have := hs.1; have := hs.2.1; omega
  have hnz : ¬ (n : Int) = 0 := by omega
  have hn5 : (n : Int) < 5 := by omega
  have hsn := hs.2.1
  have hi0 : 0 ≤ i := by omega
  clear h hn hz q0 q4 q1 q2 hq hs h0 h1
  go_enter Tryz.func71, Tryz.ntmps71
  go_wp2_with fail
  refine hsp.mono ?_
  rintro e w1 ⟨rfl, l1⟩
  clear hsp
  go_wp2_with fail
  refine (HBd.out w1 l1).mono ?_
  rintro e w2 ⟨rfl, l2⟩
  have l3 := l1.trans (l2.mono l1.size)
  have hR2 := HR.out.below l3
  have k1 := hR2.wrd n hn1 hn4
  have k2 := hR2.wcell n d hn1 hn4 hdl
  have kz := (hR2.row n hn1 hn4).frozen d
  have HX : Hid (Ra (w2.setCell ⟨g n, d, none⟩ (.int .u64 v)) b g c x sw (upd ws i.toNat v)) := by
    show Ra _ _ _ _ _ _ _
    rw [HI.out]
    exact hR2.set n d v hn1 hn4 hdl
  have L3 : Hid (Touch (rft b g) w (w2.setCell ⟨g n, d, none⟩ (.int .u64 v))) := (Touch.of_below l3 _).trans (Touch.setCell _ _ _ (rft_g b g n hn1 hn4))
  clear l1 l2 l3 HBd hR2 HI
  generalize ws ((fst c n).toNat + d) = m at *
  generalize fst c (n : Int) = F at *
  generalize bhd c (n : Int) = H at *
  generalize spn c n = N at *
  have hdi : (d : Int) < N := by omega
  go_wp2
  go_ret
  exact ⟨rfl, HX.out, L3.out⟩

theorem rsetWord_yes (i : Nat) (v : Int) (h0 : 0 < i) (h1 : (i : Int) < c.words) (w : World) (h : Ra w b g c x sw ws) :
    Calls Tryz.prog 71 #[.pointer (some ⟨b, 0, none⟩), .int .i64 i, .int .u64 v] w fun e w' => e = .returned (.bool true) ∧ Ra w' b g c x sw (upd ws i v) ∧ Touch (rft b g) w w' := by
  have := rsetWord_int b g c x sw ws (i : Int) v (by omega) h1 w h
  rw [Int.toNat_natCast] at this
  exact this

set_option maxHeartbeats 1000000 in
theorem rswap_any (w : World) (h : Ra w b g c x sw ws) :
    Calls Tryz.prog 60 #[.pointer (some ⟨b, 0, none⟩)] w fun e w' => e = .returned (.tuple #[]) ∧ Ra w' b g c x (!sw) ws ∧ Touch (rft b g) w w' := by
  have ht := rto_any b g c x sw ws w h
  have HX : Hid (Ra (w.setCell ⟨b, 24, none⟩ (.int .i64 (if (!sw) = true then 3 else 2))) b g c x (!sw) ws) := h.swp
  have L : Hid (Touch (rft b g) w (w.setCell ⟨b, 24, none⟩ (.int .i64 (if (!sw) = true then 3 else 2)))) := Touch.setCell _ _ _ (by simp [rft])
  have e : (if sw = true then (2 : Int) else 3) = (if (!sw) = true then 3 else 2) := by cases sw <;> rfl
  rw [e] at ht
  have k : w.cell? ⟨b, 24, none⟩ = some (.int .i64 (if sw = true then 3 else 2)) := h.cell 24 (by decide)
  have kz := h.own.frozen 24
  clear h e
  generalize (if sw = true then (3 : Int) else 2) = u at *
  generalize (if (!sw) = true then (3 : Int) else 2) = v at *
  go_enter Tryz.func60, Tryz.ntmps60
  go_wp2_with fail
  refine ht.mono ?_
  rintro e w1 ⟨rfl, rfl⟩
  clear ht
  go_wp2
  go_returns
  exact ⟨rfl, HX.out, L.out⟩

set_option maxHeartbeats 1000000 in
theorem ryoung_any (i : Int) (w : World) (h : Ra w b g c x sw ws) :
    Calls Tryz.prog 28 #[.pointer (some ⟨b, 0, none⟩), .int .i64 i] w fun e w' => e = .returned (.bool (decide (spc c i = 1 ∨ spc c i = if sw = true then 3 else 2))) ∧ Below w.heap.size w w' := by
  have hs := rspaceof_any b g c x sw ws i w h
  have HR : Hid (Ra w b g c x sw ws) := h
  clear h
  generalize spc c i = s at *
  obtain ⟨u, hu⟩ : ∃ u : Int, u = if sw = true then 3 else 2 := ⟨_, rfl⟩
  rw [← hu]
  have HU : Hid (u = if sw = true then 3 else 2) := hu
  clear hu
  go_enter Tryz.func28, Tryz.ntmps28
  go_wp2_with fail
  refine hs.mono ?_
  rintro e w1 ⟨rfl, l1⟩
  have k : w1.cell? ⟨b, 24, none⟩ = some (.int .i64 (if sw = true then 3 else 2)) := (HR.out.below l1).cell 24 (by decide)
  rw [← HU.out] at k
  clear hs HR HU
  have L1 : Hid (Below w.heap.size w w1) := l1
  clear l1
  by_cases h1 : s = 1
  · subst h1
    go_wp2
    go_ret
    exact ⟨by simp, L1.out⟩
  · have h1' : decide (s = 1) = false := decide_eq_false h1
    go_wp2
    go_ret
    exact ⟨by simp; rfl, L1.out⟩

set_option maxHeartbeats 2000000 in
theorem rcut_no (s t : Int) (ht : ¬ ((1 ≤ s ∧ s ≤ 4) ∧ fst c s ≤ t ∧ t ≤ x.top s)) (w : World) (h : Ra w b g c x sw ws) :
    Calls Tryz.prog 58 #[.pointer (some ⟨b, 0, none⟩), .int .i64 s, .int .i64 t] w fun e w' => e = .returned (.bool false) ∧ Below w.heap.size w w' := by
  have hb := rbounds_any b g c x sw ws s w h
  have HT : Hid (∀ w1, Below w.heap.size w w1 → Calls Tryz.prog 76 #[.pointer (some ⟨b, 0, none⟩), .int .i64 s] w1 fun e w' => e = .returned (.int .i64 (x.top s)) ∧ Below w1.heap.size w1 w') := fun w1 l => rtop_any b g c x sw ws s w1 (h.below l)
  clear h
  generalize fst c s = F at *
  generalize bhd c s = H at *
  generalize x.top s = T at *
  go_enter Tryz.func58, Tryz.ntmps58
  go_wp2_with fail
  refine hb.mono ?_
  rintro e w1 ⟨rfl, l1⟩
  clear hb
  have hsp := rspace_any s w1
  by_cases hs : 1 ≤ s ∧ s ≤ 4
  · rw [decide_eq_true hs] at hsp
    have ht' : ¬ (F ≤ t ∧ t ≤ T) := fun hh => ht ⟨hs, hh⟩
    clear ht hs
    go_wp2_with fail
    refine hsp.mono ?_
    rintro e w2 ⟨rfl, rfl⟩
    clear hsp
    by_cases h1 : t < F
    · clear ht' HT
      go_wp2
      go_ret
      exact ⟨rfl, l1⟩
    · have h1' : decide (t < F) = false := decide_eq_false h1
      have h2 : T < t := by omega
      clear ht'
      go_wp2_with fail
      refine (HT.out w1 l1).mono ?_
      rintro e w2 ⟨rfl, l2⟩
      have L2 : Hid (Below w.heap.size w w2) := l1.trans (l2.mono l1.size)
      clear l1 l2 HT
      go_wp2
      go_ret
      exact ⟨rfl, L2.out⟩
  · rw [decide_eq_false hs] at hsp
    clear ht hs
    go_wp2_with fail
    refine hsp.mono ?_
    rintro e w2 ⟨rfl, rfl⟩
    clear hsp HT
    go_wp2
    go_ret
    exact ⟨rfl, l1⟩

set_option maxHeartbeats 2000000 in
theorem rcut_yes (s t : Int) (hs : 1 ≤ s ∧ s ≤ 4) (h0 : fst c s ≤ t) (h1 : t ≤ x.top s) (w : World) (h : Ra w b g c x sw ws) :
    Calls Tryz.prog 58 #[.pointer (some ⟨b, 0, none⟩), .int .i64 s, .int .i64 t] w fun e w' => e = .returned (.bool true) ∧ Ra w' b g c (x.put s t) sw ws ∧ Touch (rft b g) w w' := by
  obtain ⟨n, rfl⟩ : ∃ n : Nat, s = n := ⟨s.toNat, by omega⟩
  have hn1 : 1 ≤ n := by omega
  have hn4 : n ≤ 4 := by omega
  have hb := rbounds_any b g c x sw ws n w h
  have HT : Hid (∀ w1, Below w.heap.size w w1 → Calls Tryz.prog 76 #[.pointer (some ⟨b, 0, none⟩), .int .i64 n] w1 fun e w' => e = .returned (.int .i64 (x.top n)) ∧ Below w1.heap.size w1 w') := fun w1 l => rtop_any b g c x sw ws n w1 (h.below l)
  have hsp := fun w1 => rspace_any (n : Int) w1
  rw [decide_eq_true hs] at hsp
  have hbt : x.top n ≤ bhd c n := by
    have := h.ok.e1; have := h.ok.s1; have := h.ok.t1
    obtain ⟨a1, a2, a3, a4, a5, a6, a7, a8⟩ := h.tk
    obtain rfl | rfl | rfl | rfl : n = 1 ∨ n = 2 ∨ n = 3 ∨ n = 4 := by omega
    all_goals
      simp only [bhd, Tps.top]
      simp
      omega
  have HX : Hid (∀ w2, Below w.heap.size w w2 → Ra (w2.setCell ⟨b, 19 + n, none⟩ (.int .i64 (t - fst c n))) b g c (x.put n t) sw ws) := fun w2 l => (h.below l).put n t hn1 hn4 h0 (by omega)
  have hf := fst_in h.ok (n : Int)
  have hsb := spn_bhd h.ok n hn1 hn4
  have htb : t ≤ 400000 := by have := hsb.2.1; have := hsb.1; omega
  have HR : Hid (Ra w b g c x sw ws) := h
  have HSP : Hid (∀ w1, Calls Tryz.prog 93 #[.int .i64 n] w1 fun e w' => e = .returned (.bool true) ∧ w1 = w') := hsp
  clear h hs hsp hbt hsb
  have hn5 : (n : Int) < 5 := by omega
  generalize fst c (n : Int) = F at *
  generalize bhd c (n : Int) = H at *
  generalize x.top (n : Int) = T at *
  go_enter Tryz.func58, Tryz.ntmps58
  go_wp2_with fail
  refine hb.mono ?_
  rintro e w1 ⟨rfl, l1⟩
  clear hb
  go_wp2_with fail
  refine (HSP.out w1).mono ?_
  rintro e w2 ⟨rfl, rfl⟩
  go_wp2_with fail
  refine (HT.out w1 l1).mono ?_
  rintro e w2 ⟨rfl, l2⟩
  have l3 := l1.trans (l2.mono l1.size)
  have X2 : Hid (Ra (w2.setCell ⟨b, 19 + n, none⟩ (.int .i64 (t - F))) b g c (x.put n t) sw ws) := HX.out w2 l3
  have L2 : Hid (Touch (rft b g) w (w2.setCell ⟨b, 19 + n, none⟩ (.int .i64 (t - F)))) := (Touch.of_below l3 _).trans (Touch.setCell _ _ _ (by simp [rft]))
  have k := (HR.out.below l3).usd n hn1 hn4
  have kz := (HR.out.below l3).own.frozen (19 + n)
  clear l1 l2 l3 HX HR HT HSP
  generalize x.top (n : Int) - fst c (n : Int) = u at *
  go_wp2
  go_ret
  exact ⟨rfl, X2.out, L2.out⟩
end

end Go.Proofs.YtbdkcelggffneaaGreatDoor
