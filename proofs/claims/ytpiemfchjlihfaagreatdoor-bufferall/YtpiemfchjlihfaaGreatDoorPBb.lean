import Derived.Test.YtpiemfchjlihfaaGreatDoorPBa
import Derived.Test.YtpiemfchjlihfaaGreatDoorHK
import Derived.Test.YtpiemfchjlihfaaGreatDoorPCr
/-
  The document's arena: what is written.
-/
set_option linter.unusedVariables false
set_option maxRecDepth 20000
namespace Go.Proofs.YtpiemfchjlihfaaGreatDoor
open Go.RowKit Go.Shelf

abbrev rft (b : Nat) (g : Nat → Nat) : List Nat := [b, g 1, g 2, g 3, g 4]

theorem rft_g (b : Nat) (g : Nat → Nat) (s : Nat) (h1 : 1 ≤ s) (h4 : s ≤ 4) : g s ∈ rft b g := by
  obtain rfl | rfl | rfl | rfl : s = 1 ∨ s = 2 ∨ s = 3 ∨ s = 4 := by omega
  all_goals simp [rft]

section
variable {w w' : World} {b : Nat} {g : Nat → Nat} {c : Cfg} {x : Tps} {sw : Bool} {ws : Nat → Int}

theorem Ra.bg (h : Ra w b g c x sw ws) (s : Nat) (h1 : 1 ≤ s) (h4 : s ≤ 4) : b ≠ g s := by
  intro e
  obtain ⟨c1, k1, -, -⟩ := h.own
  obtain ⟨c2, k2, -, -⟩ := h.row s h1 h4
  rw [← e, k1] at k2
  simp only [Option.some.injEq, Obj.cells.injEq] at k2
  exact absurd k2.2.1 (by decide)

theorem Ra.keep (h : Ra w b g c x sw ws) (hk : ∀ q ∈ rft b g, w'.heap[q]? = w.heap[q]?) : Ra w' b g c x sw ws :=
  ⟨h.own.of_block (hk b (by simp [rft])), fun s h1 h4 => (h.row s h1 h4).of_block (hk _ (rft_g b g s h1 h4)), h.ok, h.tk, h.z0, h.gd⟩

theorem Ra.lt (h : Ra w b g c x sw ws) : ∀ q ∈ rft b g, q < w.heap.size := by
  intro q hq
  simp only [rft, List.mem_cons, List.not_mem_nil, or_false] at hq
  rcases hq with rfl | rfl | rfl | rfl | rfl
  · exact h.own.lt
  · exact (h.row 1 (by decide) (by decide)).lt
  · exact (h.row 2 (by decide) (by decide)).lt
  · exact (h.row 3 (by decide) (by decide)).lt
  · exact (h.row 4 (by decide) (by decide)).lt

theorem Ra.touch {F : List Nat} (h : Ra w b g c x sw ws) (t : Touch F w w') (hF : ∀ q ∈ rft b g, q ∉ F) : Ra w' b g c x sw ws :=
  h.keep (fun q hq => t.block q (h.lt q hq) (hF q hq))

/-- Two words of two spaces aren't the same. -/
theorem fst_apart {c : Cfg} (ok : c.Ok) {s t d j : Nat} (s1 : 1 ≤ s) (s4 : s ≤ 4) (t1 : 1 ≤ t) (t4 : t ≤ 4) (hst : s ≠ t) (hd : d < spn c s) (hj : j < spn c t) : (fst c s).toNat + d ≠ (fst c t).toNat + j := by
  have := ok.e0; have := ok.s0; have := ok.t0
  obtain rfl | rfl | rfl | rfl : s = 1 ∨ s = 2 ∨ s = 3 ∨ s = 4 := by omega
  all_goals
    obtain rfl | rfl | rfl | rfl : t = 1 ∨ t = 2 ∨ t = 3 ∨ t = 4 := by omega
    all_goals first
      | exact absurd rfl hst
      | (simp [spn] at hd hj; simp [fst]; omega)

theorem Ra.set (h : Ra w b g c x sw ws) (s d : Nat) (v : Int) (h1 : 1 ≤ s) (h4 : s ≤ 4) (hd : d < spn c s) : Ra (w.setCell ⟨g s, d, none⟩ (.int .u64 v)) b g c x sw (upd ws ((fst c s).toNat + d) v) := by
  refine ⟨h.own.setOther (h.bg s h1 h4) _, fun t t1 t4 => ?_, h.ok, h.tk, ?_, h.gd⟩
  · by_cases e : t = s
    · subst e
      refine ((h.row t t1 t4).set d _).congr (fun j _ => ?_)
      unfold upd
      by_cases ej : j = d
      · subst ej; rw [if_pos rfl, if_pos rfl]
      · rw [if_neg ej, if_neg (by omega)]
    · refine ((h.row t t1 t4).setOther (h.gd t s t1 t4 h1 h4 e) _).congr (fun j hj => ?_)
      unfold upd
      rw [if_neg (fst_apart h.ok t1 t4 h1 h4 e hj hd)]
  · unfold upd
    have : 1 ≤ fst c s := by
      have := h.ok.e0; have := h.ok.s0
      obtain rfl | rfl | rfl | rfl : s = 1 ∨ s = 2 ∨ s = 3 ∨ s = 4 := by omega
      all_goals
        simp [fst]
        try omega
    rw [if_neg (by omega)]
    exact h.z0

theorem raf_top (c : Cfg) (g : Nat → Nat) (x : Tps) (sw : Bool) (s : Nat) (v : Int) (h1 : 1 ≤ s) (h4 : s ≤ 4) (j : Nat) (hj : j < 25) : (if j = 19 + s then Value.int .i64 (v - fst c s) else raf c g x sw j) = raf c g (x.put s v) sw j := by
  obtain rfl | rfl | rfl | rfl : s = 1 ∨ s = 2 ∨ s = 3 ∨ s = 4 := by omega
  all_goals
    match j, hj with
    | 0, _ | 1, _ | 2, _ | 3, _ | 4, _ | 5, _ | 6, _ | 7, _ | 8, _ | 9, _ | 10, _ | 11, _ | 12, _ | 13, _ | 14, _ | 15, _ | 16, _ | 17, _ | 18, _ | 19, _ | 20, _ | 21, _ | 22, _ | 23, _ | 24, _ => simp [raf, Tps.put, fst]
    | j + 25, h => exact absurd (show j + 25 < 25 from h) (by omega)

theorem Ra.put (h : Ra w b g c x sw ws) (s : Nat) (v : Int) (h1 : 1 ≤ s) (h4 : s ≤ 4) (v0 : fst c s ≤ v) (v1 : v ≤ bhd c s) : Ra (w.setCell ⟨b, 19 + s, none⟩ (.int .i64 (v - fst c s))) b g c (x.put s v) sw ws := by
  refine ⟨(h.own.set _ _).congr (fun j hj => raf_top c g x sw s v h1 h4 j hj), fun t t1 t4 => (h.row t t1 t4).setOther (fun e => h.bg t t1 t4 e.symm) _, h.ok, ?_, h.z0, h.gd⟩
  obtain ⟨a1, a2, a3, a4, a5, a6, a7, a8⟩ := h.tk
  obtain rfl | rfl | rfl | rfl : s = 1 ∨ s = 2 ∨ s = 3 ∨ s = 4 := by omega
  all_goals
    simp [fst] at v0
    simp [bhd] at v1
    constructor <;> simp [Tps.put] <;> omega

theorem Ra.swp (h : Ra w b g c x sw ws) : Ra (w.setCell ⟨b, 24, none⟩ (.int .i64 (if (!sw) = true then 3 else 2))) b g c x (!sw) ws := by
  refine ⟨(h.own.set _ _).congr (fun j hj => ?_), fun t t1 t4 => (h.row t t1 t4).setOther (fun e => h.bg t t1 t4 e.symm) _, h.ok, h.tk, h.z0, h.gd⟩
  match j, hj with
  | 0, _ | 1, _ | 2, _ | 3, _ | 4, _ | 5, _ | 6, _ | 7, _ | 8, _ | 9, _ | 10, _ | 11, _ | 12, _ | 13, _ | 14, _ | 15, _ | 16, _ | 17, _ | 18, _ | 19, _ | 20, _ | 21, _ | 22, _ | 23, _ | 24, _ => rfl
  | j + 25, h => exact absurd (show j + 25 < 25 from h) (by omega)
end

section
variable (b : Nat) (g : Nat → Nat) (c : Cfg) (x : Tps) (sw : Bool) (ws : Nat → Int)

set_option maxHeartbeats 2000000 in
theorem rsetWord_no (i v : Int) (hi : ¬ (1 ≤ i ∧ i < c.words)) (w : World) (h : Ra w b g c x sw ws) :
    Calls Tryz.prog 66 #[.pointer (some ⟨b, 0, none⟩), .int .i64 i, .int .u64 v] w fun e w' => e = .returned (.bool false) ∧ Below w.heap.size w w' := by
  have hsp := rspaceof_any b g c x sw ws i w h
  have hz : spc c i = 0 := by
    have := h.ok.e0; have := h.ok.s0; have := h.ok.t0
    unfold Cfg.words at hi
    unfold spc
    repeat' split
    all_goals omega
  rw [hz] at hsp
  clear h hz hi
  go_enter Tryz.func66, Tryz.ntmps66
  go_wp2_with fail
  refine hsp.mono ?_
  rintro e w1 ⟨rfl, l1⟩
  clear hsp
  go_wp2
  go_ret
  exact ⟨rfl, l1⟩

set_option maxHeartbeats 2000000 in
theorem rsetWord_int (i v : Int) (h0 : 0 < i) (h1 : i < c.words) (w : World) (h : Ra w b g c x sw ws) :
    Calls Tryz.prog 66 #[.pointer (some ⟨b, 0, none⟩), .int .i64 i, .int .u64 v] w fun e w' => e = .returned (.bool true) ∧ Ra w' b g c x sw (upd ws i.toNat v) ∧ Touch (rft b g) w w' := by
  have hsp := rspaceof_any b g c x sw ws i w h
  obtain ⟨q0, q4, q1, q2⟩ := spc_in h.ok i
  have hz : spc c i ≠ 0 := fun e => by have := q2 e; omega
  obtain ⟨n, hn⟩ : ∃ n : Nat, spc c i = n := ⟨(spc c i).toNat, by omega⟩
  rw [hn] at hsp q0 q4 q1 hz
  have hn1 : 1 ≤ n := by omega
  have hn4 : n ≤ 4 := by omega
  have hq := q1 hz
  have hs := spn_bhd h.ok n hn1 hn4
  have hf := fst_in h.ok (n : Int)
  obtain ⟨d, hd⟩ : ∃ d : Nat, i - fst c n = d := ⟨(i - fst c n).toNat, by omega⟩
  have hdl : d < spn c n := by omega
  have HI : Hid (i.toNat = (fst c n).toNat + d) := by show _ = _; omega
  have HR : Hid (Ra w b g c x sw ws) := h
  have HBd : Hid (∀ w1, Below w.heap.size w w1 → Calls Tryz.prog 73 #[.pointer (some ⟨b, 0, none⟩), .int .i64 n] w1 fun e w' => e = .returned (.tuple #[.int .i64 (fst c n), .int .i64 (bhd c n)]) ∧ Below w1.heap.size w1 w') := fun w1 l => rbounds_any b g c x sw ws n w1 (h.below l)
  have hib : i < 400000 := by have := hs.1; have := hs.2.1; omega
  have hnz : ¬ (n : Int) = 0 := by omega
  have hn5 : (n : Int) < 5 := by omega
  have hsn := hs.2.1
  have hi0 : 0 ≤ i := by omega
  clear h hn hz q0 q4 q1 q2 hq hs h0 h1
  go_enter Tryz.func66, Tryz.ntmps66
  go_wp2_with fail
  refine hsp.mono ?_
  rintro e w1 ⟨rfl, l1⟩
  clear hsp
  go_wp2_with fail
  refine (HBd.out w1 l1).mono ?_
  rintro e w2 ⟨rfl, l2⟩
  have l3 := l1.trans (l2.mono l1.size)
  have hR2 := HR.out.below l3
  have k1 := hR2.wrd n hn1 hn4
  have k2 := hR2.wcell n d hn1 hn4 hdl
  have kz := (hR2.row n hn1 hn4).frozen d
  have HX : Hid (Ra (w2.setCell ⟨g n, d, none⟩ (.int .u64 v)) b g c x sw (upd ws i.toNat v)) := by
    show Ra _ _ _ _ _ _ _
    rw [HI.out]
    exact hR2.set n d v hn1 hn4 hdl
  have L3 : Hid (Touch (rft b g) w (w2.setCell ⟨g n, d, none⟩ (.int .u64 v))) := (Touch.of_below l3 _).trans (Touch.setCell _ _ _ (rft_g b g n hn1 hn4))
  clear l1 l2 l3 HBd hR2 HI
  generalize ws ((fst c n).toNat + d) = m at *
  generalize fst c (n : Int) = F at *
  generalize bhd c (n : Int) = H at *
  generalize spn c n = N at *
  have hdi : (d : Int) < N := by omega
  go_wp2
  go_ret
  exact ⟨rfl, HX.out, L3.out⟩

theorem rsetWord_yes (i : Nat) (v : Int) (h0 : 0 < i) (h1 : (i : Int) < c.words) (w : World) (h : Ra w b g c x sw ws) :
    Calls Tryz.prog 66 #[.pointer (some ⟨b, 0, none⟩), .int .i64 i, .int .u64 v] w fun e w' => e = .returned (.bool true) ∧ Ra w' b g c x sw (upd ws i v) ∧ Touch (rft b g) w w' := by
  have := rsetWord_int b g c x sw ws (i : Int) v (by omega) h1 w h
  rw [Int.toNat_natCast] at this
  exact this

set_option maxHeartbeats 2000000 in
theorem rcut_no (s t : Int) (ht : ¬ ((1 ≤ s ∧ s ≤ 4) ∧ fst c s ≤ t ∧ t ≤ x.top s)) (w : World) (h : Ra w b g c x sw ws) :
    Calls Tryz.prog 29 #[.pointer (some ⟨b, 0, none⟩), .int .i64 s, .int .i64 t] w fun e w' => e = .returned (.bool false) ∧ Below w.heap.size w w' := by
  have hb := rbounds_any b g c x sw ws s w h
  have HT : Hid (∀ w1, Below w.heap.size w w1 → Calls Tryz.prog 37 #[.pointer (some ⟨b, 0, none⟩), .int .i64 s] w1 fun e w' => e = .returned (.int .i64 (x.top s)) ∧ Below w1.heap.size w1 w') := fun w1 l => rtop_any b g c x sw ws s w1 (h.below l)
  clear h
  generalize fst c s = F at *
  generalize bhd c s = H at *
  generalize x.top s = T at *
  go_enter Tryz.func29, Tryz.ntmps29
  go_wp2_with fail
  refine hb.mono ?_
  rintro e w1 ⟨rfl, l1⟩
  clear hb
  have hsp := rspace_any s w1
  by_cases hs : 1 ≤ s ∧ s ≤ 4
  · rw [decide_eq_true hs] at hsp
    have ht' : ¬ (F ≤ t ∧ t ≤ T) := fun hh => ht ⟨hs, hh⟩
    clear ht hs
    go_wp2_with fail
    refine hsp.mono ?_
    rintro e w2 ⟨rfl, rfl⟩
    clear hsp
    by_cases h1 : t < F
    · clear ht' HT
      go_wp2
      go_ret
      exact ⟨rfl, l1⟩
    · have h1' : decide (t < F) = false := decide_eq_false h1
      have h2 : T < t := by omega
      clear ht'
      go_wp2_with fail
      refine (HT.out w1 l1).mono ?_
      rintro e w2 ⟨rfl, l2⟩
      have L2 : Hid (Below w.heap.size w w2) := l1.trans (l2.mono l1.size)
      clear l1 l2 HT
      go_wp2
      go_ret
      exact ⟨rfl, L2.out⟩
  · rw [decide_eq_false hs] at hsp
    clear ht hs
    go_wp2_with fail
    refine hsp.mono ?_
    rintro e w2 ⟨rfl, rfl⟩
    clear hsp HT
    go_wp2
    go_ret
    exact ⟨rfl, l1⟩

set_option maxHeartbeats 2000000 in
theorem rcut_yes (s t : Int) (hs : 1 ≤ s ∧ s ≤ 4) (h0 : fst c s ≤ t) (h1 : t ≤ x.top s) (w : World) (h : Ra w b g c x sw ws) :
    Calls Tryz.prog 29 #[.pointer (some ⟨b, 0, none⟩), .int .i64 s, .int .i64 t] w fun e w' => e = .returned (.bool true) ∧ Ra w' b g c (x.put s t) sw ws ∧ Touch (rft b g) w w' := by
  obtain ⟨n, rfl⟩ : ∃ n : Nat, s = n := ⟨s.toNat, by omega⟩
  have hn1 : 1 ≤ n := by omega
  have hn4 : n ≤ 4 := by omega
  have hb := rbounds_any b g c x sw ws n w h
  have HT : Hid (∀ w1, Below w.heap.size w w1 → Calls Tryz.prog 37 #[.pointer (some ⟨b, 0, none⟩), .int .i64 n] w1 fun e w' => e = .returned (.int .i64 (x.top n)) ∧ Below w1.heap.size w1 w') := fun w1 l => rtop_any b g c x sw ws n w1 (h.below l)
  have hsp := fun w1 => rspace_any (n : Int) w1
  rw [decide_eq_true hs] at hsp
  have hbt : x.top n ≤ bhd c n := by
    have := h.ok.e1; have := h.ok.s1; have := h.ok.t1
    obtain ⟨a1, a2, a3, a4, a5, a6, a7, a8⟩ := h.tk
    obtain rfl | rfl | rfl | rfl : n = 1 ∨ n = 2 ∨ n = 3 ∨ n = 4 := by omega
    all_goals
      simp only [bhd, Tps.top]
      simp
      omega
  have HX : Hid (∀ w2, Below w.heap.size w w2 → Ra (w2.setCell ⟨b, 19 + n, none⟩ (.int .i64 (t - fst c n))) b g c (x.put n t) sw ws) := fun w2 l => (h.below l).put n t hn1 hn4 h0 (by omega)
  have hf := fst_in h.ok (n : Int)
  have hsb := spn_bhd h.ok n hn1 hn4
  have htb : t ≤ 400000 := by have := hsb.2.1; have := hsb.1; omega
  have HR : Hid (Ra w b g c x sw ws) := h
  have HSP : Hid (∀ w1, Calls Tryz.prog 74 #[.int .i64 n] w1 fun e w' => e = .returned (.bool true) ∧ w1 = w') := hsp
  clear h hs hsp hbt hsb
  have hn5 : (n : Int) < 5 := by omega
  generalize fst c (n : Int) = F at *
  generalize bhd c (n : Int) = H at *
  generalize x.top (n : Int) = T at *
  go_enter Tryz.func29, Tryz.ntmps29
  go_wp2_with fail
  refine hb.mono ?_
  rintro e w1 ⟨rfl, l1⟩
  clear hb
  go_wp2_with fail
  refine (HSP.out w1).mono ?_
  rintro e w2 ⟨rfl, rfl⟩
  go_wp2_with fail
  refine (HT.out w1 l1).mono ?_
  rintro e w2 ⟨rfl, l2⟩
  have l3 := l1.trans (l2.mono l1.size)
  have X2 : Hid (Ra (w2.setCell ⟨b, 19 + n, none⟩ (.int .i64 (t - F))) b g c (x.put n t) sw ws) := HX.out w2 l3
  have L2 : Hid (Touch (rft b g) w (w2.setCell ⟨b, 19 + n, none⟩ (.int .i64 (t - F)))) := (Touch.of_below l3 _).trans (Touch.setCell _ _ _ (by simp [rft]))
  have k := (HR.out.below l3).usd n hn1 hn4
  have kz := (HR.out.below l3).own.frozen (19 + n)
  clear l1 l2 l3 HX HR HT HSP
  generalize x.top (n : Int) - fst c (n : Int) = u at *
  go_wp2
  go_ret
  exact ⟨rfl, X2.out, L2.out⟩
end

end Go.Proofs.YtpiemfchjlihfaaGreatDoor

/-
  The document's arena: the head of an object.
-/
set_option linter.unusedVariables false
set_option maxRecDepth 20000
namespace Go.Proofs.YtpiemfchjlihfaaGreatDoor
open Go.RowKit Go.Shelf

theorem rsizeh_any (s k p r a t : Int) (h : Bool) (p0 : 0 ≤ p) (p1 : p ≤ 4095) (r0 : 0 ≤ r) (r1 : r ≤ 65535) (w : World) :
    Calls Tryz.prog 58 #[hv s k p r a t h] w fun e w' => e = .returned (.int .i64 (2 + p + r)) ∧ w' = w.alloc (.cells (hcells s k p r a t h) 46) := by
  go_enter Tryz.func58, Tryz.ntmps58
  go_wp2
  go_ret
  exact ⟨rfl, rfl⟩

section
variable (b : Nat) (g : Nat → Nat) (c : Cfg) (x : Tps) (sw : Bool) (ws : Nat → Int)

set_option maxHeartbeats 2000000 in
theorem rhead_out (a : Int) (hno : spc c a = 0 ∨ x.top (spc c a) ≤ a) (w : World) (h : Ra w b g c x sw ws) :
    Calls Tryz.prog 69 #[.pointer (some ⟨b, 0, none⟩), .int .i64 a] w fun e w' => e = .returned (.tuple #[hv 0 0 0 0 0 0 false, .bool false]) ∧ Below w.heap.size w w' := by
  have hX := Box.new w 46 (.int .u64 0) (.int .i64 0) (.int .i64 0) (.int .i64 0) (.int .i64 0) (.int .i64 0) (.bool false)
  have hb := Below.alloc (Below.refl w.heap.size w) (Nat.le_refl _) (.cells (hcells 0 0 0 0 0 0 false) 46)
  have HS : Hid (∀ w1, Below w.heap.size w w1 → Calls Tryz.prog 95 #[.pointer (some ⟨b, 0, none⟩), .int .i64 a] w1 fun e w' => e = .returned (.int .i64 (spc c a)) ∧ Below w1.heap.size w1 w') := fun w1 l => rspaceof_any b g c x sw ws a w1 (h.below l)
  have HT : Hid (∀ w1, Below w.heap.size w w1 → Calls Tryz.prog 37 #[.pointer (some ⟨b, 0, none⟩), .int .i64 (spc c a)] w1 fun e w' => e = .returned (.int .i64 (x.top (spc c a))) ∧ Below w1.heap.size w1 w') := fun w1 l => rtop_any b g c x sw ws _ w1 (h.below l)
  have hxlt := hX.lt
  clear h
  generalize x.top (spc c a) = T at *
  generalize spc c a = S at *
  go_enter Tryz.func69, Tryz.ntmps69
  go_upto_region 1 with fail
  generalize (w.alloc (.cells (hcells 0 0 0 0 0 0 false) 46)) = w0 at *
  go_wp2_with fail
  refine (HS.out w0 hb).mono ?_
  rintro e w1 ⟨rfl, l1⟩
  have b1 := hb.trans (l1.mono hb.size)
  have hX1 := hX.keep l1 hxlt
  clear hb HS hX
  by_cases hz : S = 0
  · subst hz
    obtain ⟨x0, x1, x2, x3, x4, x5, x6, f0, f1, f2, f3, f4, f5, f6⟩ := hX1
    clear hno HT l1 hxlt
    go_wp2
    refine bodyPost_ret (by simp [results, Tryz.results69, go_sem, x0, x1, x2, x3, x4, x5, x6]; try rfl) rfl ?_
    refine ⟨rfl, ?_⟩
    go_grown
  · have hz' : decide (S = 0) = false := decide_eq_false hz
    have hTa : T ≤ a := by omega
    have hx1 := hX1.lt
    go_wp2_with fail
    refine (HT.out w1 b1).mono ?_
    rintro e w2 ⟨rfl, l2⟩
    have b2 := b1.trans (l2.mono b1.size)
    have hX2 := hX1.keep l2 hx1
    clear HT l1 l2 hxlt b1 hX1 hx1 hno
    obtain ⟨x0, x1, x2, x3, x4, x5, x6, f0, f1, f2, f3, f4, f5, f6⟩ := hX2
    go_wp2
    refine bodyPost_ret (by simp [results, Tryz.results69, go_sem, x0, x1, x2, x3, x4, x5, x6]; try rfl) rfl ?_
    refine ⟨rfl, ?_⟩
    go_grown

set_option maxHeartbeats 2000000 in
theorem rhead_bad (a : Int) (hS0 : spc c a ≠ 0) (ht : a < x.top (spc c a)) (hs : ¬ IsHead (wat c ws a)) (hw : Wd (wat c ws a)) (w : World) (h : Ra w b g c x sw ws) :
    Calls Tryz.prog 69 #[.pointer (some ⟨b, 0, none⟩), .int .i64 a] w fun e w' => e = .returned (.tuple #[hv 0 0 0 0 0 0 false, .bool false]) ∧ Below w.heap.size w w' := by
  have hX := Box.new w 46 (.int .u64 0) (.int .i64 0) (.int .i64 0) (.int .i64 0) (.int .i64 0) (.int .i64 0) (.bool false)
  have hb := Below.alloc (Below.refl w.heap.size w) (Nat.le_refl _) (.cells (hcells 0 0 0 0 0 0 false) 46)
  have HS : Hid (∀ w1, Below w.heap.size w w1 → Calls Tryz.prog 95 #[.pointer (some ⟨b, 0, none⟩), .int .i64 a] w1 fun e w' => e = .returned (.int .i64 (spc c a)) ∧ Below w1.heap.size w1 w') := fun w1 l => rspaceof_any b g c x sw ws a w1 (h.below l)
  have HT : Hid (∀ w1, Below w.heap.size w w1 → Calls Tryz.prog 37 #[.pointer (some ⟨b, 0, none⟩), .int .i64 (spc c a)] w1 fun e w' => e = .returned (.int .i64 (x.top (spc c a))) ∧ Below w1.heap.size w1 w') := fun w1 l => rtop_any b g c x sw ws _ w1 (h.below l)
  have HW : Hid (∀ w1, Below w.heap.size w w1 → Calls Tryz.prog 78 #[.pointer (some ⟨b, 0, none⟩), .int .i64 a] w1 fun e w' => e = .returned (.int .u64 (wat c ws a)) ∧ Below w1.heap.size w1 w') := fun w1 l => rword_any b g c x sw ws a w1 (h.below l)
  have HU : Hid (∀ w1, Calls Tryz.prog 98 #[.int .u64 (wat c ws a)] w1 fun e w' => e = .returned (.tuple #[hv 0 0 0 0 0 0 false, .bool false]) ∧ Below w1.heap.size w1 w') := fun w1 => runpack_no _ hw hs w1
  have hxlt := hX.lt
  clear h hs hw
  generalize x.top (spc c a) = T at *
  generalize spc c a = S at *
  generalize wat c ws a = m at *
  have hz' : (S == 0) = false := by simp [hS0]
  have ht' : decide (T ≤ a) = false := decide_eq_false (by omega)
  go_enter Tryz.func69, Tryz.ntmps69
  go_upto_region 1 with fail
  generalize (w.alloc (.cells (hcells 0 0 0 0 0 0 false) 46)) = w0 at *
  go_wp2_with fail
  refine (HS.out w0 hb).mono ?_
  rintro e w1 ⟨rfl, l1⟩
  have b1 := hb.trans (l1.mono hb.size)
  have hX1 := hX.keep l1 hxlt
  have hx1 := hX1.lt
  clear hb HS hX l1 hxlt
  go_wp2_with fail
  refine (HT.out w1 b1).mono ?_
  rintro e w2 ⟨rfl, l2⟩
  have b2 := b1.trans (l2.mono b1.size)
  have hX2 := hX1.keep l2 hx1
  have hx2 := hX2.lt
  clear HT l2 b1 hX1 hx1
  go_wp2_with fail
  refine (HW.out w2 b2).mono ?_
  rintro e w3 ⟨rfl, l3⟩
  have b3 := b2.trans (l3.mono b2.size)
  have hX3 := hX2.keep l3 hx2
  have hx3 := hX3.lt
  clear HW l3 b2 hX2 hx2
  go_wp2_with fail
  refine (HU.out w3).mono ?_
  rintro e w4 ⟨rfl, l4⟩
  have b4 := b3.trans (l4.mono b3.size)
  have hX4 := hX3.keep l4 hx3
  have hx4 := hX4.lt
  clear HU l4 b3 hX3 hx3
  go_upto_region 5 with fail
  have hX5 := hX4.keep (Below.alloc (Below.refl _ _) (Nat.le_refl _) (.cells (hcells 0 0 0 0 0 0 false) 46)) hx4
  have b5 := Below.alloc b4 b4.size (.cells (hcells 0 0 0 0 0 0 false) 46)
  clear hX4 b4 hx4
  generalize (w4.alloc (.cells (hcells 0 0 0 0 0 0 false) 46)) = w5 at *
  obtain ⟨x0, x1, x2, x3, x4, x5, x6, f0, f1, f2, f3, f4, f5, f6⟩ := hX5
  go_wp2
  refine bodyPost_ret (by simp [results, Tryz.results69, go_sem, x0, x1, x2, x3, x4, x5, x6]; try rfl) rfl ?_
  refine ⟨rfl, ?_⟩
  go_grown
end

end Go.Proofs.YtpiemfchjlihfaaGreatDoor

/-
  The document's arena: the head of an object that stands.
-/
set_option linter.unusedVariables false
set_option maxRecDepth 20000
namespace Go.Proofs.YtpiemfchjlihfaaGreatDoor
open Go.RowKit Go.Shelf

section
variable (b : Nat) (g : Nat → Nat) (c : Cfg) (x : Tps) (sw : Bool) (ws : Nat → Int)

set_option maxHeartbeats 2000000 in
theorem rhead_short (a : Int) (hS0 : spc c a ≠ 0) (ht : a < x.top (spc c a)) (hs : IsHead (wat c ws a)) (hz : x.top (spc c a) - a < osz c ws a) (hw : Wd (wat c ws a)) (w : World) (h : Ra w b g c x sw ws) :
    Calls Tryz.prog 69 #[.pointer (some ⟨b, 0, none⟩), .int .i64 a] w fun e w' => e = .returned (.tuple #[hv 0 0 0 0 0 0 false, .bool false]) ∧ Below w.heap.size w w' := by
  have hX := Box.new w 46 (.int .u64 0) (.int .i64 0) (.int .i64 0) (.int .i64 0) (.int .i64 0) (.int .i64 0) (.bool false)
  have hb := Below.alloc (Below.refl w.heap.size w) (Nat.le_refl _) (.cells (hcells 0 0 0 0 0 0 false) 46)
  have HS : Hid (∀ w1, Below w.heap.size w w1 → Calls Tryz.prog 95 #[.pointer (some ⟨b, 0, none⟩), .int .i64 a] w1 fun e w' => e = .returned (.int .i64 (spc c a)) ∧ Below w1.heap.size w1 w') := fun w1 l => rspaceof_any b g c x sw ws a w1 (h.below l)
  have HT : Hid (∀ w1, Below w.heap.size w w1 → Calls Tryz.prog 37 #[.pointer (some ⟨b, 0, none⟩), .int .i64 (spc c a)] w1 fun e w' => e = .returned (.int .i64 (x.top (spc c a))) ∧ Below w1.heap.size w1 w') := fun w1 l => rtop_any b g c x sw ws _ w1 (h.below l)
  have HW : Hid (∀ w1, Below w.heap.size w w1 → Calls Tryz.prog 78 #[.pointer (some ⟨b, 0, none⟩), .int .i64 a] w1 fun e w' => e = .returned (.int .u64 (wat c ws a)) ∧ Below w1.heap.size w1 w') := fun w1 l => rword_any b g c x sw ws a w1 (h.below l)
  have HU : Hid (∀ w1, Calls Tryz.prog 98 #[.int .u64 (wat c ws a)] w1 fun e w' => e = .returned (.tuple #[hv 0 (kdOf (wat c ws a)) (ptOf (wat c ws a)) (rwOf (wat c ws a)) (agOf (wat c ws a)) (stOf (wat c ws a)) (hdOf (wat c ws a)), .bool true]) ∧ Below w1.heap.size w1 w') := fun w1 => runpack_yes _ hw hs w1
  have HW1 : Hid (∀ w1, Below w.heap.size w w1 → Calls Tryz.prog 78 #[.pointer (some ⟨b, 0, none⟩), .int .i64 (a + 1)] w1 fun e w' => e = .returned (.int .u64 (wat c ws (a + 1))) ∧ Below w1.heap.size w1 w') := fun w1 l => rword_any b g c x sw ws (a + 1) w1 (h.below l)
  have hxlt := hX.lt
  have hpt := pt_in (wat c ws a)
  have hrw := rw_in (wat c ws a)
  have hTb : x.top (spc c a) ≤ 400000 := by
    have := h.ok.e1; have := h.ok.s1; have := h.ok.t1
    obtain ⟨a1, a2, a3, a4, a5, a6, a7, a8⟩ := h.tk
    unfold Tps.top
    repeat' split
    all_goals omega
  have ha1 : 1 ≤ a := by
    have := (spc_in h.ok a).2.2.1 hS0
    have := (spc_in h.ok a).1
    have hfp : ∀ s : Int, s ≠ 0 → 0 ≤ s → s ≤ 4 → 1 ≤ fst c s := fun s h1 h2 h3 => by
      have := h.ok.e0; have := h.ok.s0
      obtain rfl | rfl | rfl | rfl : s = 1 ∨ s = 2 ∨ s = 3 ∨ s = 4 := by omega
      all_goals
        simp [fst]
        try omega
    have := hfp (spc c a) hS0 (spc_in h.ok a).1 (spc_in h.ok a).2.1
    omega
  unfold osz at hz
  clear h hs hw
  generalize x.top (spc c a) = T at *
  generalize spc c a = S at *
  generalize wat c ws (a + 1) = m1 at *
  generalize kdOf (wat c ws a) = K at *
  generalize ptOf (wat c ws a) = P at *
  generalize rwOf (wat c ws a) = R at *
  generalize agOf (wat c ws a) = A at *
  generalize stOf (wat c ws a) = U at *
  generalize hdOf (wat c ws a) = H at *
  generalize wat c ws a = m at *
  obtain ⟨p0, p1⟩ := hpt
  obtain ⟨r0, r1⟩ := hrw
  have hz' : (S == 0) = false := by simp [hS0]
  have ht' : decide (T ≤ a) = false := decide_eq_false (by omega)
  go_enter Tryz.func69, Tryz.ntmps69
  go_upto_region 1 with fail
  generalize (w.alloc (.cells (hcells 0 0 0 0 0 0 false) 46)) = w0 at *
  go_wp2_with fail
  refine (HS.out w0 hb).mono ?_
  rintro e w1 ⟨rfl, l1⟩
  have b1 := hb.trans (l1.mono hb.size)
  have hX1 := hX.keep l1 hxlt
  have hx1 := hX1.lt
  clear hb HS hX l1 hxlt
  go_wp2_with fail
  refine (HT.out w1 b1).mono ?_
  rintro e w2 ⟨rfl, l2⟩
  have b2 := b1.trans (l2.mono b1.size)
  have hX2 := hX1.keep l2 hx1
  have hx2 := hX2.lt
  clear l2 b1 hX1 hx1
  go_wp2_with fail
  refine (HW.out w2 b2).mono ?_
  rintro e w3 ⟨rfl, l3⟩
  have b3 := b2.trans (l3.mono b2.size)
  have hX3 := hX2.keep l3 hx2
  have hx3 := hX3.lt
  clear HW l3 b2 hX2 hx2
  go_wp2_with fail
  refine (HU.out w3).mono ?_
  rintro e w4 ⟨rfl, l4⟩
  have b4 := b3.trans (l4.mono b3.size)
  have hX4 := hX3.keep l4 hx3
  have hx4 := hX4.lt
  clear HU l4 b3 hX3 hx3
  go_upto_region 5 with fail
  have hX5 := hX4.keep (Below.alloc (Below.refl _ _) (Nat.le_refl _) (.cells (hcells 0 K P R A U H) 46)) hx4
  have hY5 := Box.new w4 46 (.int .u64 0) (.int .i64 K) (.int .i64 P) (.int .i64 R) (.int .i64 A) (.int .i64 U) (.bool H)
  have b5 := Below.alloc b4 b4.size (.cells (hcells 0 K P R A U H) 46)
  have hne : w.heap.size ≠ w4.heap.size := by omega
  have hBw : w.heap.size ≤ w4.heap.size := b4.size
  clear hX4 b4 hx4
  generalize (w4.alloc (.cells (hcells 0 K P R A U H) 46)) = w5 at *
  have hx5 := hX5.lt
  have hy5 := hY5.lt
  have hY5' := hY5
  obtain ⟨y0, y1, y2, y3, y4, y5, y6, -, -, -, -, -, -, -⟩ := hY5
  generalize w4.heap.size = B7 at *
  go_wp2_with fail
  clear y0 y1 y2 y3 y4 y5 y6
  refine (rsizeh_any 0 K P R A U H p0 p1 r0 r1 w5).mono ?_
  rintro e w6 ⟨rfl, hw6⟩
  have l6 : Below w5.heap.size w5 w6 := by rw [hw6]; exact Below.alloc (Below.refl _ _) (Nat.le_refl _) _
  clear hw6
  have b6 := b5.trans (l6.mono b5.size)
  have hX6 := hX5.keep l6 hx5
  have hY6 := hY5'.keep l6 hy5
  have hx6 := hX6.lt
  have hy6 := hY6.lt
  clear l6 b5 hX5 hY5' hx5 hy5
  go_wp2_with fail
  refine (HT.out w6 b6).mono ?_
  rintro e w7 ⟨rfl, l7⟩
  have b7 := b6.trans (l7.mono b6.size)
  have hX7 := hX6.keep l7 hx6
  have hY7 := hY6.keep l7 hy6
  have hx7 := hX7.lt
  have hy7 := hY7.lt
  clear l7 b6 hX6 hY6 hx6 hy6 HT
  have hgt : T < a + (2 + P + R) := by omega
  clear HW1 hY7 hz
  obtain ⟨x0, x1, x2, x3, x4, x5, x6, f0, f1, f2, f3, f4, f5, f6⟩ := hX7
  go_wp2
  refine bodyPost_ret (by simp [results, Tryz.results69, go_sem, x0, x1, x2, x3, x4, x5, x6]; try rfl) rfl ?_
  refine ⟨rfl, ?_⟩
  go_grown

set_option maxHeartbeats 2000000 in
theorem rhead_yes (a : Int) (hS0 : spc c a ≠ 0) (ht : a < x.top (spc c a)) (hs : IsHead (wat c ws a)) (hz : osz c ws a ≤ x.top (spc c a) - a) (hw : Wd (wat c ws a)) (w : World) (h : Ra w b g c x sw ws) :
    Calls Tryz.prog 69 #[.pointer (some ⟨b, 0, none⟩), .int .i64 a] w fun e w' => e = .returned (.tuple #[hdv c ws a, .bool true]) ∧ Below w.heap.size w w' := by
  unfold hdv
  have hX := Box.new w 46 (.int .u64 0) (.int .i64 0) (.int .i64 0) (.int .i64 0) (.int .i64 0) (.int .i64 0) (.bool false)
  have hb := Below.alloc (Below.refl w.heap.size w) (Nat.le_refl _) (.cells (hcells 0 0 0 0 0 0 false) 46)
  have HS : Hid (∀ w1, Below w.heap.size w w1 → Calls Tryz.prog 95 #[.pointer (some ⟨b, 0, none⟩), .int .i64 a] w1 fun e w' => e = .returned (.int .i64 (spc c a)) ∧ Below w1.heap.size w1 w') := fun w1 l => rspaceof_any b g c x sw ws a w1 (h.below l)
  have HT : Hid (∀ w1, Below w.heap.size w w1 → Calls Tryz.prog 37 #[.pointer (some ⟨b, 0, none⟩), .int .i64 (spc c a)] w1 fun e w' => e = .returned (.int .i64 (x.top (spc c a))) ∧ Below w1.heap.size w1 w') := fun w1 l => rtop_any b g c x sw ws _ w1 (h.below l)
  have HW : Hid (∀ w1, Below w.heap.size w w1 → Calls Tryz.prog 78 #[.pointer (some ⟨b, 0, none⟩), .int .i64 a] w1 fun e w' => e = .returned (.int .u64 (wat c ws a)) ∧ Below w1.heap.size w1 w') := fun w1 l => rword_any b g c x sw ws a w1 (h.below l)
  have HU : Hid (∀ w1, Calls Tryz.prog 98 #[.int .u64 (wat c ws a)] w1 fun e w' => e = .returned (.tuple #[hv 0 (kdOf (wat c ws a)) (ptOf (wat c ws a)) (rwOf (wat c ws a)) (agOf (wat c ws a)) (stOf (wat c ws a)) (hdOf (wat c ws a)), .bool true]) ∧ Below w1.heap.size w1 w') := fun w1 => runpack_yes _ hw hs w1
  have HW1 : Hid (∀ w1, Below w.heap.size w w1 → Calls Tryz.prog 78 #[.pointer (some ⟨b, 0, none⟩), .int .i64 (a + 1)] w1 fun e w' => e = .returned (.int .u64 (wat c ws (a + 1))) ∧ Below w1.heap.size w1 w') := fun w1 l => rword_any b g c x sw ws (a + 1) w1 (h.below l)
  have hxlt := hX.lt
  have hpt := pt_in (wat c ws a)
  have hrw := rw_in (wat c ws a)
  have hTb : x.top (spc c a) ≤ 400000 := by
    have := h.ok.e1; have := h.ok.s1; have := h.ok.t1
    obtain ⟨a1, a2, a3, a4, a5, a6, a7, a8⟩ := h.tk
    unfold Tps.top
    repeat' split
    all_goals omega
  have ha1 : 1 ≤ a := by
    have := (spc_in h.ok a).2.2.1 hS0
    have := (spc_in h.ok a).1
    have hfp : ∀ s : Int, s ≠ 0 → 0 ≤ s → s ≤ 4 → 1 ≤ fst c s := fun s h1 h2 h3 => by
      have := h.ok.e0; have := h.ok.s0
      obtain rfl | rfl | rfl | rfl : s = 1 ∨ s = 2 ∨ s = 3 ∨ s = 4 := by omega
      all_goals
        simp [fst]
        try omega
    have := hfp (spc c a) hS0 (spc_in h.ok a).1 (spc_in h.ok a).2.1
    omega
  unfold osz at hz
  clear h hs hw
  generalize x.top (spc c a) = T at *
  generalize spc c a = S at *
  generalize wat c ws (a + 1) = m1 at *
  generalize kdOf (wat c ws a) = K at *
  generalize ptOf (wat c ws a) = P at *
  generalize rwOf (wat c ws a) = R at *
  generalize agOf (wat c ws a) = A at *
  generalize stOf (wat c ws a) = U at *
  generalize hdOf (wat c ws a) = H at *
  generalize wat c ws a = m at *
  obtain ⟨p0, p1⟩ := hpt
  obtain ⟨r0, r1⟩ := hrw
  have hz' : (S == 0) = false := by simp [hS0]
  have ht' : decide (T ≤ a) = false := decide_eq_false (by omega)
  go_enter Tryz.func69, Tryz.ntmps69
  go_upto_region 1 with fail
  generalize (w.alloc (.cells (hcells 0 0 0 0 0 0 false) 46)) = w0 at *
  go_wp2_with fail
  refine (HS.out w0 hb).mono ?_
  rintro e w1 ⟨rfl, l1⟩
  have b1 := hb.trans (l1.mono hb.size)
  have hX1 := hX.keep l1 hxlt
  have hx1 := hX1.lt
  clear hb HS hX l1 hxlt
  go_wp2_with fail
  refine (HT.out w1 b1).mono ?_
  rintro e w2 ⟨rfl, l2⟩
  have b2 := b1.trans (l2.mono b1.size)
  have hX2 := hX1.keep l2 hx1
  have hx2 := hX2.lt
  clear l2 b1 hX1 hx1
  go_wp2_with fail
  refine (HW.out w2 b2).mono ?_
  rintro e w3 ⟨rfl, l3⟩
  have b3 := b2.trans (l3.mono b2.size)
  have hX3 := hX2.keep l3 hx2
  have hx3 := hX3.lt
  clear HW l3 b2 hX2 hx2
  go_wp2_with fail
  refine (HU.out w3).mono ?_
  rintro e w4 ⟨rfl, l4⟩
  have b4 := b3.trans (l4.mono b3.size)
  have hX4 := hX3.keep l4 hx3
  have hx4 := hX4.lt
  clear HU l4 b3 hX3 hx3
  go_upto_region 5 with fail
  have hX5 := hX4.keep (Below.alloc (Below.refl _ _) (Nat.le_refl _) (.cells (hcells 0 K P R A U H) 46)) hx4
  have hY5 := Box.new w4 46 (.int .u64 0) (.int .i64 K) (.int .i64 P) (.int .i64 R) (.int .i64 A) (.int .i64 U) (.bool H)
  have b5 := Below.alloc b4 b4.size (.cells (hcells 0 K P R A U H) 46)
  have hne : w.heap.size ≠ w4.heap.size := by omega
  have hBw : w.heap.size ≤ w4.heap.size := b4.size
  clear hX4 b4 hx4
  generalize (w4.alloc (.cells (hcells 0 K P R A U H) 46)) = w5 at *
  have hx5 := hX5.lt
  have hy5 := hY5.lt
  have hY5' := hY5
  obtain ⟨y0, y1, y2, y3, y4, y5, y6, -, -, -, -, -, -, -⟩ := hY5
  generalize w4.heap.size = B7 at *
  go_wp2_with fail
  clear y0 y1 y2 y3 y4 y5 y6
  refine (rsizeh_any 0 K P R A U H p0 p1 r0 r1 w5).mono ?_
  rintro e w6 ⟨rfl, hw6⟩
  have l6 : Below w5.heap.size w5 w6 := by rw [hw6]; exact Below.alloc (Below.refl _ _) (Nat.le_refl _) _
  clear hw6
  have b6 := b5.trans (l6.mono b5.size)
  have hX6 := hX5.keep l6 hx5
  have hY6 := hY5'.keep l6 hy5
  have hx6 := hX6.lt
  have hy6 := hY6.lt
  clear l6 b5 hX5 hY5' hx5 hy5
  go_wp2_with fail
  refine (HT.out w6 b6).mono ?_
  rintro e w7 ⟨rfl, l7⟩
  have b7 := b6.trans (l7.mono b6.size)
  have hX7 := hX6.keep l7 hx6
  have hY7 := hY6.keep l7 hy6
  have hx7 := hX7.lt
  have hy7 := hY7.lt
  clear l7 b6 hX6 hY6 hx6 hy6 HT
  have hgt : ¬ T < a + (2 + P + R) := by omega
  clear hz
  go_wp2_with fail
  refine (HW1.out w7 b7).mono ?_
  rintro e w8 ⟨rfl, l8⟩
  have b8 := b7.trans (l8.mono b7.size)
  have hX8 := hX7.keep l8 hx7
  have hY8 := hY7.keep l8 hy7
  have hne' : B7 ≠ w.heap.size := fun e => hne e.symm
  clear l8 b7 hX7 hY7 hx7 hy7 HW1
  obtain ⟨x0, x1, x2, x3, x4, x5, x6, f0, f1, f2, f3, f4, f5, f6⟩ := hX8
  obtain ⟨y0, y1, y2, y3, y4, y5, y6, e0, e1, e2, e3, e4, e5, e6⟩ := hY8
  go_wp2
  refine bodyPost_ret (by simp [results, Tryz.results69, go_sem, x0, x1, x2, x3, x4, x5, x6]; try rfl) rfl ?_
  refine ⟨rfl, ?_⟩
  go_grown
end

end Go.Proofs.YtpiemfchjlihfaaGreatDoor

/-
  The document's arena: words taken.
-/
set_option linter.unusedVariables false
set_option maxRecDepth 20000
namespace Go.Proofs.YtpiemfchjlihfaaGreatDoor
open Go.RowKit Go.Shelf

theorem zer_step (ws : Nat → Int) (p i : Nat) : upd (zer ws p i) (p + i) 0 = zer ws p (i + 1) := by
  funext j
  unfold upd zer
  by_cases e : j = p + i
  · rw [if_pos e, if_pos (by omega)]
  · rw [if_neg e]
    by_cases h : p ≤ j ∧ j < p + i
    · rw [if_pos h, if_pos (by omega)]
    · rw [if_neg h, if_neg (by omega)]

theorem zer_zero (ws : Nat → Int) (p : Nat) : zer ws p 0 = ws := by
  funext j
  unfold zer
  rw [if_neg (by omega)]

section
variable (b : Nat) (g : Nat → Nat) (c : Cfg) (x : Tps) (sw : Bool) (ws : Nat → Int)

set_option maxHeartbeats 2000000 in
theorem rtake_no (s n : Int) (hn : ¬ (1 ≤ n ∧ n ≤ bhd c s - x.top s)) (w : World) (h : Ra w b g c x sw ws) :
    Calls Tryz.prog 65 #[.pointer (some ⟨b, 0, none⟩), .int .i64 s, .int .i64 n] w fun e w' => e = .returned (.tuple #[.int .i64 0, .bool false]) ∧ Below w.heap.size w w' := by
  have hf := rfree_any b g c x sw ws s w h
  have hsp := rspace_any s w
  clear h
  by_cases hs : 1 ≤ s ∧ s ≤ 4
  · rw [decide_eq_true hs] at hsp
    clear hs
    generalize bhd c s - x.top s = f at *
    go_enter Tryz.func65, Tryz.ntmps65
    go_wp2_with fail
    refine hsp.mono ?_
    rintro e w1 ⟨rfl, rfl⟩
    clear hsp
    by_cases h1 : n < 1
    · clear hn hf
      go_wp2
      go_ret2
      exact ⟨rfl, Below.refl _ _⟩
    · have h2 : f < n := by omega
      have h1' : decide (n < 1) = false := decide_eq_false h1
      clear hn
      go_wp2_with fail
      refine hf.mono ?_
      rintro e w2 ⟨rfl, l2⟩
      clear hf
      go_wp2
      go_ret2
      exact ⟨rfl, l2⟩
  · rw [decide_eq_false hs] at hsp
    clear hs hf hn
    go_enter Tryz.func65, Tryz.ntmps65
    go_wp2_with fail
    refine hsp.mono ?_
    rintro e w1 ⟨rfl, rfl⟩
    clear hsp
    go_wp2
    go_ret2
    exact ⟨rfl, Below.refl _ _⟩

set_option maxHeartbeats 4000000 in
theorem rtake_yes (s p n : Nat) (s1 : 1 ≤ s) (s4 : s ≤ 4) (hp : x.top s = p) (h0 : 0 < n) (h1 : (p : Int) + n ≤ bhd c s) (w : World) (h : Ra w b g c x sw ws) :
    Calls Tryz.prog 65 #[.pointer (some ⟨b, 0, none⟩), .int .i64 s, .int .i64 n] w fun e w' => e = .returned (.tuple #[.int .i64 p, .bool true]) ∧ Ra w' b g c (x.put s (p + n)) sw (zer ws p n) ∧ Touch (rft b g) w w' := by
  have hf := rfree_any b g c x sw ws s w h
  have hsp := rspace_any (s : Int) w
  rw [decide_eq_true (show 1 ≤ (s : Int) ∧ (s : Int) ≤ 4 by omega)] at hsp
  have HT : Hid (∀ w1, Below w.heap.size w w1 → Calls Tryz.prog 37 #[.pointer (some ⟨b, 0, none⟩), .int .i64 s] w1 fun e w' => e = .returned (.int .i64 p) ∧ Below w1.heap.size w1 w') := fun w1 l => by
    have := rtop_any b g c x sw ws s w1 (h.below l)
    rw [hp] at this
    exact this
  have hsb := spn_bhd h.ok s s1 s4
  have hfi := fst_in h.ok (s : Int)
  have hft : fst c s ≤ p := by
    rw [← hp]
    obtain ⟨a1, a2, a3, a4, a5, a6, a7, a8⟩ := h.tk
    obtain rfl | rfl | rfl | rfl : s = 1 ∨ s = 2 ∨ s = 3 ∨ s = 4 := by omega
    all_goals
      simp only [fst, Tps.top]
      simp
      omega
  have hnf : (n : Int) ≤ bhd c s - x.top s := by omega
  obtain ⟨u, hu⟩ : ∃ u : Nat, x.top s - fst c s = u := ⟨(x.top s - fst c s).toNat, by omega⟩
  have HU : Hid (x.top s - fst c s = u) := hu
  have HP : Hid ((fst c s).toNat + u = p ∧ u + n ≤ spn c s ∧ (u : Int) + n = p + n - fst c s) := ⟨by omega, by omega, by omega⟩
  have HV : Hid (fst c s ≤ (p : Int) + n ∧ (p : Int) + n ≤ bhd c s) := ⟨by omega, h1⟩
  have hub : u < 65537 := by have := hsb.2.1; omega
  have hnb : n < 65537 := by have := hsb.2.1; omega
  have hsn := hsb.2.1
  have HR : Hid (Ra w b g c x sw ws) := h
  clear h hsb hfi hft hu h1 hp
  generalize bhd c s - x.top s = f at *
  have hs5 : (s : Int) < 5 := by omega
  go_enter Tryz.func65, Tryz.ntmps65
  go_wp2_with fail
  refine hsp.mono ?_
  rintro e w1 ⟨rfl, rfl⟩
  clear hsp
  go_wp2_with fail
  refine hf.mono ?_
  rintro e w1 ⟨rfl, l1⟩
  clear hf
  go_wp2_with fail
  refine (HT.out w1 l1).mono ?_
  rintro e w2 ⟨rfl, l2⟩
  have l3 := l1.trans (l2.mono l1.size)
  have hR2 : Hid (Ra w2 b g c x sw ws) := HR.out.below l3
  have T2 : Hid (Touch (rft b g) w w2) := Touch.of_below l3 _
  clear l1 l2 l3 HT HR hnf
  go_wp2
  go_loopw [9] (fun v wr => ∃ i : Nat, i ≤ n ∧ v = .int .i64 i ∧ Hid (Ra wr b g c x sw (zer ws p i) ∧ Touch (rft b g) w wr)) (fun v _ => n - (intOf v).toNat)
  case atStart => exact ⟨0, by omega, rfl, by rw [zer_zero]; exact ⟨hR2.out, T2.out⟩⟩
  case round =>
    obtain ⟨i, hi, rfl, HI⟩ := hrel
    clear hR2 T2
    by_cases hin : i < n
    · have hii : (i : Int) < n := by omega
      obtain ⟨d, hd⟩ : ∃ d : Nat, (u : Int) + i = d := ⟨u + i, by omega⟩
      have hdl : d < spn c s := by have := HP.out.2.1; omega
      have k1 := HI.out.1.wrd s s1 s4
      have k2 := HI.out.1.usd s s1 s4
      rw [HU.out] at k2
      have k3 := HI.out.1.wcell s d s1 s4 hdl
      have kz := (HI.out.1.row s s1 s4).frozen d
      have HX : Hid (Ra (wr.setCell ⟨g s, d, none⟩ (.int .u64 0)) b g c x sw (zer ws p (i + 1)) ∧ Touch (rft b g) w (wr.setCell ⟨g s, d, none⟩ (.int .u64 0))) := by
        refine ⟨?_, HI.out.2.trans (Touch.setCell _ _ _ (rft_g b g s s1 s4))⟩
        have := HI.out.1.set s d 0 s1 s4 hdl
        rw [show (fst c s).toNat + d = p + i by have := HP.out.1; omega, zer_step] at this
        exact this
      clear HI
      generalize zer ws p i ((fst c s).toNat + d) = m at *
      generalize spn c s = N at *
      have hdi : (d : Int) < N := by omega
      go_upto_region 7 with fail
      refine quiet_tail 15 mixed (by kernel_rfl) ?_
      simp only [List.take_succ_cons, List.take_zero, List.drop_succ_cons, List.drop_zero]
      repeat (go_big_quiet_step (fail))
      refine wpQuiet_nil ?_
      go_wp2
      go_roundw
      case rel => exact ⟨i + 1, by omega, by go_num, HX.out.1.keep (fun _ _ => rfl), ⟨HX.out.2.os, HX.out.2.tape, HX.out.2.output, HX.out.2.size, HX.out.2.block⟩⟩
      case measure => simp [intOf]; omega
    · obtain rfl : i = n := by omega
      have k2 := HI.out.1.usd s s1 s4
      rw [HU.out] at k2
      have kz := HI.out.1.own.frozen (19 + s)
      have HX : Hid (Ra (wr.setCell ⟨b, 19 + s, none⟩ (.int .i64 ((u : Int) + i))) b g c (x.put s (p + i)) sw (zer ws p i) ∧ Touch (rft b g) w (wr.setCell ⟨b, 19 + s, none⟩ (.int .i64 ((u : Int) + i)))) := by
        refine ⟨?_, HI.out.2.trans (Touch.setCell _ _ _ (by simp [rft]))⟩
        rw [HP.out.2.2]
        exact HI.out.1.put s _ s1 s4 HV.out.1 HV.out.2
      clear HI
      go_upto_region 8 with fail
      refine quiet_tail 13 mixed (by kernel_rfl) ?_
      simp only [List.take_succ_cons, List.take_zero, List.drop_succ_cons, List.drop_zero]
      repeat (go_big_quiet_step (fail))
      refine wpQuiet_nil ?_
      go_wp2
      go_ret2
      exact ⟨rfl, HX.out.1.keep (fun _ _ => rfl), ⟨HX.out.2.os, HX.out.2.tape, HX.out.2.output, HX.out.2.size, HX.out.2.block⟩⟩
end

end Go.Proofs.YtpiemfchjlihfaaGreatDoor

/-
  The document's arena: an object put, a filler laid.
-/
set_option linter.unusedVariables false
set_option maxRecDepth 20000
namespace Go.Proofs.YtpiemfchjlihfaaGreatDoor
open Go.RowKit Go.Shelf

theorem bhd_words {c : Cfg} (ok : c.Ok) (s : Int) : bhd c s ≤ c.words := by
  have := ok.e0; have := ok.s0; have := ok.t0
  unfold bhd Cfg.words
  repeat' split
  all_goals omega

theorem fst_one {c : Cfg} (ok : c.Ok) (s : Nat) (h1 : 1 ≤ s) (h4 : s ≤ 4) : 1 ≤ fst c s := by
  have := ok.e0; have := ok.s0
  obtain rfl | rfl | rfl | rfl : s = 1 ∨ s = 2 ∨ s = 3 ∨ s = 4 := by omega
  all_goals
    simp [fst]
    try omega

theorem Ra.top_in {w : World} {b : Nat} {g : Nat → Nat} {c : Cfg} {x : Tps} {sw : Bool} {ws : Nat → Int} (h : Ra w b g c x sw ws) (s : Nat) (h1 : 1 ≤ s) (h4 : s ≤ 4) : fst c s ≤ x.top s ∧ x.top s ≤ bhd c s := by
  have := h.ok.e1; have := h.ok.s1; have := h.ok.t1
  obtain ⟨a1, a2, a3, a4, a5, a6, a7, a8⟩ := h.tk
  obtain rfl | rfl | rfl | rfl : s = 1 ∨ s = 2 ∨ s = 3 ∨ s = 4 := by omega
  all_goals
    simp only [fst, bhd, Tps.top]
    simp
    omega

section
variable (b : Nat) (g : Nat → Nat) (c : Cfg) (x : Tps) (sw : Bool) (ws : Nat → Int)

set_option maxHeartbeats 1000000 in
theorem rput_bad (S s k p r a t : Int) (h : Bool) (hf : flt k p r a t ≠ 0) (w : World) :
    Calls Tryz.prog 18 #[.pointer (some ⟨b, 0, none⟩), .int .i64 S, hv s k p r a t h] w fun e w' => e = .returned (.tuple #[.int .i64 0, .bool false]) ∧ Below w.heap.size w w' := by
  have b0 : Below w.heap.size w (w.alloc (.cells (hcells s k p r a t h) 46)) := Below.alloc (Below.refl _ _) (Nat.le_refl _) _
  have hp := rpack_any s k p r a t h (w.alloc (.cells (hcells s k p r a t h) 46))
  generalize flt k p r a t = f at *
  generalize pck k p r a t h = m at *
  go_enter Tryz.func18, Tryz.ntmps18
  go_wp2_with fail
  refine hp.mono ?_
  rintro e w1 ⟨rfl, b1⟩
  have b2 := b0.trans (b1.mono b0.size)
  clear b0 b1 hp
  go_wp2
  go_ret2
  exact ⟨rfl, b2⟩

set_option maxHeartbeats 2000000 in
theorem rput_full (S s k p r a t : Int) (h : Bool) (hf : flt k p r a t = 0) (hn : ¬ 2 + p + r ≤ bhd c S - x.top S) (w : World) (hA : Ra w b g c x sw ws) :
    Calls Tryz.prog 18 #[.pointer (some ⟨b, 0, none⟩), .int .i64 S, hv s k p r a t h] w fun e w' => e = .returned (.tuple #[.int .i64 0, .bool false]) ∧ Below w.heap.size w w' := by
  have b0 : Below w.heap.size w (w.alloc (.cells (hcells s k p r a t h) 46)) := Below.alloc (Below.refl _ _) (Nat.le_refl _) _
  have hp := rpack_any s k p r a t h (w.alloc (.cells (hcells s k p r a t h) 46))
  have x0 := Box.new w 46 (.int .u64 s) (.int .i64 k) (.int .i64 p) (.int .i64 r) (.int .i64 a) (.int .i64 t) (.bool h)
  have m := May.of hf
  rw [hf, pck_ok hf] at hp
  generalize wrd k p r a t h = wd at hp
  have p0 := m.p0; have p1 := m.p1; have r0 := m.r0; have r1 := m.r1
  have Ht : Hid (∀ w1, Below w.heap.size w w1 → Calls Tryz.prog 65 #[.pointer (some ⟨b, 0, none⟩), .int .i64 S, .int .i64 (2 + p + r)] w1 fun e w' => e = .returned (.tuple #[.int .i64 0, .bool false]) ∧ Below w1.heap.size w1 w') := fun w1 l => rtake_no b g c x sw ws S _ (fun hh => hn hh.2) w1 (hA.below l)
  clear hA hf m hn
  go_enter Tryz.func18, Tryz.ntmps18
  go_wp2_with fail
  refine hp.mono ?_
  rintro e w1 ⟨rfl, b1⟩
  have b2 := b0.trans (b1.mono b0.size)
  have x1 := x0.keep b1 x0.lt
  clear b0 b1 hp x0
  obtain ⟨y0, y1, y2, y3, y4, y5, y6, -, -, -, -, -, -, -⟩ := x1
  go_wp2_with fail
  refine (rsizeh_any s k p r a t h p0 p1 r0 (by omega) _).mono ?_
  rintro e w2 ⟨rfl, hw2⟩
  have b3 : Below w.heap.size w w2 := by rw [hw2]; exact Below.alloc b2 b2.size _
  clear hw2 b2 y0 y1 y2 y3 y4 y5 y6
  go_wp2_with fail
  refine (Ht.out w2 b3).mono ?_
  rintro e w3 ⟨rfl, b4⟩
  have b5 := b3.trans (b4.mono b3.size)
  clear b3 b4 Ht
  go_wp2
  go_ret2
  exact ⟨rfl, b5⟩

set_option maxHeartbeats 2000000 in
theorem rput_yes (S : Nat) (S1 : 1 ≤ S) (S4 : S ≤ 4) (s k p r a t : Int) (h : Bool) (hf : flt k p r a t = 0) (q n : Nat) (hq : x.top S = q) (hn : (n : Int) = 2 + p + r) (hle : (q : Int) + n ≤ bhd c S) (w : World) (hA : Ra w b g c x sw ws) :
    Calls Tryz.prog 18 #[.pointer (some ⟨b, 0, none⟩), .int .i64 S, hv s k p r a t h] w fun e w' => e = .returned (.tuple #[.int .i64 q, .bool true]) ∧ Ra w' b g c (x.put S (q + n)) sw (putw ws q n (wrd k p r a t h) s) ∧ Touch (rft b g) w w' := by
  have b0 : Below w.heap.size w (w.alloc (.cells (hcells s k p r a t h) 46)) := Below.alloc (Below.refl _ _) (Nat.le_refl _) _
  have hp := rpack_any s k p r a t h (w.alloc (.cells (hcells s k p r a t h) 46))
  have x0 := Box.new w 46 (.int .u64 s) (.int .i64 k) (.int .i64 p) (.int .i64 r) (.int .i64 a) (.int .i64 t) (.bool h)
  have m := May.of hf
  rw [hf, pck_ok hf] at hp
  generalize wrd k p r a t h = wd at hp ⊢
  have p0 := m.p0; have p1 := m.p1; have r0 := m.r0; have r1 := m.r1
  have wo := bhd_words hA.ok S
  have fo := fst_one hA.ok S S1 S4
  have ti := hA.top_in S S1 S4
  have Ht : Hid (∀ w1, Below w.heap.size w w1 → Calls Tryz.prog 65 #[.pointer (some ⟨b, 0, none⟩), .int .i64 S, .int .i64 (2 + p + r)] w1 fun e w' => e = .returned (.tuple #[.int .i64 q, .bool true]) ∧ Ra w' b g c (x.put S (q + n)) sw (zer ws q n) ∧ Touch (rft b g) w1 w') := fun w1 l => by
    rw [← hn]
    exact rtake_yes b g c x sw ws S q n S1 S4 hq (by omega) hle w1 (hA.below l)
  have H1 : Hid (∀ w1, Ra w1 b g c (x.put S (q + n)) sw (zer ws q n) → Calls Tryz.prog 66 #[.pointer (some ⟨b, 0, none⟩), .int .i64 q, .int .u64 wd] w1 fun e w' => e = .returned (.bool true) ∧ Ra w' b g c (x.put S (q + n)) sw (upd (zer ws q n) q wd) ∧ Touch (rft b g) w1 w') := fun w1 hw => rsetWord_yes b g c _ sw _ q wd (by omega) (by omega) w1 hw
  have H2 : Hid (∀ w1, Ra w1 b g c (x.put S (q + n)) sw (upd (zer ws q n) q wd) → Calls Tryz.prog 66 #[.pointer (some ⟨b, 0, none⟩), .int .i64 ((q : Int) + 1), .int .u64 s] w1 fun e w' => e = .returned (.bool true) ∧ Ra w' b g c (x.put S (q + n)) sw (putw ws q n wd s) ∧ Touch (rft b g) w1 w') := fun w1 hw => by
    have := rsetWord_int b g c _ sw _ ((q : Int) + 1) s (by omega) (by omega) w1 hw
    rw [show ((q : Int) + 1).toNat = q + 1 by omega] at this
    exact this
  have hlt := hA.lt
  have HL : Hid (∀ z ∈ rft b g, z < w.heap.size) := hlt
  obtain ⟨Q, hQ⟩ : ∃ Q : Int, Q = q := ⟨_, rfl⟩
  have hqb : Q < 400000 := by have := spn_bhd hA.ok S S1 S4; have := fst_in hA.ok (S : Int); omega
  have hq0 : 0 ≤ Q := by omega
  rw [← hQ] at Ht H1 H2 ⊢
  clear hA hf m hn hle wo fo ti hlt hQ hq
  go_enter Tryz.func18, Tryz.ntmps18
  go_wp2_with fail
  refine hp.mono ?_
  rintro e w1 ⟨rfl, b1⟩
  have b2 := b0.trans (b1.mono b0.size)
  have x1 := x0.keep b1 x0.lt
  clear b0 b1 hp x0
  have x1' := x1
  obtain ⟨y0, y1, y2, y3, y4, y5, y6, -, -, -, -, -, -, -⟩ := x1
  go_wp2_with fail
  refine (rsizeh_any s k p r a t h p0 p1 r0 (by omega) _).mono ?_
  rintro e w2 ⟨rfl, hw2⟩
  have b3 : Below w.heap.size w w2 := by rw [hw2]; exact Below.alloc b2 b2.size _
  have x2 : w2.cell? ⟨w.heap.size, 0, none⟩ = some (.int .u64 s) := by
    rw [hw2]; exact (x1'.keep (Below.alloc (Below.refl _ _) (Nat.le_refl _) _) x1'.lt).h0
  have hwl : w.heap.size < w2.heap.size := World.block_lt_of_cell? _ _ x2
  clear hw2 b2 y0 y1 y2 y3 y4 y5 y6 x1'
  go_wp2_with fail
  refine (Ht.out w2 b3).mono ?_
  rintro e w3 ⟨rfl, hA3, t3⟩
  have hoff : w.heap.size ∉ rft b g := fun hh => Nat.lt_irrefl _ (HL.out _ hh)
  have x3 : w3.cell? ⟨w.heap.size, 0, none⟩ = some (.int .u64 s) := by
    rw [World.cell?_of_block (w := w2) (t3.block _ hwl hoff)]; exact x2
  have hwl3 : w.heap.size < w3.heap.size := World.block_lt_of_cell? _ _ x3
  have T4 : Hid (Touch (rft b g) w w3) := (Touch.of_below b3 _).trans t3
  clear t3 b3 x2 hwl Ht
  go_wp2_with fail
  refine (H1.out w3 hA3).mono ?_
  rintro e w4 ⟨rfl, hA4, t4⟩
  have x4 : w4.cell? ⟨w.heap.size, 0, none⟩ = some (.int .u64 s) := by
    rw [World.cell?_of_block (w := w3) (t4.block _ hwl3 hoff)]; exact x3
  have T5 : Hid (Touch (rft b g) w w4) := T4.out.trans t4
  clear t4 x3 hA3 T4 H1 hwl3
  go_wp2_with fail
  refine (H2.out w4 hA4).mono ?_
  rintro e w5 ⟨rfl, hA5, t5⟩
  have T6 : Hid (Touch (rft b g) w w5) := T5.out.trans t5
  have HA5 : Hid _ := hA5
  clear t5 x4 hA4 T5 H2 hA5 hoff
  go_wp2
  go_ret2
  exact ⟨rfl, HA5.out, T6.out⟩

set_option maxHeartbeats 1000000 in
theorem rfill_no (S n : Int) (hn : ¬ (1 ≤ n ∧ n ≤ bhd c S - x.top S)) (w : World) (h : Ra w b g c x sw ws) :
    Calls Tryz.prog 61 #[.pointer (some ⟨b, 0, none⟩), .int .i64 S, .int .i64 n] w fun e w' => e = .returned (.bool false) ∧ Below w.heap.size w w' := by
  have hf := rfiller_any n w
  have ht := rtake_no b g c x sw ws S n hn w h
  clear h hn
  by_cases hz : tg 3 n = 0
  · rw [hz] at hf
    clear hz ht
    go_enter Tryz.func61, Tryz.ntmps61
    go_wp2_with fail
    refine hf.mono ?_
    rintro e w1 ⟨rfl, rfl⟩
    clear hf
    go_wp2
    go_ret
    exact ⟨rfl, Below.refl _ _⟩
  · generalize tg 3 n = m at *
    go_enter Tryz.func61, Tryz.ntmps61
    go_wp2_with fail
    refine hf.mono ?_
    rintro e w1 ⟨rfl, rfl⟩
    clear hf
    go_wp2_with fail
    refine ht.mono ?_
    rintro e w2 ⟨rfl, l2⟩
    clear ht
    go_wp2
    go_ret
    exact ⟨rfl, l2⟩

set_option maxHeartbeats 1000000 in
theorem rfill_yes (S p n : Nat) (S1 : 1 ≤ S) (S4 : S ≤ 4) (hp : x.top S = p) (h0 : 0 < n) (h1 : (p : Int) + n ≤ bhd c S) (w : World) (h : Ra w b g c x sw ws) :
    Calls Tryz.prog 61 #[.pointer (some ⟨b, 0, none⟩), .int .i64 S, .int .i64 n] w fun e w' => e = .returned (.bool true) ∧ Ra w' b g c (x.put S (p + n)) sw (upd (zer ws p n) p ((n : Int) * 4 + 3)) ∧ Touch (rft b g) w w' := by
  have hf := rfiller_any (n : Int) w
  have ht := rtake_yes b g c x sw ws S p n S1 S4 hp h0 h1 w h
  have wo := bhd_words h.ok S
  have fo := fst_one h.ok S S1 S4
  have ti := h.top_in S S1 S4
  have hs := spn_bhd h.ok S S1 S4
  have fi := fst_in h.ok (S : Int)
  have hnn : (n : Int) ≤ 65536 := by omega
  have hg : tg 3 (n : Int) = (n : Int) * 4 + 3 := by unfold tg; rw [if_neg (by omega)]
  rw [hg] at hf
  have H1 : Hid (∀ w1, Ra w1 b g c (x.put S (p + n)) sw (zer ws p n) → Calls Tryz.prog 66 #[.pointer (some ⟨b, 0, none⟩), .int .i64 p, .int .u64 ((n : Int) * 4 + 3)] w1 fun e w' => e = .returned (.bool true) ∧ Ra w' b g c (x.put S (p + n)) sw (upd (zer ws p n) p ((n : Int) * 4 + 3)) ∧ Touch (rft b g) w1 w') := fun w1 hw => rsetWord_yes b g c _ sw _ p _ (by omega) (by omega) w1 hw
  have hmz : ¬ (n : Int) * 4 + 3 = 0 := by omega
  clear h wo fo ti hs fi hg h1 hp
  generalize (n : Int) * 4 + 3 = m at *
  go_enter Tryz.func61, Tryz.ntmps61
  go_wp2_with fail
  refine hf.mono ?_
  rintro e w1 ⟨rfl, rfl⟩
  clear hf
  go_wp2_with fail
  refine ht.mono ?_
  rintro e w2 ⟨rfl, hA2, t2⟩
  clear ht
  go_wp2_with fail
  refine (H1.out w2 hA2).mono ?_
  rintro e w3 ⟨rfl, hA3, t3⟩
  have T3 : Hid (Touch (rft b g) w1 w3) := t2.trans t3
  have HA3 : Hid _ := hA3
  clear t2 t3 hA2 hA3 H1
  go_wp2
  go_ret
  exact ⟨rfl, HA3.out, T3.out⟩
end

end Go.Proofs.YtpiemfchjlihfaaGreatDoor

