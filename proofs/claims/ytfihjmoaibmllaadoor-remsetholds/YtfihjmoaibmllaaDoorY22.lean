/-
  middenlaw6's among and sameInts; Places.
-/
import Derived.Test.YtfihjmoaibmllaaDoorY16
set_option linter.unusedVariables false
set_option maxRecDepth 20000
namespace Go.Proofs.YtfihjmoaibmllaaDoor
open Go.RowKit Go.Shelf

set_option maxHeartbeats 2000000 in
theorem among6_any (v : Value) (l : List Int) (x : Int) (n0 : Nat) (w : World) (h : Lrd n0 w v .i64 l) (hl : l.length ≤ 100000) :
    Calls Tryd.prog 22 #[v, .int .i64 x] w fun e w' => e = .returned (.bool (decide (x ∈ l))) ∧ w' = w := by
  obtain ⟨a, cap, rfl, -, hc⟩ := h
  have Hc : Hid (∀ (f : Nat) z, l[f]? = some z → ∃ q off, a = some ⟨q, off, none⟩ ∧ q < n0 ∧ w.cell? ⟨q, off + f, none⟩ = some (.int .i64 z)) := hc
  clear hc
  go_enter Tryd.func22, Tryd.ntmps22
  go_wp2
  go_loopw [5] (fun v5 wr => ∃ k : Nat, k ≤ l.length ∧ v5 = .int .i64 k ∧ Hid (∀ f z, f < k → l[f]? = some z → z ≠ x) ∧ w = wr) (fun v5 _ => l.length - (intOf v5).toNat)
  case atStart => exact ⟨0, Nat.zero_le _, rfl, (fun f z hf => by omega : ∀ f z, f < 0 → l[f]? = some z → z ≠ x), rfl⟩
  case round =>
    obtain ⟨k, hk, rfl, Hn, rfl⟩ := hrel
    by_cases hkl : k < l.length
    · have hz : l[k]? = some (l[k]'hkl) := List.getElem?_eq_getElem hkl
      generalize l[k]'hkl = z at hz
      have Hz : Hid (l[k]? = some z) := hz
      obtain ⟨q, off, rfl, -, ca⟩ := Hc.out k z hz
      have hkI : (k : Int) < (l.length : Int) := by omega
      clear hz
      by_cases e : z = x
      · subst e
        have HE : Hid (decide (z ∈ l) = true) := decide_eq_true (List.mem_of_getElem? Hz.out)
        clear Hz
        go_wp2
        go_ret
        exact ⟨by rw [HE.out]; rfl, rfl⟩
      · have e' : (z == x) = false := by simpa using e
        have Hn2 : Hid (∀ f y, f < k + 1 → l[f]? = some y → y ≠ x) := fun f y hf hy => by
          by_cases h : f = k
          · subst h
            rw [Hz.out] at hy
            simp at hy
            rw [← hy]
            exact e
          · exact Hn.out f y (by omega) hy
        clear Hz Hn
        go_wp2
        go_roundw
        case rel => exact ⟨k + 1, by omega, by go_num, Hn2, trivial⟩
        case measure => simp [intOf]; omega
    · have HE : Hid (decide (x ∈ l) = false) := decide_eq_false (fun hm => by
        obtain ⟨f, hf⟩ := List.getElem?_of_mem hm
        have := (List.getElem?_eq_some_iff.1 hf).1
        exact Hn.out f x (by omega) hf rfl)
      have hkn : ¬ (k : Int) < (l.length : Int) := by omega
      clear Hn
      go_wp2
      go_ret
      exact ⟨by rw [HE.out]; rfl, rfl⟩

set_option maxHeartbeats 2000000 in
/-- Of two lists that are the same. -/
theorem sameInts6_yes (u v : Value) (l : List Int) (n0 : Nat) (w : World) (h : Lrd n0 w u .i64 l) (h' : Lrd n0 w v .i64 l) (hn : n0 ≤ w.heap.size) (hl : l.length ≤ 100000) :
    Calls Tryd.prog 43 #[u, v] w fun e w' => e = .returned (.bool true) ∧ Below w.heap.size w w' := by
  obtain ⟨a, cap, rfl, -, hc⟩ := h
  obtain ⟨a', cap', rfl, -, hc'⟩ := h'
  have Hc : Hid (∀ (f : Nat) z, l[f]? = some z → ∃ q off, a = some ⟨q, off, none⟩ ∧ q < n0 ∧ w.cell? ⟨q, off + f, none⟩ = some (.int .i64 z)) := hc
  have Hc' : Hid (∀ (f : Nat) z, l[f]? = some z → ∃ q off, a' = some ⟨q, off, none⟩ ∧ q < n0 ∧ w.cell? ⟨q, off + f, none⟩ = some (.int .i64 z)) := hc'
  clear hc hc'
  go_enter Tryd.func43, Tryd.ntmps43
  go_wp2
  go_loopw [5] (fun v5 wr => ∃ k : Nat, k ≤ l.length ∧ v5 = .int .i64 k ∧ Below w.heap.size w wr) (fun v5 _ => l.length - (intOf v5).toNat)
  case atStart => exact ⟨0, Nat.zero_le _, rfl, Below.refl _ _⟩
  case round =>
    obtain ⟨k, hk, rfl, hbe⟩ := hrel
    by_cases hkl : k < l.length
    · have hz : l[k]? = some (l[k]'hkl) := List.getElem?_eq_getElem hkl
      generalize l[k]'hkl = z at hz
      obtain ⟨q, off, rfl, hq, ca⟩ := Hc.out k z hz
      obtain ⟨q', off', rfl, hq', ca'⟩ := Hc'.out k z hz
      have da : wr.cell? ⟨q, off + k, none⟩ = some (.int .i64 z) := (hbe.cell (p := ⟨q, off + k, none⟩) (by simp only; omega)).trans ca
      have da' : wr.cell? ⟨q', off' + k, none⟩ = some (.int .i64 z) := (hbe.cell (p := ⟨q', off' + k, none⟩) (by simp only; omega)).trans ca'
      have hkI : (k : Int) < (l.length : Int) := by omega
      clear hz ca ca'
      go_upto_region 6 with fail
      go_quiet (fail)
      have hb2 : Below w.heap.size w (wr.drewN nq) := below_drewN hbe nq
      clear da da'
      go_wp2
      go_roundw
      case rel => exact ⟨k + 1, by omega, by go_num, hb2⟩
      case measure => simp [intOf]; omega
    · have hkn : ¬ (k : Int) < (l.length : Int) := by omega
      go_wp2
      go_ret
      exact ⟨rfl, hbe⟩

set_option maxHeartbeats 2000000 in
theorem places_any {n1 : Nat} {w : World} {lb : Nat} {c : Cfg} {L : List LT} (h : Ly n1 w lb c L) (hn1 : n1 ≤ w.heap.size) (hlen : L.length ≤ 400) (v : Value) (l : List Int) (hv : Lrd w.heap.size w v .i64 l) (hin : ∀ a, a ∈ l → InI a) (hl : l.length ≤ 100000) :
    Calls Tryd.prog 44 #[.pointer (some ⟨lb, 0, none⟩), v] w fun e w' => ∃ v', e = .returned v' ∧ w'.ownsRow w.heap.size 3 1 v' (l.map (plc L)).length (ints (l.map (plc L))) ∧ Below w.heap.size w w' := by
  obtain ⟨a, cap, rfl, -, hc⟩ := hv
  obtain ⟨i0, hi0, hz0, hz1, hz2⟩ := info_parts Tryd.infoInt
  have HI : Hid (Tryd.prog.info? 3 = some i0 ∧ i0.zero = some (.int .i64 0) ∧ i0.size = 1 ∧ i0.bytes = 8) := ⟨hi0, hz0, hz1, hz2⟩
  have Hc : Hid (∀ (f : Nat) z, l[f]? = some z → ∃ q off, a = some ⟨q, off, none⟩ ∧ q < w.heap.size ∧ w.cell? ⟨q, off + f, none⟩ = some (.int .i64 z)) := hc
  have HLy : Hid (Ly n1 w lb c L) := h
  have Hin : Hid (∀ a, a ∈ l → InI a) := hin
  obtain ⟨pl, hpl⟩ : ∃ pl, pl = l.map (plc L) := ⟨_, rfl⟩
  rw [← hpl]
  have Hpl : Hid (pl = l.map (plc L)) := hpl
  clear hc h hi0 hz0 hz1 hz2 hin hpl
  go_enter Tryd.func44, Tryd.ntmps44
  go_wp2
  go_loopw [5, 6] (fun v5 v6 wr => ∃ k : Nat, k ≤ l.length ∧ v6 = .int .i64 k ∧ Hid (wr.ownsRow w.heap.size 3 1 v5 k (ints ((l.take k).map (plc L)))) ∧ Hid (Below w.heap.size w wr)) (fun _ v6 _ => l.length - (intOf v6).toNat)
  case atStart => exact ⟨0, Nat.zero_le _, rfl, World.ownsRow_nil _ _ _ _, Below.refl _ _⟩
  case round =>
    obtain ⟨k, hk, rfl, Hrow, Hbe⟩ := hrel
    by_cases hkl : k < l.length
    · have hz : l[k]? = some (l[k]'hkl) := List.getElem?_eq_getElem hkl
      generalize l[k]'hkl = z at hz
      have Htk : Hid (l.take (k + 1) = l.take k ++ [z]) := by show _ = _; rw [List.take_add_one, hz]; rfl
      obtain ⟨q, off, rfl, hq, ca⟩ := Hc.out k z hz
      have da : wr.cell? ⟨q, off + k, none⟩ = some (.int .i64 z) := (Hbe.out.cell (p := ⟨q, off + k, none⟩) hq).trans ca
      have hp := place_any (HLy.out.below (Hbe.out.mono hn1)) (Nat.le_trans hn1 Hbe.out.size) hlen z (Hin.out z (List.mem_of_getElem? hz))
      have hkI : (k : Int) < (l.length : Int) := by omega
      obtain ⟨a6, n6, c6, rfl⟩ := row_slice Hrow.out
      obtain ⟨pz, hpz⟩ : ∃ pz, pz = plc L z := ⟨_, rfl⟩
      rw [← hpz] at hp
      have Hpz : Hid (pz = plc L z) := hpz
      clear hz ca hpz
      go_wp2_with fail
      refine hp.mono ?_
      rintro e w2 ⟨rfl, l2⟩
      have Hrow2 : Hid (w2.ownsRow w.heap.size 3 1 (.slice a6 n6 c6) k (ints ((l.take k).map (plc L)))) := row_keep Hrow.out (fun y hy => l2.block y (row_lt Hrow.out y hy))
      have Hbe2 : Hid (Below w.heap.size w w2) := Hbe.out.trans (l2.mono Hbe.out.size)
      clear hp l2 da Hrow Hbe
      go_wp2_with (at_builtin; refine wpList_append_own_at _ rfl _ _ 42 rfl w.heap.size 3 i0 (.int .i64 0) 1 8 Tryd.underlying42 HI.out.1 HI.out.2.1 HI.out.2.2.1 HI.out.2.2.2 rfl (by decide) _ _ _ rfl (Hrow2.out.alloc _) ⟨w2.heap.size, 0, none⟩ 1 1 [.int .i64 pz] rfl rfl (cell_one_new _ _ _) (by simp [Value.oneCell']) (by simp [maxLen]; omega) (by omega) (by have := Hbe2.out.size; simp; omega) ?_; intro v' w3 hown' hgrow _ hat)
      have Hrow3 : Hid (w3.ownsRow w.heap.size 3 1 v' (k + 1) (ints ((l.take (k + 1)).map (plc L)))) := by
        show w3.ownsRow w.heap.size 3 1 v' (k + 1) (ints ((l.take (k + 1)).map (plc L)))
        rw [Htk.out]
        simpa [ints, Hpz.out] using hown'
      have Hbe3 : Hid (Below w.heap.size w w3) := (Hbe2.out.alloc Hbe2.out.size _).grown hgrow (by have := Hbe2.out.size; simp; omega) (fun y hy => by
        rcases Hrow2.out.2 with ⟨e1, -⟩ | ⟨g, cap, cur, e1, e2, -⟩
        · have hy' : (Value.slice a6 n6 c6).ownBlock = some y := hy
          rw [e1] at hy'
          simp [Value.ownBlock] at hy'
        · have hy' : (Value.slice a6 n6 c6).ownBlock = some y := hy
          rw [e1] at hy'
          simp [Value.ownBlock] at hy'
          omega)
      obtain ⟨a7, n7, c7, hv7⟩ := row_slice hown'
      subst hv7
      clear hown' hgrow hat Hrow2 Hbe2
      go_roundw
      case rel => exact ⟨k + 1, by omega, by go_num, Hrow3, Hbe3⟩
      case measure => simp [intOf]; omega
    · have hke : k = l.length := by omega
      have Hr : Hid (wr.ownsRow w.heap.size 3 1 u5 pl.length (ints pl)) := by
        have := Hrow.out
        rw [hke, List.take_length] at this
        show wr.ownsRow w.heap.size 3 1 u5 pl.length (ints pl)
        rw [Hpl.out, List.length_map]
        exact this
      have hkn : ¬ (k : Int) < (l.length : Int) := by omega
      clear Hrow
      go_wp2
      go_ret
      exact ⟨_, rfl, Hr.out, Hbe.out⟩

end Go.Proofs.YtfihjmoaibmllaaDoor
