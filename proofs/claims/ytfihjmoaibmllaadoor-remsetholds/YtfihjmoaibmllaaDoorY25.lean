/-
  holds; the fields by numbers; fields().
-/
import Derived.Test.YtfihjmoaibmllaaDoorY24
set_option linter.unusedVariables false
set_option maxRecDepth 20000
namespace Go.Proofs.YtfihjmoaibmllaaDoor
open Go.RowKit Go.Shelf

theorem ynl_pos {L : List LT} {sw : Bool} {z : Int} (h : ynl L sw z = true) : 0 < z := by
  unfold ynl at h
  cases e : ob L z with
  | none => rw [e] at h; simp at h
  | some T => have := (ob_some.1 e).1; omega

set_option maxHeartbeats 4000000 in
theorem holds6_any {n1 : Nat} {w : World} {mm lb b sb g : Nat} {c : Cfg} {L : List LT} {x : Tps} {sw : Bool} {ws : Nat → Int} (hM : Mm w mm lb b sb) (h : Ly n1 w lb c L) (hn1 : n1 ≤ w.heap.size) (hlen : L.length ≤ 400) (hA : Ar w b g c x sw ws) (v : Value) (fs : List Int) (hv : Lrd w.heap.size w v .i64 fs) (hin : ∀ z, z ∈ fs → InI z) (hfl : fs.length ≤ 100000) :
    Calls Tryd.prog 14 #[.pointer (some ⟨mm, 0, none⟩), v] w fun e w' => e = .returned (.bool (fs.any (ynl L sw))) ∧ Below w.heap.size w w' := by
  obtain ⟨a, cap, rfl, -, hc⟩ := hv
  have Hc : Hid (∀ (f : Nat) z, fs[f]? = some z → ∃ q off, a = some ⟨q, off, none⟩ ∧ q < w.heap.size ∧ w.cell? ⟨q, off + f, none⟩ = some (.int .i64 z)) := hc
  have Hy : Hid (∀ wr, Below w.heap.size w wr → ∀ z, z ∈ fs → Calls Tryd.prog 21 #[.pointer (some ⟨mm, 0, none⟩), .int .i64 z] wr fun e w' => e = .returned (.bool (ynl L sw z)) ∧ Below wr.heap.size wr w') := fun wr l z hz => young6_any (hM.below l) (h.mono hn1 l) (Nat.le_trans hn1 l.size) hlen (hA.below l) z (hin z hz)
  clear hM h hA hc hin
  go_enter Tryd.func14, Tryd.ntmps14
  go_wp2
  go_loopw [5] (fun v5 wr => ∃ k : Nat, k ≤ fs.length ∧ v5 = .int .i64 k ∧ Hid (∀ f z, f < k → fs[f]? = some z → ynl L sw z = false) ∧ Hid (Below w.heap.size w wr)) (fun v5 _ => fs.length - (intOf v5).toNat)
  case atStart => exact ⟨0, Nat.zero_le _, rfl, (fun f z hf => by omega : ∀ f z, f < 0 → fs[f]? = some z → ynl L sw z = false), Below.refl _ _⟩
  case round =>
    obtain ⟨k, hk, rfl, Hn, Hbe⟩ := hrel
    by_cases hkl : k < fs.length
    · have hz : fs[k]? = some (fs[k]'hkl) := List.getElem?_eq_getElem hkl
      generalize fs[k]'hkl = z at hz
      have Hz : Hid (fs[k]? = some z) := hz
      obtain ⟨q, off, rfl, hq, ca⟩ := Hc.out k z hz
      have da : wr.cell? ⟨q, off + k, none⟩ = some (.int .i64 z) := (Hbe.out.cell (p := ⟨q, off + k, none⟩) hq).trans ca
      have hkI : (k : Int) < (fs.length : Int) := by omega
      have hyz := Hy.out wr Hbe.out z (List.mem_of_getElem? hz)
      have Hnx : Hid (ynl L sw z = false → ∀ f y, f < k + 1 → fs[f]? = some y → ynl L sw y = false) := fun h0 f y hf hy => by
        by_cases e : f = k
        · subst e
          rw [Hz.out] at hy
          simp at hy
          rw [← hy]
          exact h0
        · exact Hn.out f y (by omega) hy
      clear hz ca
      by_cases hp : 0 < z
      · cases hyl : ynl L sw z
        · rw [hyl] at hyz
          have Hnn : Hid (∀ f y, f < k + 1 → fs[f]? = some y → ynl L sw y = false) := Hnx.out hyl
          clear hyl Hnx Hn
          go_wp2_with fail
          refine hyz.mono ?_
          rintro e w3 ⟨rfl, l3⟩
          have Hbe3 : Hid (Below w.heap.size w w3) := Hbe.out.trans (l3.mono Hbe.out.size)
          clear hyz l3 Hbe da
          go_wp2
          go_roundw
          case rel => exact ⟨k + 1, by omega, by go_num, Hnn, Hbe3⟩
          case measure => simp [intOf]; omega
        · rw [hyl] at hyz
          have HE : Hid (fs.any (ynl L sw) = true) := List.any_eq_true.2 ⟨z, List.mem_of_getElem? Hz.out, hyl⟩
          clear hyl Hnx Hn
          go_wp2_with fail
          refine hyz.mono ?_
          rintro e w3 ⟨rfl, l3⟩
          have Hbe3 : Hid (Below w.heap.size w w3) := Hbe.out.trans (l3.mono Hbe.out.size)
          clear hyz l3 Hbe da
          go_wp2
          go_ret
          exact ⟨by rw [HE.out]; rfl, Hbe3.out⟩
      · have hyl : ynl L sw z = false := by
          cases e : ynl L sw z
          · rfl
          · exact absurd (ynl_pos e) hp
        have Hnn : Hid (∀ f y, f < k + 1 → fs[f]? = some y → ynl L sw y = false) := Hnx.out hyl
        have hp' : decide (0 < z) = false := decide_eq_false hp
        clear hyl Hnx Hn hyz
        go_wp2
        go_roundw
        case rel => exact ⟨k + 1, by omega, by go_num, Hnn, Hbe⟩
        case measure => simp [intOf]; omega
    · have HE : Hid (fs.any (ynl L sw) = false) := List.any_eq_false.2 (fun z hz => by
        obtain ⟨f, hf⟩ := List.getElem?_of_mem hz
        have := (List.getElem?_eq_some_iff.1 hf).1
        rw [Hn.out f z (by omega) hf]
        simp)
      have hkn : ¬ (k : Int) < (fs.length : Int) := by omega
      clear Hn
      go_wp2
      go_ret
      exact ⟨by rw [HE.out]; rfl, Hbe.out⟩

/-- The slice of a row of fields. -/
abbrev fval (p : Nat × List Int) : Value := .slice (some ⟨p.1, 0, none⟩) p.2.length p.2.length

/-- The fields by numbers, each thing's in a block of its own. -/
structure Fd (w : World) (n2 : Nat) (fv : Value) (Fr : List (Nat × List Int)) : Prop where
  row : w.ownsRow n2 42 1 fv Fr.length (Fr.map fval)
  rows : ∀ p, p ∈ Fr → w.heap[p.1]? = some (.cells (ints p.2).toArray 3 (0, 0)) ∧ n2 ≤ p.1
  dp : (Fr.map (·.1)).Nodup

theorem Fd.nil (w : World) (n2 : Nat) : Fd w n2 (.slice none 0 0) [] := ⟨World.ownsRow_nil _ _ _ _, fun p h => by simp at h, by simp⟩

theorem Fd.keep {w w' : World} {n2 : Nat} {fv : Value} {Fr : List (Nat × List Int)} (h : Fd w n2 fv Fr) (hr : ∀ q, fv.ownBlock = some q → w'.heap[q]? = w.heap[q]?) (hs : ∀ p, p ∈ Fr → w'.heap[p.1]? = w.heap[p.1]?) : Fd w' n2 fv Fr :=
  ⟨row_keep h.row hr, fun p hp => ⟨(hs p hp).trans (h.rows p hp).1, (h.rows p hp).2⟩, h.dp⟩

theorem Fd.below {w w' : World} {n2 : Nat} {fv : Value} {Fr : List (Nat × List Int)} (h : Fd w n2 fv Fr) (l : Below w.heap.size w w') : Fd w' n2 fv Fr :=
  h.keep (fun q hq => l.block q (row_lt h.row q hq)) (fun p hp => l.block _ (Array.getElem?_eq_some_iff.1 (h.rows p hp).1).1)

/-- What the Set's calls may write isn't of the fields. -/
theorem Fd.touch {w w' : World} {n2 : Nat} {fv : Value} {Fr : List (Nat × List Int)} (h : Fd w n2 fv Fr) {sb b g mb n : Nat} {lv : Value} {l : List Int} {S : Int → Bool} (hR : Rs w sb b lv l mb n S) {c : Cfg} {x : Tps} {sw : Bool} {ws : Nat → Int} (hA : Ar w b g c x sw ws) (t : Touch [sb, mb, b, g] w w') : Fd w' n2 fv Fr := by
  obtain ⟨⟨gs, hgs⟩, bs, hbs⟩ := hA.rowTy
  have key : ∀ q cs t, w.heap[q]? = some (.cells cs t (0, 0)) → t ≠ 82 → t ≠ 88 → t ≠ 46 → q ∉ [sb, mb, b, g] := fun q cs t hq h1 h2 h3 => by
    simp only [List.mem_cons, List.not_mem_nil, or_false, not_or]
    exact ⟨heap_ty_ne hq hR.own h1, fun e => hR.map.ne hq e, heap_ty_ne hq hbs h2, heap_ty_ne hq hgs h3⟩
  refine h.keep (fun q hq => ?_) (fun p hp => ?_)
  · refine t.block q (row_lt h.row q hq) ?_
    rcases h.row.2 with ⟨e, _⟩ | ⟨y, cp, cur, e, _, hy, _⟩
    · rw [e] at hq; simp [Value.ownBlock] at hq
    · rw [e] at hq
      simp [Value.ownBlock] at hq
      subst hq
      exact key _ _ _ hy (by decide) (by decide) (by decide)
  · exact t.block _ (Array.getElem?_eq_some_iff.1 (h.rows p hp).1).1 (key _ _ _ (h.rows p hp).1 (by decide) (by decide) (by decide))

theorem Fd.lrd {w : World} {n2 : Nat} {fv : Value} {Fr : List (Nat × List Int)} (h : Fd w n2 fv Fr) {p : Nat × List Int} (hp : p ∈ Fr) : Lrd w.heap.size w (fval p) .i64 p.2 :=
  ⟨_, _, rfl, Nat.le_refl _, fun f z hz => ⟨p.1, 0, rfl, (Array.getElem?_eq_some_iff.1 (h.rows p hp).1).1, by
    rw [Nat.zero_add, cell_of_row _ _ f _ _ _ (h.rows p hp).1]
    simp [ints, hz]⟩⟩

theorem Fd.at_ {w : World} {n2 : Nat} {fv : Value} {Fr : List (Nat × List Int)} (h : Fd w n2 fv Fr) {i : Nat} {p : Nat × List Int} (hp : Fr[i]? = some p) : ∃ q cap, fv = .slice (some ⟨q, 0, none⟩) Fr.length cap ∧ q < w.heap.size ∧ w.cell? ⟨q, i, none⟩ = some (fval p) := by
  obtain ⟨a, cap, h1, -, h3⟩ := row_at ⟨h.row.1, by
    rcases h.row.2 with hh | ⟨g, cap, cur, e1, -, e2⟩
    · exact .inl hh
    · exact .inr ⟨g, cap, cur, e1, Nat.zero_le _, e2⟩⟩ (by decide)
  obtain ⟨q, h4, h5, h6⟩ := h3 i (fval p) (by rw [List.getElem?_map, hp]; rfl)
  subst h4
  exact ⟨q, cap, h1, h5, h6⟩

end Go.Proofs.YtfihjmoaibmllaaDoor
