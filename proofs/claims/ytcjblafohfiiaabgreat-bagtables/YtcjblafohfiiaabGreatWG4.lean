/-
  The document's table: Keys.
-/
import Derived.Test.YtcjblafohfiiaabGreatWG3
set_option linter.unusedVariables false
namespace Go.Proofs.YtcjblafohfiiaabGreat.Wd
open Go.RowKit Go.Shelf

theorem least_no {kr ks : List Int} {x : Int} {m i : Nat} {a : Option Nat} (h : Least ltI kr ks m i a) (hx : kr[i]? = some x) (hk : ∃ q, q < m ∧ ks[q]? = some x) : Least ltI kr ks m (i + 1) a := by
  cases a with
  | none =>
    intro j y hj hy
    rcases Nat.lt_or_ge j i with h1 | h1
    · exact h j y h1 hy
    · obtain rfl : j = i := by omega
      rw [hx] at hy; cases hy; exact hk
  | some a =>
    obtain ⟨h1, y, h2, h3, h4⟩ := h
    refine ⟨by omega, y, h2, h3, fun j z hj hz hkz => ?_⟩
    rcases Nat.lt_or_ge j i with h5 | h5
    · exact h4 j z h5 hz hkz
    · obtain rfl : j = i := by omega
      rw [hx] at hz; cases hz
      obtain ⟨q, hq, e⟩ := hk
      exact absurd e (hkz q hq)

theorem least_first {kr ks : List Int} {x : Int} {m i : Nat} (h : Least ltI kr ks m i none) (hx : kr[i]? = some x) (hk : ∀ q, q < m → ks[q]? ≠ some x) : Least ltI kr ks m (i + 1) (some i) := by
  refine ⟨by omega, x, hx, hk, fun j z hj hz hkz => ?_⟩
  rcases Nat.lt_or_ge j i with h5 | h5
  · obtain ⟨q, hq, e⟩ := h j z h5 hz
    exact absurd e (hkz q hq)
  · obtain rfl : j = i := by omega
    rw [hx] at hz; cases hz; exact sordI.irr _

theorem least_less {kr ks : List Int} {x y : Int} {m i a : Nat} (h : Least ltI kr ks m i (some a)) (hx : kr[i]? = some x) (hk : ∀ q, q < m → ks[q]? ≠ some x) (hy : kr[a]? = some y) (hxy : ltI x y = true) : Least ltI kr ks m (i + 1) (some i) := by
  obtain ⟨h1, y', h2, h3, h4⟩ := h
  rw [hy] at h2; cases h2
  refine ⟨by omega, x, hx, hk, fun j z hj hz hkz => ?_⟩
  rcases Nat.lt_or_ge j i with h5 | h5
  · have h6 := h4 j z h5 hz hkz
    cases h7 : ltI z x with
    | false => rfl
    | true => rw [sordI.trans _ _ _ h7 hxy] at h6; cases h6
  · obtain rfl : j = i := by omega
    rw [hx] at hz; cases hz; exact sordI.irr _

theorem least_more {kr ks : List Int} {x y : Int} {m i a : Nat} (h : Least ltI kr ks m i (some a)) (hx : kr[i]? = some x) (hy : kr[a]? = some y) (hxy : ltI x y = false) : Least ltI kr ks m (i + 1) (some a) := by
  obtain ⟨h1, y', h2, h3, h4⟩ := h
  rw [hy] at h2; cases h2
  refine ⟨by omega, y, hy, h3, fun j z hj hz hkz => ?_⟩
  rcases Nat.lt_or_ge j i with h5 | h5
  · exact h4 j z h5 hz hkz
  · obtain rfl : j = i := by omega
    rw [hx] at hz; cases hz; exact hxy

/-- A slice's length. -/
def slen (v : Value) : Nat := match v with | .slice _ n _ => n | _ => 0

/-- What the last key that has been told says of another. -/
theorem past_free {ks : List Int} (hs : Srt ltI ks) {m q : Nat} {x z : Int} (hz : ks[m]? = some z) (hq : ks[q]? = some x) :
    (ltI z x = true → ∀ p, p < m + 1 → ks[p]? ≠ some x) ∧ (ltI z x = false → ∃ p, p < m + 1 ∧ ks[p]? = some x) := by
  have hd := hs.dst sordI
  refine ⟨fun h p hp e => ?_, fun h => ?_⟩
  · rcases Nat.lt_or_ge p m with h1 | h1
    · have h2 := hs p m x z h1 e hz
      have := sordI.trans _ _ _ h h2
      rw [sordI.irr] at this; cases this
    · obtain rfl : p = m := by omega
      rw [hz] at e; cases e
      rw [sordI.irr] at h; cases h
  · refine ⟨q, ?_, hq⟩
    rcases Nat.lt_or_ge q (m + 1) with h1 | h1
    · exact h1
    · have := hs m q z x (by omega) hz hq
      rw [this] at h; cases h

set_option maxRecDepth 20000 in
set_option maxHeartbeats 8000000 in
theorem rkeys_any (b base : Nat) (ks : List Int) (vs : List Int) (kr : List Int) (vr : List Int) (F : List Nat) (w : World) (h : Rf w base b kr vr F) (hsm : Same ks vs kr vr) (hs : Srt ltI ks) (hlen : kr.length < 1000000) :
    Calls Tryz.prog 94 #[.pointer (some ⟨b, 0, none⟩)] w fun e w' => ∃ v, e = .returned v ∧ w'.ownsRow w.heap.size 3 1 v ks.length (ints ks) ∧ Touch [] w w' := by
  obtain ⟨vk, vv, hh, hb, hk, hv, hl, rfl⟩ := h
  have hbl := heap_lt hh
  have hc0 := heap_cell hh 0
  simp only [List.getElem?_toArray, List.getElem?_cons_zero] at hc0
  obtain ⟨a0, cap, rfl, hcell⟩ := row_sl hk
  have Hcell0 : Hid (∀ (wr : World), Touch [] w wr → ∀ (j : Nat) x, kr[j]? = some x → ∃ g, a0 = some ⟨g, 0, none⟩ ∧ wr.cell? ⟨g, j, none⟩ = some (.int .i64 x)) := fun wr ht j x hj => by
    obtain ⟨g, h1, h2, -⟩ := hcell j (.int .i64 x) (by simp [hj])
    exact ⟨g, h1, (World.cell?_of_block (w := w) (ht.block g (World.block_lt_of_cell? _ _ h2) (by simp))).trans h2⟩
  have Hc0 : Hid (∀ (wr : World), Touch [] w wr → wr.cell? ⟨b, 0, none⟩ = some (.slice a0 kr.length cap)) := fun wr ht => (World.cell?_of_block (w := w) (ht.block b hbl (by simp))).trans hc0
  have Hsm : Hid (Same ks vs kr vr) := hsm
  have Hlen : Hid (kr.length = ks.length) := hsm.len
  have hks : ks.length < 1000000 := by rw [← hsm.len]; exact hlen
  clear hcell hh hk hv hl hc0 hsm
  obtain ⟨i0, hi0, hz0, hz1, hz2⟩ := info_parts Tryz.infoInt
  go_enter Tryz.func94, Tryz.ntmps94
  go_wp2
  go_loopw [3] (fun l wr => ∃ m : Nat, m ≤ ks.length ∧ wr.ownsRow w.heap.size 3 1 l m (ints (ks.take m)) ∧ Touch [] w wr) (fun l _ => ks.length - slen l)
  case atStart => exact ⟨0, Nat.zero_le _, World.ownsRow_nil _ _ _ _, Touch.refl _ _⟩
  case round =>
    obtain ⟨m, hm, hrow, hT⟩ := hrel
    obtain ⟨la, lc, hlv, hlc⟩ := row_sl hrow
    have Hlc : Hid (∀ (j : Nat) x, (ints (ks.take m))[j]? = some x → ∃ g, la = some ⟨g, 0, none⟩ ∧ wr.cell? ⟨g, j, none⟩ = some x ∧ wr.frozen? ⟨g, j, none⟩ = false) := hlc
    subst hlv
    have Hrow : Hid (wr.ownsRow w.heap.size 3 1 (.slice la m lc) m (ints (ks.take m))) := hrow
    clear hrow hlc
    have c0 := Hc0.out wr hT
    have Hcell : Hid (∀ (j : Nat) x, kr[j]? = some x → ∃ g, a0 = some ⟨g, 0, none⟩ ∧ wr.cell? ⟨g, j, none⟩ = some (.int .i64 x)) := Hcell0.out wr hT
    have HT : Hid (Touch [] w wr) := hT
    clear hT
    by_cases hml : m < ks.length
    · have hmi : (m : Int) < (kr.length : Int) := by have := Hlen.out; omega
      have hpush : Hid (∀ (b' : Nat) (nq : Nat), b' < kr.length → kr[b']? = ks[m]? → ∃ x g, a0 = some ⟨g, 0, none⟩ ∧ (wr.drewN nq).cell? ⟨g, b', none⟩ = some (.int .i64 x) ∧ ks[m]? = some x) := fun b' nq h1 h2 => by
        obtain ⟨x, hx⟩ : ∃ x, kr[b']? = some x := ⟨_, List.getElem?_eq_getElem h1⟩
        obtain ⟨g, h3, h4⟩ := Hcell.out b' x hx
        exact ⟨x, g, h3, h4, by rw [← h2]; exact hx⟩
      go_wp2
      go_loopw [4, 5] (fun at_ i wr2 => ∃ (i' nq : Nat) (a : Option Nat), i' ≤ kr.length ∧ i = .int .i64 i' ∧ at_ = .int .i64 (enc a) ∧ Hid (Least ltI kr ks m i' a) ∧ wr2 = wr.drewN nq) (fun _ i _ => kr.length - (intOf i).toNat)
      case atStart => exact ⟨0, 0, none, Nat.zero_le _, rfl, rfl, fun j x hj => by omega, rfl⟩
      case round =>
        obtain ⟨i, nq, a, hi, rfl, rfl, hB, rfl⟩ := hrel
        by_cases hlt : i < kr.length
        · obtain ⟨x, hx⟩ : ∃ x, kr[i]? = some x := ⟨_, List.getElem?_eq_getElem hlt⟩
          obtain ⟨g, rfl, hcx⟩ := Hcell.out i x hx
          have hii : (i : Int) < (kr.length : Int) := by omega
          have Hx : Hid (kr[i]? = some x) := hx
          obtain ⟨q, hq⟩ := (Hsm.out.key x).1 ⟨i, hx⟩
          clear hx
          cases m with
          | zero =>
            clear hq hpush
            cases a with
            | none =>
              have HB' : Hid (Least ltI kr ks 0 (i + 1) (some i)) := least_first hB.out Hx.out (fun q hq => by omega)
              clear hB
              have he : enc none = -1 := rfl
              rw [he]
              go_wp2_with fail
              go_quiet (fail)
              go_wp2
              go_roundw
              case rel => exact ⟨i + 1, _, some i, hlt, by go_num, rfl, HB', rfl⟩
              case measure => simp [intOf]; omega
            | some a =>
              have hai : a < i := hB.out.1
              obtain ⟨y, hy⟩ : ∃ y, kr[a]? = some y := ⟨_, List.getElem?_eq_getElem (by omega)⟩
              obtain ⟨g2, e2, hcy⟩ := Hcell.out a y hy
              simp only [Option.some.injEq, Addr.mk.injEq, and_true] at e2
              subst e2
              have haz : decide ((a : Int) < 0) = false := decide_eq_false (by omega)
              have hal : (a : Int) < (kr.length : Int) := by omega
              have he : enc (some a) = (a : Int) := rfl
              rw [he]
              cases hxy : ltI x y with
              | true =>
                have hd2 := lssT hxy
                have HB' : Hid (Least ltI kr ks 0 (i + 1) (some i)) := least_less hB.out Hx.out (fun q hq => by omega) hy hxy
                clear hB hxy hy
                go_wp2_with fail
                go_quiet (fail)
                go_wp2
                go_roundw
                case rel => exact ⟨i + 1, _, some i, hlt, by go_num, rfl, HB', rfl⟩
                case measure => simp [intOf]; omega
              | false =>
                have hd2 := lssF hxy
                have HB' : Hid (Least ltI kr ks 0 (i + 1) (some a)) := least_more hB.out Hx.out hy hxy
                clear hB hxy hy
                go_wp2_with fail
                go_quiet (fail)
                go_wp2
                go_roundw
                case rel => exact ⟨i + 1, _, some a, hlt, by go_num, rfl, HB', rfl⟩
                case measure => simp [intOf]; omega
          | succ m =>
            obtain ⟨z, hz⟩ : ∃ z, ks[m]? = some z := ⟨_, List.getElem?_eq_getElem (by omega)⟩
            obtain ⟨gl, rfl, hcz, -⟩ := Hlc.out m (.int .i64 z) (by simp [hz])
            have hm0 : (((m : Int) + 1) == 0) = false := by simp; omega
            have hpf := past_free hs hz hq
            clear hq hz hpush
            cases hzx : ltI z x with
            | false =>
              have hdd := gtrF hzx
              have HB' : Hid (Least ltI kr ks (m + 1) (i + 1) a) := least_no hB.out Hx.out (hpf.2 hzx)
              clear hB hpf hzx
              go_wp2_with fail
              go_quiet (fail)
              go_wp2
              go_roundw
              case rel => exact ⟨i + 1, _, a, hlt, by go_num, rfl, HB', rfl⟩
              case measure => simp [intOf]; omega
            | true =>
              have hdd := gtrT hzx
              have hfree : Hid (∀ q, q < m + 1 → ks[q]? ≠ some x) := hpf.1 hzx
              clear hpf hzx
              cases a with
              | none =>
                have HB' : Hid (Least ltI kr ks (m + 1) (i + 1) (some i)) := least_first hB.out Hx.out hfree.out
                clear hB
                have he : enc none = -1 := rfl
                rw [he]
                go_wp2_with fail
                go_quiet (fail)
                go_wp2
                go_roundw
                case rel => exact ⟨i + 1, _, some i, hlt, by go_num, rfl, HB', rfl⟩
                case measure => simp [intOf]; omega
              | some a =>
                have hai : a < i := hB.out.1
                obtain ⟨y, hy⟩ : ∃ y, kr[a]? = some y := ⟨_, List.getElem?_eq_getElem (by omega)⟩
                obtain ⟨g2, e2, hcy⟩ := Hcell.out a y hy
                simp only [Option.some.injEq, Addr.mk.injEq, and_true] at e2
                subst e2
                have haz : decide ((a : Int) < 0) = false := decide_eq_false (by omega)
                have hal : (a : Int) < (kr.length : Int) := by omega
                have he : enc (some a) = (a : Int) := rfl
                rw [he]
                cases hxy : ltI x y with
                | true =>
                  have hd2 := lssT hxy
                  have HB' : Hid (Least ltI kr ks (m + 1) (i + 1) (some i)) := least_less hB.out Hx.out hfree.out hy hxy
                  clear hB hxy hy
                  go_wp2_with fail
                  go_quiet (fail)
                  go_wp2
                  go_roundw
                  case rel => exact ⟨i + 1, _, some i, hlt, by go_num, rfl, HB', rfl⟩
                  case measure => simp [intOf]; omega
                | false =>
                  have hd2 := lssF hxy
                  have HB' : Hid (Least ltI kr ks (m + 1) (i + 1) (some a)) := least_more hB.out Hx.out hy hxy
                  clear hB hxy hy
                  go_wp2_with fail
                  go_quiet (fail)
                  go_wp2
                  go_roundw
                  case rel => exact ⟨i + 1, _, some a, hlt, by go_num, rfl, HB', rfl⟩
                  case measure => simp [intOf]; omega
        · obtain rfl : i = kr.length := by omega
          obtain ⟨b', rfl, hb1, hb2⟩ := Least.next sordI Hsm.out hs hml hB.out
          obtain ⟨x, g, rfl, hcx, hxm⟩ := hpush.out b' nq hb1 hb2
          have hbi : (b' : Int) < (kr.length : Int) := by omega
          have he : enc (some b') = (b' : Int) := rfl
          rw [he]
          have hr2 : (wr.drewN nq).ownsRow w.heap.size 3 1 (.slice la m lc) m (ints (ks.take m)) := Hrow.out
          generalize hys : ints (ks.take m) = ys at hr2
          have Hy : Hid (ys ++ [.int .i64 x] = ints (ks.take (m + 1))) := by
            show _ = _
            rw [← hys, List.take_add_one, hxm]; simp
          have hwz : w.heap.size ≤ wr.heap.size := HT.out.size
          clear hys hxm hb2 hB
          go_wp2_with (at_builtin; refine wpList_append_own_at _ rfl _ _ 68 rfl w.heap.size 3 i0 (.int .i64 0) 1 8 Tryz.underlying68 hi0 hz0 hz1 hz2 rfl (by decide) _ _ _ rfl (hr2.alloc _) ⟨wr.heap.size, 0, none⟩ 1 1 [.int .i64 x] rfl rfl (cell_one_new _ _ _) (by simp [Value.oneCell']) (by simp [maxLen]; omega) (by omega) (by simp; omega) ?_)
          intro v' w1 hown' hgrow _ hat
          rw [Hy.out] at hown'
          have hT1 : Touch [] w w1 := HT.out.then ((Touch.drewN _ wr nq).trans ((Touch.alloc (Value.slice la m lc).ownBlock.toList (wr.drewN nq) (.cells #[.int .i64 x] 3)).trans (Touch.grown hgrow (fun j hj => by rw [hj]; simp)))) (fun j hj => .inr ((Hrow.out.lt j (by simpa using hj)).1))
          have Hown : Hid (w1.ownsRow w.heap.size 3 1 v' (m + 1) (ints (ks.take (m + 1)))) := hown'
          obtain ⟨g', cap', rfl⟩ := ownsRow_succ hown'
          clear hown' hgrow hat hr2
          go_wp2
          go_roundw
          case rel => exact ⟨m + 1, hml, Hown.out, hT1⟩
          case measure => simp [slen]; omega
    · obtain rfl : m = ks.length := by omega
      have hmi : ¬ (ks.length : Int) < (kr.length : Int) := by have := Hlen.out; omega
      have hrow := Hrow.out
      rw [List.take_length] at hrow
      go_wp2
      go_ret
      exact ⟨_, rfl, hrow, HT.out⟩

end Go.Proofs.YtcjblafohfiiaabGreat.Wd
