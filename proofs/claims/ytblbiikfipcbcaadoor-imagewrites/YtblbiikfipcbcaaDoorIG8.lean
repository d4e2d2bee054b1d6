/-
  Images: slices.Grow of nothing, slices.Concat.
-/
import Derived.Test.YtblbiikfipcbcaaDoorIG7
import Derived.Test.YtblbiikfipcbcaaDoorKG6a
import Derived.Test.YtblbiikfipcbcaaDoorR4
set_option linter.unusedVariables false
set_option maxRecDepth 20000
namespace Go.Proofs.YtblbiikfipcbcaaDoor
open Go.RowKit Go.Shelf

theorem row_cut0 {w : World} {base e n g cap : Nat} {xs : List Value} (h : w.ownsRow base e 1 (.slice (some ⟨g, 0, none⟩) n cap) n xs) : w.ownsRow base e 1 (.slice (some ⟨g, 0, none⟩) 0 cap) 0 [] := by
  rcases h.2 with ⟨h1, h2⟩ | ⟨g', cap', cur, h1, h2, h3, h4, h5, h6, h7⟩
  · cases h1
  · cases h1
    exact ⟨rfl, .inr ⟨g, cap, cur, rfl, h2, h3, Nat.zero_le _, h5, h6, by simp⟩⟩

set_option maxHeartbeats 4000000 in
/-- Grow of nothing. -/
theorem slGrow_nil (n : Nat) (hn : n ≤ 1000000000000) (w : World) :
    Calls Tryd.prog 111 #[.slice none 0 0, .int .i64 n] w fun e w' => ∃ v, e = .returned v ∧ Below w.heap.size w w' ∧ w'.ownsRow w.heap.size 3 1 v 0 [] := by
  obtain ⟨i0, hi0, hj0, hj1, hj2⟩ := info_parts Kg.Tryd.infoInt
  have hn0 : ¬ (n : Int) < 0 := by omega
  by_cases h0 : 0 < n
  · have h0i : (n : Int) > 0 := by omega
    obtain ⟨v', w', hr, ho, hg, hb⟩ := run_zeros_own w w.heap.size 26 3 26 3 i0 (.int .i64 0) 8 .i64 .i64 Tryd.underlying26 (by kernel_rfl) hi0 hj0 hj1 hj2 rfl rfl (.slice none 0 0) 0 [] (World.ownsRow_nil _ _ _ _) n h0 (by simp only [maxLen]; omega) (by omega) (Nat.le_refl _)
    have HB : Hid (Below w.heap.size w w') := ⟨hg.os, hg.tape, hg.output, hg.size, fun k hk => hg.block k hk (fun e => by cases e)⟩
    rw [Nat.zero_add] at ho
    obtain ⟨gb, cp, rfl⟩ := Kg.ownsRow_some ho h0
    have Ho : Hid (w'.ownsRow w.heap.size 3 1 (.slice (some ⟨gb, 0, none⟩) 0 cp) 0 []) := row_cut0 ho
    clear ho hb hg hi0 hj0 hj1 hj2
    go_enter Tryd.func111, Tryd.ntmps111
    go_wp2_with (at_builtin; refine Lib.wpList_append_run _ rfl _ _ _ _ rfl _ _ rfl rfl _ _ hr ?_)
    clear hr
    go_wp2
    go_ret
    exact ⟨_, rfl, HB.out, Ho.out⟩
  · have h0e : n = 0 := by omega
    subst h0e
    go_enter Tryd.func111, Tryd.ntmps111
    go_wp2
    go_ret
    exact ⟨_, rfl, Below.refl _ _, World.ownsRow_nil _ _ _ _⟩

/-- All of them, one behind the other. -/
def flat (fs : List (Value × List Int)) : List Int := (fs.map (·.2)).flatten

theorem flat_snoc {fs : List (Value × List Int)} {k : Nat} {x : Value × List Int} (h : fs[k]? = some x) : flat (fs.take (k + 1)) = flat (fs.take k) ++ x.2 := by
  rw [take_snocL h]
  simp [flat]

theorem flat_len (fs : List (Value × List Int)) : (flat fs).length = fsum (fs.map (·.2)) := by
  simp [flat, fsum, List.length_flatten]

theorem lrd_news {n0 : Nat} {w : World} {a : Option Addr} {cap n : Nat} {xs : List Int} (h : Lrd n0 w (.slice a n cap) .i64 xs) : ∀ (j : Nat) u, (Kg.ints xs)[j]? = some u → ∃ ad, a = some ad ∧ w.cell? (ad.add j) = some u := by
  obtain ⟨a', cap', e, h2, h3⟩ := h
  cases e
  intro j u hj
  simp only [Kg.ints, List.getElem?_map] at hj
  cases hx : xs[j]? with
  | none => rw [hx] at hj; cases hj
  | some z =>
    rw [hx] at hj
    cases hj
    obtain ⟨q, off, rfl, -, h6⟩ := h3 j z hx
    exact ⟨_, rfl, by rw [Addr.add_lit]; exact h6⟩

set_option maxHeartbeats 4000000 in
/-- slices.Concat. -/
theorem slConcat_any (n0 : Nat) (v : Value) (fs : List (Value × List Int)) (w : World) (hv : Frd n0 w v fs) (hn : n0 ≤ w.heap.size) (hl : fs.length ≤ 4611686018427387904) (hs : fsum (fs.map (·.2)) ≤ 1000000000000) :
    Calls Tryd.prog 103 #[v] w fun e w' => ∃ v', e = .returned v' ∧ Below w.heap.size w w' ∧ w'.ownsRow w.heap.size 3 1 v' (flat fs).length (Kg.ints (flat fs)) := by
  obtain ⟨i0, hi0, hj0, hj1, hj2⟩ := info_parts Kg.Tryd.infoInt
  have HI : Hid (Tryd.prog.info? 3 = some i0 ∧ i0.zero = some (.int .i64 0) ∧ i0.size = 1 ∧ i0.bytes = 8) := ⟨hi0, hj0, hj1, hj2⟩
  clear hi0 hj0 hj1 hj2
  have Hv : Hid (Frd n0 w v fs) := hv
  obtain ⟨a, cap, rfl, -⟩ := hv
  go_enter Tryd.func103, Tryd.ntmps103
  go_wp2
  go_loopw [3, 11] (fun v3 v11 wr => ∃ k : Nat, k ≤ fs.length ∧ v11 = .int .i64 k ∧ v3 = .int .i64 (fsum ((fs.map (·.2)).take k)) ∧ w = wr) (fun _ v11 _ => fs.length - (intOf v11).toNat)
  case atStart => exact ⟨0, Nat.zero_le _, rfl, rfl, rfl⟩
  case round =>
    obtain ⟨k, hk, rfl, rfl, rfl⟩ := hrel
    by_cases hkl : k < fs.length
    · have hki : (k : Int) < (fs.length : Int) := by omega
      have hz : fs[k]? = some (fs[k]'hkl) := List.getElem?_eq_getElem hkl
      generalize fs[k]'hkl = x at hz
      obtain ⟨a', cap', ea, hob⟩ := Hv.out
      cases ea
      obtain ⟨hp, q, off, rfl, hq, hc⟩ := hob k x hz
      obtain ⟨ap, cp, ep, -⟩ := hp
      rw [ep] at hc
      have e9 : fsum ((fs.map (·.2)).take (k + 1)) = fsum ((fs.map (·.2)).take k) + x.2.length := by
        rw [take_snocL (o := x.2) (by rw [List.getElem?_map, hz]; rfl), fsum_snoc]
      have hle := fsum_take (fs.map (·.2)) (k + 1)
      have hle2 : fsum ((fs.map (·.2)).take k) + x.2.length ≤ 1000000000000 := by omega
      have hwr : wrap64 ((fsum ((fs.map (·.2)).take k) : Int) + (x.2.length : Int)) = (fsum ((fs.map (·.2)).take k) : Int) + (x.2.length : Int) := by unfold wrap64; omega
      have hng : ¬ ((fsum ((fs.map (·.2)).take k) : Int) + (x.2.length : Int) < 0) := by omega
      have He : Hid (fsum ((fs.map (·.2)).take (k + 1)) = fsum ((fs.map (·.2)).take k) + x.2.length) := e9
      clear e9 hle hob hz ep
      go_wp2
      go_roundw
      case rel =>
        exact ⟨k + 1, by omega, by go_num, by rw [He.out, Int.natCast_add], trivial⟩
      case measure => simp [intOf]; omega
    · have hki : ¬ (k : Int) < (fs.length : Int) := by omega
      have e9 : fsum ((fs.map (·.2)).take k) = fsum (fs.map (·.2)) := by rw [List.take_of_length_le (by simp; omega)]
      rw [e9]
      have hgr := slGrow_nil (fsum (fs.map (·.2))) hs w
      go_wp2_with fail
      refine hgr.mono ?_
      rintro e w2 ⟨v2, rfl, b2, o2⟩
      obtain ⟨a2, c2, hv2⟩ := own_slI o2
      subst hv2
      have Hb2 : Hid (Below w.heap.size w w2) := b2
      have Ho2 : Hid (w2.ownsRow w.heap.size 3 1 (.slice a2 0 c2) 0 []) := o2
      clear hgr b2 o2 e9
      go_wp2
      go_loopw [6, 27] (fun v6 v27 wr => ∃ k : Nat, k ≤ fs.length ∧ v27 = .int .i64 k ∧ Hid (wr.ownsRow w.heap.size 3 1 v6 (flat (fs.take k)).length (Kg.ints (flat (fs.take k)))) ∧ Hid (Below w.heap.size w wr)) (fun _ v27 _ => fs.length - (intOf v27).toNat)
      case atStart => exact ⟨0, Nat.zero_le _, rfl, Ho2.out, Hb2⟩
      case round =>
        obtain ⟨k, hk, rfl, Hr, Hb⟩ := hrel
        obtain ⟨a3, c3, hv3⟩ := own_slI Hr.out
        subst hv3
        by_cases hkl : k < fs.length
        · have hki : (k : Int) < (fs.length : Int) := by omega
          have hz : fs[k]? = some (fs[k]'hkl) := List.getElem?_eq_getElem hkl
          generalize fs[k]'hkl = x at hz
          obtain ⟨a', cap', ea, hob⟩ := Hv.out.below (Hb.out.mono hn)
          cases ea
          obtain ⟨hp, q, off, rfl, hq, hc⟩ := hob k x hz
          have Hp : Hid (Lrd n0 wr x.1 .i64 x.2) := hp
          obtain ⟨ap, cp, ep, -⟩ := hp
          rw [ep] at hc Hp
          have Hnews := lrd_news Hp.out
          have He : Hid (flat (fs.take (k + 1)) = flat (fs.take k) ++ x.2) := flat_snoc hz
          have Hle : Hid ((flat (fs.take k)).length + x.2.length ≤ 1000000000000) := by
            have h1 := fsum_take (fs.map (·.2)) (k + 1)
            rw [← List.map_take, ← flat_len, He.out, List.length_append] at h1
            show _ ≤ _
            omega
          have HN : Hid (∀ (j : Nat) u, (Kg.ints x.2)[j]? = some u → ∃ ad, ap = some ad ∧ wr.cell? (ad.add j) = some u) := Hnews
          clear Hnews hob hz ep
          go_wp2_with (at_builtin; refine Kg.wpList_append_row rfl _ _ 26 rfl w.heap.size 3 i0 (.int .i64 0) 8 Tryd.underlying26 HI.out.1 HI.out.2.1 HI.out.2.2.1 HI.out.2.2.2 rfl _ _ _ rfl Hr.out ap x.2.length cp (Kg.ints x.2) (by simp [Kg.ints]) rfl HN.out (by simp [Kg.ints, Value.oneCell']) (by have := Hle.out; simp only [maxLen]; omega) (by have := Hle.out; omega) Hb.out.size ?_; intro v' w8 hown' hgrow _ hat _)
          go_roundw
          case rel =>
            refine ⟨k + 1, by omega, by go_num, ?_, ?_⟩
            · show w8.ownsRow _ _ _ _ _ _
              rw [He.out]
              simpa [Kg.ints] using hown'
            · have t8 : Kg.Touch (Value.slice a3 (flat (fs.take k)).length c3).ownBlock.toList wr w8 := Kg.Touch.grown hgrow (fun y hy => by rw [Option.mem_toList]; exact hy)
              exact Hb.out.trans (t8.below Hb.out.size (fun y hy => by rw [Option.mem_toList] at hy; exact (Hr.out.lt y hy).1))
          case measure => simp [intOf]; omega
        · have hki : ¬ (k : Int) < (fs.length : Int) := by omega
          have e9 : fs.take k = fs := List.take_of_length_le (by omega)
          rw [e9] at Hr
          go_wp2
          go_ret
          exact ⟨_, rfl, Hb.out, Hr.out⟩

end Go.Proofs.YtblbiikfipcbcaaDoor
