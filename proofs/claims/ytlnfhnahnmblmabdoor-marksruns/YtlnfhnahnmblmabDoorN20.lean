/-
  play: a script played.
-/
import Derived.Test.YtlnfhnahnmblmabDoorN19
set_option linter.unusedVariables false
set_option maxRecDepth 100000
namespace Go.Proofs.YtlnfhnahnmblmabDoor
open Go.RowKit Go.Shelf

/-- One call of a script. -/
structure Op4 where
  k : Int
  A : Int
  B : Int
  C : Int

/-- A script that came in, in blocks below n0. -/
def LOps4 (n0 : Nat) (w : World) (a : Option Addr) (ops : List Op4) : Prop := ∀ (i : Nat) (o : Op4), ops[i]? = some o → o.A ≤ 9223372036854775807 ∧ ∃ g off, a = some ⟨g, off, none⟩ ∧ g < n0 ∧
  w.cell? ⟨g, off + i * 4, none⟩ = some (.int .i64 o.k) ∧ w.cell? ⟨g, off + i * 4 + 1, none⟩ = some (.int .i64 o.A) ∧ w.cell? ⟨g, off + i * 4 + 2, none⟩ = some (.int .i64 o.B) ∧ w.cell? ⟨g, off + i * 4 + 3, none⟩ = some (.int .i64 o.C)

theorem LOps4.below {n0 : Nat} {w w' : World} {a : Option Addr} {ops : List Op4} (h : LOps4 n0 w a ops) (hb : Below n0 w w') : LOps4 n0 w' a ops := fun i o ho => by
  obtain ⟨hA, g, off, e, hg, c0, c1, c2, c3⟩ := h i o ho
  exact ⟨hA, g, off, e, hg, (hb.cell (p := ⟨g, off + i * 4, none⟩) hg).trans c0, (hb.cell (p := ⟨g, off + i * 4 + 1, none⟩) hg).trans c1, (hb.cell (p := ⟨g, off + i * 4 + 2, none⟩) hg).trans c2, (hb.cell (p := ⟨g, off + i * 4 + 3, none⟩) hg).trans c3⟩

theorem DK.be {W0 w : World} {d b r n : Nat} (x : DK W0 w d b r n) : Below W0.heap.size W0 w := by
  obtain ⟨_, _, _, _, _, _, x, _⟩ := x
  exact x.be

theorem DK.new {W0 w : World} {d b g r h n : Nat} (hd : w.rowIs d 47 4 (df b r (.slice none 0 0) (.slice none 0 0))) (hm : Mp w b g n (fun _ => false)) (hr : Rm w r h n (fun _ => false)) (l : Below W0.heap.size W0 w) (h1 : W0.heap.size ≤ b) (h2 : W0.heap.size ≤ g) (h3 : b < r) (h4 : b < h) (h5 : g < r) (h6 : g < h) (h7 : r < d) (h8 : h < d) : DK W0 w d b r n := by
  have h9 := hm.ne
  have h10 := hr.ne
  refine ⟨g, h, _, _, _, [], ⟨hd, hm, hr, World.ownsRow_nil _ _ _ _, World.ownsRow_nil _ _ _ _, fun x hx => by simp at hx, ?_, ?_, l⟩, by simp⟩
  · simp [dfp, Value.ownBlock]; omega
  · simp [dfp, Value.ownBlock]; omega

set_option maxHeartbeats 4000000 in
theorem play_desk (n : Nat) (hn : n ≤ 8192) (a : Option Addr) (cap : Nat) (ops : List Op4) (low high : Int) (w : World) (hL : Laid w) (ho : LOps4 w.heap.size w a ops) :
    Calls Tryd.prog 6 #[.int .i64 n, .slice a ops.length cap, .int .i64 low, .int .i64 high] w fun e w' => e = .returned (.bool true) ∧ Below w.heap.size w w' := by
  have hb := begin_in n hn w hL
  have HL : Hid (Laid w) := hL
  have HO : Hid (LOps4 w.heap.size w a ops) := ho
  clear hL ho
  go_enter Tryd.func6, Tryd.ntmps6
  go_wp2_with fail
  refine hb.mono ?_
  rintro e w1 ⟨d, b, g, r, h, rfl, hd, hm, hr, hl, h1, h2, h3, h4, h5, h6, h7, h8⟩
  have HD : Hid (DK w w1 d b r n) := DK.new hd hm hr hl h1 h2 h3 h4 h5 h6 h7 h8
  clear hb hd hm hr hl h1 h2 h3 h4 h5 h6 h7 h8
  go_wp2
  go_loopw [11] (fun v wr => ∃ (k : Nat), v = .int .i64 k ∧ k ≤ ops.length ∧ k ≤ 300 ∧ Hid (DK w wr d b r n)) (fun v _ => 300 - (intOf v).toNat)
  case atStart => exact ⟨0, rfl, Nat.zero_le _, by omega, HD⟩
  case round =>
    obtain ⟨k, rfl, hk, hk3, hd⟩ := hrel
    clear HD
    by_cases hlt : k < ops.length
    · have hki : (k : Int) < ops.length := by omega
      by_cases h3 : k < 300
      · have h3i : (k : Int) < 300 := by omega
        obtain ⟨o, ho⟩ : ∃ o, ops[k]? = some o := ⟨_, List.getElem?_eq_getElem hlt⟩
        obtain ⟨hA, g0, off, rfl, hg, c0, c1, c2, c3⟩ := (HO.out.below hd.out.be) k o ho
        obtain ⟨kd, A, B, C⟩ := o
        simp only at c0 c1 c2 c3 hA
        have hc := plays_any w d b r n kd A B C hA wr hd.out HL.out
        clear ho hA hd
        generalize ops.length = ll at *
        go_wp2_with fail
        refine hc.mono ?_
        rintro e w2 ⟨rfl, h2⟩
        have H2 : Hid (DK w w2 d b r n) := h2
        clear hc h2 c0 c1 c2 c3
        go_wp2
        go_roundw
        case rel => exact ⟨k + 1, by go_num, by omega, by omega, H2⟩
        case measure => simp [intOf]; omega
      · have h3' : decide ((k : Int) < 300) = false := decide_eq_false (by omega)
        have HF : Hid (Below w.heap.size w wr) := hd.out.be
        clear hd h3
        go_wp2
        go_ret
        exact ⟨rfl, HF.out⟩
    · obtain rfl : k = ops.length := by omega
      have HF : Hid (Below w.heap.size w wr) := hd.out.be
      clear hd hlt
      go_wp2
      go_ret
      exact ⟨rfl, HF.out⟩

set_option maxHeartbeats 4000000 in
theorem play_none (n : Int) (hn : n < 0 ∨ 8192 < n) (a : Option Addr) (cap len : Nat) (low high : Int) (w : World) (hL : Laid w) :
    Calls Tryd.prog 6 #[.int .i64 n, .slice a len cap, .int .i64 low, .int .i64 high] w fun e w' => e = .returned (.bool true) ∧ Below w.heap.size w w' := by
  have hb : Calls Tryd.prog 7 #[.int .i64 n] w fun r w' => r = .returned (.tuple #[.pointer none, .bool true]) ∧ Below w.heap.size w w' := by
    by_cases h : n < 0 ∨ 1048576 < n
    · exact begin_no n h w
    · obtain ⟨m, rfl⟩ : ∃ m : Nat, n = ((m + 1 : Nat) : Int) := ⟨(n - 1).toNat, by omega⟩
      exact begin_great (m + 1) m (by omega) (by omega) rfl w hL
  clear hL hn
  go_enter Tryd.func6, Tryd.ntmps6
  go_wp2_with fail
  refine hb.mono ?_
  rintro e w1 ⟨rfl, hl⟩
  have HF : Hid (Below w.heap.size w w1) := hl
  clear hb hl
  go_wp2
  go_ret
  exact ⟨rfl, HF.out⟩

theorem play_any (n : Int) (a : Option Addr) (cap : Nat) (ops : List Op4) (low high : Int) (w : World) (hL : Laid w) (ho : LOps4 w.heap.size w a ops) :
    Calls Tryd.prog 6 #[.int .i64 n, .slice a ops.length cap, .int .i64 low, .int .i64 high] w fun e w' => e = .returned (.bool true) ∧ Below w.heap.size w w' := by
  by_cases hn : n < 0 ∨ 8192 < n
  · exact play_none n hn a cap ops.length low high w hL
  · obtain ⟨m, rfl⟩ : ∃ m : Nat, n = m := ⟨n.toNat, by omega⟩
    exact play_desk m (by omega) a cap ops low high w hL ho
end Go.Proofs.YtlnfhnahnmblmabDoor
