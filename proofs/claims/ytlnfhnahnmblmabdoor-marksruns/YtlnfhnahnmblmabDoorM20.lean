/-
  The runs, told to a function.
-/
import Derived.Test.YtlnfhnahnmblmabDoorM18
set_option linter.unusedVariables false
set_option maxRecDepth 100000
namespace Go.Proofs.YtlnfhnahnmblmabDoor
open Go.RowKit Go.Shelf

/-- The new footprint: the old one's blocks, or newer ones. -/
def Newer (n : Nat) (F F' : List Nat) : Prop := ∀ k, k ∈ F' → k ∈ F ∨ n ≤ k

theorem Newer.refl (n : Nat) (F : List Nat) : Newer n F F := fun _ h => .inl h
theorem Newer.not {n : Nat} {F F' : List Nat} (h : Newer n F F') {q : Nat} (hq : q < n) (hn : q ∉ F) : q ∉ F' := fun hm => by
  rcases h q hm with h1 | h1
  · exact hn h1
  · omega
theorem Newer.trans {n m : Nat} {F G H : List Nat} (h : Newer n F G) (k : Newer m G H) (hl : n ≤ m) : Newer n F H := fun q hq => by
  rcases k q hq with h1 | h1
  · exact h q h1
  · exact .inr (by omega)

theorem Touch.newer {F G : List Nat} {a b c : World} (h : Touch F a b) (k : Touch G b c) (hn : Newer a.heap.size F G) : Touch F a c := h.then k (fun x hx => hn x hx)

/-- The bits as they stood, in a block that the one who is told leaves alone. -/
structure Ckd (W : World) (p : Option Addr) (L : Nat) (M : Nat → Bool) (F : List Nat) : Prop where
  cells : ∀ i, i < L → ∃ g', g' ∉ F ∧ p = some ⟨g', 0, none⟩ ∧ W.cell? ⟨g', i, none⟩ = some (.int .u64 (wd M i : Nat))

theorem Ckd.next {W W' : World} {p : Option Addr} {L : Nat} {M : Nat → Bool} {F F' : List Nat} (h : Ckd W p L M F) (t : Touch F W W') (hn : Newer W.heap.size F F') : Ckd W' p L M F' :=
  ⟨fun i hi => by
    obtain ⟨g', h1, h2, h3⟩ := h.cells i hi
    exact ⟨g', hn.not (World.block_lt_of_cell? _ _ h3) h1, h2, t.cell h3 h1⟩⟩

theorem Ckd.below {W W' : World} {p : Option Addr} {L : Nat} {M : Nat → Bool} {F : List Nat} (h : Ckd W p L M F) (l : Below W.heap.size W W') : Ckd W' p L M F := h.next (Touch.of_below l F) (Newer.refl _ _)

theorem Ckd.hc {W : World} {p : Option Addr} {L : Nat} {M : Nat → Bool} {F : List Nat} (h : Ckd W p L M F) {e : Nat} (he : wds e ≤ L) : ∀ i, 64 * i < e → i < L ∧ ∃ g, p = some ⟨g, 0, none⟩ ∧ W.cell? ⟨g, i, none⟩ = some (.int .u64 (wd M i : Nat)) := by
  intro i hi
  have hl : i < L := by unfold wds at he; omega
  obtain ⟨g', -, h2, h3⟩ := h.cells i hl
  exact ⟨hl, g', h2, h3⟩

set_option maxHeartbeats 8000000 in
theorem runs_call (b g n f e a0 cm cf cb : Nat) (M : Nat → Bool) (l : List (Nat × Nat)) (hfe : f ≤ e) (hen : e ≤ n) (hs0 : Sk M false f e a0) (hat : At M e a0 l) (W : World) (hM : Mp W b g n M) (hL : Laid W)
    (hcm : W.cell? ⟨cm, 0, none⟩ = some (.pointer (some ⟨b, 0, none⟩))) (hcf : W.cell? ⟨cf, 0, none⟩ = some (.int .i64 f)) (hcb : W.cell? ⟨cb, 0, none⟩ = some (.int .i64 e))
    (k : Nat) (cap : Array Value) (J : List Nat → List (Nat × Nat) → World → Prop) (Jx : List (Nat × Nat) → World → Prop)
    (ek : ∀ args w, (callFunc k args).run Tryd.prog w = .ok (.enter k args) w)
    (hlt : ∀ F pre W, J F pre W → ∀ q, q ∈ F → q < W.heap.size) (hbe : ∀ F pre W W', J F pre W → Below W.heap.size W W' → J F pre W')
    (hcl : ∀ F pre x W, J F pre W → pre ++ [x] <+: l → Calls Tryd.prog k (#[.int .i64 (x.1 : Nat), .int .i64 ((x.2 : Int) - x.1)] ++ cap) W fun r W' => Touch F W W' ∧ ((r = .returned (.bool true) ∧ ∃ F', Newer W.heap.size F F' ∧ J F' (pre ++ [x]) W') ∨ (r = .returned (.bool false) ∧ Jx (pre ++ [x]) W')))
    (F0 : List Nat) (hO : cb ∉ F0 ∧ 0 ∉ F0 ∧ 1 ∉ F0) (hJ0 : J F0 [] W) :
    Calls Tryd.prog 47 #[.func (.func k) #[] cap, .pointer (some ⟨cm, 0, none⟩), .pointer (some ⟨cf, 0, none⟩), .pointer (some ⟨cb, 0, none⟩)] W fun r W' => r = .returned (.tuple #[]) ∧ Touch F0 W W' ∧ ((∃ F', Newer W.heap.size F0 F' ∧ J F' l W') ∨ ∃ pre, pre <+: l ∧ pre ≠ [] ∧ Jx pre W') := by
  have hn := hM.le
  have k4 := hM.c1
  have hclo := clone_any g (wds n) (wd M) (by unfold wds; omega) W hM.row
  have HL : Hid (Laid W) := hL
  have HA : Hid (At M e a0 l ∧ Sk M false f e a0) := ⟨hat, hs0⟩
  have HCL : Hid (∀ F pre x W, J F pre W → pre ++ [x] <+: l → Calls Tryd.prog k (#[.int .i64 (x.1 : Nat), .int .i64 ((x.2 : Int) - x.1)] ++ cap) W fun r W' => Touch F W W' ∧ ((r = .returned (.bool true) ∧ ∃ F', Newer W.heap.size F F' ∧ J F' (pre ++ [x]) W') ∨ (r = .returned (.bool false) ∧ Jx (pre ++ [x]) W'))) := hcl
  have HLT : Hid (∀ F pre W, J F pre W → ∀ q, q ∈ F → q < W.heap.size) := hlt
  have HBE : Hid (∀ F pre W W', J F pre W → Below W.heap.size W W' → J F pre W') := hbe
  have HJ0 : Hid (J F0 [] W) := hJ0
  have hcbl := World.block_lt_of_cell? _ _ hcb
  have hcfl := World.block_lt_of_cell? _ _ hcf
  simp only at hcbl hcfl
  obtain ⟨hO1, hO2, hO3⟩ := hO
  clear hM hL hat hs0 hcl hlt hbe hJ0
  go_enter Tryd.func47, Tryd.ntmps47
  go_wp2_with fail
  refine hclo.mono ?_
  rintro r w1 ⟨p, C, rfl, b1, hk1⟩
  have kp : Ckd w1 p (wds n) M F0 := ⟨fun i hi => by
    obtain ⟨g', h1, h2, h3⟩ := hk1 i hi
    exact ⟨g', fun hm => by have := HLT.out _ _ _ HJ0.out g' hm; omega, h2, h3⟩⟩
  have j1 := HBE.out _ _ _ _ HJ0.out b1
  have k2' : w1.cell? ⟨cf, 0, none⟩ = some (.int .i64 f) := (b1.cell hcfl).trans hcf
  have k3' : w1.cell? ⟨cb, 0, none⟩ = some (.int .i64 e) := (b1.cell hcbl).trans hcb
  have hsk := seek_at M false p (wds n) C f e a0 HA.out.2 (by omega) (by omega) w1 (kp.hc (by unfold wds; omega)) (HL.out.below b1)
  clear hclo hk1 hcm hcf hcb k4
  go_wp2_with fail
  refine hsk.mono ?_
  rintro r w2 ⟨rfl, b2⟩
  have b3 := b1.trans (b2.mono b1.size)
  have k3 : w2.cell? ⟨cb, 0, none⟩ = some (.int .i64 e) := (b2.cell (World.block_lt_of_cell? _ _ k3')).trans k3'
  have HS : Hid (J F0 [] w2 ∧ Ckd w2 p (wds n) M F0 ∧ Touch F0 W w2) := ⟨HBE.out _ _ _ _ j1 b2, kp.below b2, Touch.of_below b3 _⟩
  have hae := HA.out.2.ge hfe
  clear hsk b2 b1 b3 j1 kp k2' k3'
  go_wp2
  go_loopw [6] (fun v wr => ∃ (a : Nat) (pre rest : List (Nat × Nat)) (F : List Nat), v = .int .i64 a ∧ a ≤ e ∧ Hid (l = pre ++ rest ∧ At M e a rest ∧ J F pre wr ∧ Ckd wr p (wds n) M F ∧ Touch F0 W wr ∧ Newer W.heap.size F0 F ∧ cb ∉ F) ∧ wr.cell? ⟨cb, 0, none⟩ = some (.int .i64 e)) (fun v _ => (e - intOf v).toNat)
  case atStart => exact ⟨a0, [], l, F0, rfl, hae.2, ⟨rfl, HA.out.1, HS.out.1, HS.out.2.1, HS.out.2.2, Newer.refl _ _, hO1⟩, k3⟩
  case round =>
    obtain ⟨a, pre, rest, F, rfl, hale, hh, kc⟩ := hrel
    obtain ⟨hl, hA, hJr, hK, hT, hN, hcbF⟩ := hh.out
    clear hh k3 HS
    by_cases hlt : a < e
    · obtain ⟨q, a', l', hre, hq1, hq2, hq3, hA'⟩ : ∃ q a' l', rest = (a, q) :: l' ∧ Sk M true a e q ∧ a < q ∧ Sk M false q e a' ∧ At M e a' l' := by
        cases hA with
        | done => omega
        | run h h1 h2 h3 h4 => exact ⟨_, _, _, rfl, h1, h2, h3, h4⟩
      subst hre
      have hpre : pre ++ [(a, q)] <+: l := ⟨l', by rw [hl]; simp⟩
      have hqe := hq1.ge hale
      have hae' := hq3.ge hqe.2
      have hs1 := seek_at M true p (wds n) C a e q hq1 (by omega) (by omega) wr (hK.hc (by unfold wds; omega)) (HL.out.touch hT hO3 hO2)
      have HH : Hid (l = pre ++ (a, q) :: l' ∧ J F pre wr ∧ Ckd wr p (wds n) M F ∧ Touch F0 W wr ∧ Newer W.heap.size F0 F ∧ cb ∉ F) := ⟨hl, hJr, hK, hT, hN, hcbF⟩
      have HN : Hid (Sk M false q e a' ∧ At M e a' l') := ⟨hq3, hA'⟩
      clear hl hA hJr hK hT hN hcbF hA' hq1 hq3
      go_wp2_with fail
      refine hs1.mono ?_
      rintro r w4 ⟨rfl, b4⟩
      obtain ⟨hl, hJr, hK, hT, hN, hcbF⟩ := HH.out
      have hca := HCL.out F pre (a, q) w4 (HBE.out _ _ _ _ hJr b4) hpre
      have kc4 : w4.cell? ⟨cb, 0, none⟩ = some (.int .i64 e) := (b4.cell (World.block_lt_of_cell? _ _ kc)).trans kc
      have hT4 := hT.trans (Touch.of_below b4 _)
      have H4 : Hid (l = pre ++ (a, q) :: l' ∧ Ckd w4 p (wds n) M F ∧ Touch F0 W w4 ∧ Newer W.heap.size F0 F ∧ cb ∉ F) := ⟨hl, hK.below b4, hT4, hN, hcbF⟩
      clear hs1 kc hl hJr hK hT hN hcbF hT4 HH b4
      dsimp only at hca
      go_wp2_with (go_at_fn k; refine hca.mono ?_)
      rintro r w5 ⟨t5, ⟨rfl, F', hn5, hJ5⟩ | ⟨rfl, hJx⟩⟩
      · obtain ⟨hl, hK, hT, hN, hcbF⟩ := H4.out
        have kc5 : w5.cell? ⟨cb, 0, none⟩ = some (.int .i64 e) := t5.cell kc4 hcbF
        have hK5 := hK.next t5 hn5
        have hT5 := hT.newer t5 hN
        have hN5 := hN.trans hn5 hT.size
        have hcb5 : cb ∉ F' := hn5.not (World.block_lt_of_cell? _ _ kc4) hcbF
        have hs2 := seek_at M false p (wds n) C q e a' HN.out.1 (by omega) (by omega) w5 (hK5.hc (by unfold wds; omega)) (HL.out.touch hT5 hO3 hO2)
        have H5 : Hid (l = pre ++ (a, q) :: l' ∧ J F' (pre ++ [(a, q)]) w5 ∧ Ckd w5 p (wds n) M F' ∧ Touch F0 W w5 ∧ Newer W.heap.size F0 F' ∧ cb ∉ F') := ⟨hl, hJ5, hK5, hT5, hN5, hcb5⟩
        clear hca kc4 hl hK hT hN hcbF hJ5 hK5 hT5 hN5 hcb5 t5 hn5 H4
        go_wp2_with fail
        refine hs2.mono ?_
        rintro r w6 ⟨rfl, b6⟩
        obtain ⟨hl, hJ5, hK5, hT5, hN5, hcb5⟩ := H5.out
        have kc6 : w6.cell? ⟨cb, 0, none⟩ = some (.int .i64 e) := (b6.cell (World.block_lt_of_cell? _ _ kc5)).trans kc5
        have H6 : Hid (l = (pre ++ [(a, q)]) ++ l' ∧ At M e a' l' ∧ J F' (pre ++ [(a, q)]) w6 ∧ Ckd w6 p (wds n) M F' ∧ Touch F0 W w6 ∧ Newer W.heap.size F0 F' ∧ cb ∉ F') := ⟨by rw [hl]; simp, HN.out.2, HBE.out _ _ _ _ hJ5 b6, hK5.below b6, hT5.trans (Touch.of_below b6 _), hN5, hcb5⟩
        clear hs2 kc5 hl hJ5 hK5 hT5 hN5 hcb5 b6 H5
        go_wp2
        go_roundw
        case rel => exact ⟨a', _, l', F', rfl, hae'.2, H6, kc6⟩
        case measure => simp [intOf]; omega
      · have hT5 := H4.out.2.2.1.newer t5 H4.out.2.2.2.1
        clear hca t5 H4 kc4
        go_wp2
        go_returns
        exact ⟨rfl, hT5, .inr ⟨_, hpre, by simp, hJx⟩⟩
    · have : a = e := by omega
      subst this
      have hre : rest = [] := by
        cases hA with
        | done => rfl
        | run h _ _ _ _ => omega
      subst hre
      have hlp : l = pre := by rw [hl]; simp
      have HR : Hid (J F pre wr ∧ Touch F0 W wr ∧ Newer W.heap.size F0 F) := ⟨hJr, hT, hN⟩
      clear hA hJr hK hT hN hcbF hl
      go_wp2
      go_returns
      subst hlp
      exact ⟨rfl, HR.out.2.1, .inl ⟨F, HR.out.2.2, HR.out.1⟩⟩
end Go.Proofs.YtlnfhnahnmblmabDoor
