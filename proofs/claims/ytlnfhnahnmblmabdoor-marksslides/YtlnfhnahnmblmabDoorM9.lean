/-
  The runs, ranged over to the end.
-/
import Derived.Test.YtlnfhnahnmblmabDoorM8
import Derived.Test.YtlnfhnahnmblmabDoorRng
set_option linter.unusedVariables false
namespace Go.Proofs.YtlnfhnahnmblmabDoor
open Go.RowKit Go.Shelf

attribute [local go_sem] Oper.semAt_some

/-- The runs from a on: a begins one, or is the end. -/
inductive At (M : Nat → Bool) (e : Nat) : Nat → List (Nat × Nat) → Prop
  | done : At M e e []
  | run {a q a' : Nat} {l : List (Nat × Nat)} (h : a < e) (hs : Sk M true a e q) (hq : a < q) (hn : Sk M false q e a') (r : At M e a' l) : At M e a ((a, q) :: l)

theorem Sk.ge {M : Nat → Bool} {fl : Bool} {f e k : Nat} (h : Sk M fl f e k) (hf : f ≤ e) : f ≤ k ∧ k ≤ e := by
  rcases h with ⟨h1, _⟩ | ⟨h1, h2, _⟩ <;> omega

theorem at_ex (M : Nat → Bool) (e : Nat) : ∀ d a, e - a = d → a ≤ e → (a < e → M a = true) → ∃ l, At M e a l := by
  intro d
  induction d using Nat.strongRecOn with
  | ind d ih =>
    intro a hd ha hM
    by_cases h : a < e
    · obtain ⟨q, hq⟩ := sk_ex M true e _ a rfl
      have hqa : a < q := by
        rcases hq with ⟨h1, _⟩ | ⟨h1, h2, h3, _⟩
        · omega
        · rcases Nat.lt_or_ge a q with h4 | h4
          · exact h4
          · have : a = q := by omega
            subst this
            rw [hM h] at h3; cases h3
      have hqe := hq.ge ha
      obtain ⟨a', ha'⟩ := sk_ex M false e _ q rfl
      have hae := ha'.ge hqe.2
      obtain ⟨l, hl⟩ := ih (e - a') (by omega) a' rfl hae.2 (fun h => by
        rcases ha' with ⟨h1, _⟩ | ⟨_, _, h3, _⟩
        · omega
        · exact h3)
      exact ⟨_, .run h hq hqa ha' hl⟩
    · have : a = e := by omega
      subst this
      exact ⟨[], .done⟩

abbrev encR (x : Nat × Nat) : Array Value := #[.int .i64 (x.1 : Int), .int .i64 ((x.2 : Int) - x.1)]

theorem runs1_enters : ∀ args w, (callFunc 47 args).run Tryd.prog w = .ok (.enter 47 args) w := enters_of Tryd.func47 (by kernel_rfl) rfl

theorem j_below {α : Type} {B : Nat} {J : (Nat → Prop) → List α → World → Prop} (h : OwnS B J) {S : Nat → Prop} {s : List α} {W W' : World} (hs : J S s W) (l : Below W.heap.size W W') : J (fun k => S k ∨ (W.heap.size ≤ k ∧ k < W'.heap.size)) s W' :=
  h S s W W' none hs ⟨l.os, l.tape, l.output, l.size, fun k hk _ => l.block k hk⟩ (fun r e => by cases e)

theorem runs_any (b : Nat) (f e : Int) (w : World) :
    Calls Tryd.prog 42 #[.pointer (some ⟨b, 0, none⟩), .int .i64 f, .int .i64 e] w fun r w' => r = .returned (.func (.func 47) #[] #[.pointer (some ⟨w.heap.size, 0, none⟩), .pointer (some ⟨w.heap.size + 1, 0, none⟩), .pointer (some ⟨w.heap.size + 1 + 1, 0, none⟩)]) ∧ w' = ((w.alloc (.cells #[.pointer (some ⟨b, 0, none⟩)] 31)).alloc (.cells #[.int .i64 f] 3)).alloc (.cells #[.int .i64 e] 3) := by
  go_enter Tryd.func42, Tryd.ntmps42
  go_wp2
  go_ret
  exact ⟨rfl, rfl⟩

/-- What the iterator keeps: the bits as they stood. -/
structure Kept (W : World) (p : Option Addr) (L : Nat) (M : Nat → Bool) (S : Nat → Prop) : Prop where
  cells : ∀ i, i < L → ∃ g', S g' ∧ p = some ⟨g', 0, none⟩ ∧ W.cell? ⟨g', i, none⟩ = some (.int .u64 (wd M i : Nat))

theorem Kept.next {W W' : World} {p : Option Addr} {L : Nat} {M : Nat → Bool} {S S' : Nat → Prop} (h : Kept W p L M S) (hs : ∀ k, S k → S' k) (hk : ∀ k, S k → W'.heap[k]? = W.heap[k]?) : Kept W' p L M S' :=
  ⟨fun i hi => by
    obtain ⟨g', h1, h2, h3⟩ := h.cells i hi
    exact ⟨g', hs _ h1, h2, (World.cell?_of_block (w := W) (hk _ h1)).trans h3⟩⟩

theorem Kept.below {W W' : World} {p : Option Addr} {L : Nat} {M : Nat → Bool} {S S' : Nat → Prop} (h : Kept W p L M S) (hs : ∀ k, S k → S' k) (l : Below W.heap.size W W') : Kept W' p L M S' :=
  ⟨fun i hi => by
    obtain ⟨g', h1, h2, h3⟩ := h.cells i hi
    exact ⟨g', hs _ h1, h2, (l.cell (World.block_lt_of_cell? _ _ h3)).trans h3⟩⟩

theorem Laid.keepB {w w' : World} {n0 : Nat} (h : Laid w) (l : Below n0 w w') (h1 : 0 < n0) (h2 : 1 < n0) : Laid w' :=
  ⟨fun j hj => (l.cell (p := ⟨1, j, none⟩) h2).trans (h.tz j hj), fun j hj => (l.cell (p := ⟨0, j, none⟩) h1).trans (h.hb j hj)⟩

theorem Kept.hc {W : World} {p : Option Addr} {L : Nat} {M : Nat → Bool} {S : Nat → Prop} (h : Kept W p L M S) {e : Nat} (he : wds e ≤ L) : ∀ i, 64 * i < e → i < L ∧ ∃ g, p = some ⟨g, 0, none⟩ ∧ W.cell? ⟨g, i, none⟩ = some (.int .u64 (wd M i : Nat)) := by
  intro i hi
  have hl : i < L := by unfold wds at he; omega
  obtain ⟨g', -, h2, h3⟩ := h.cells i hl
  exact ⟨hl, g', h2, h3⟩

set_option maxRecDepth 100000 in
set_option maxHeartbeats 8000000 in
theorem runs_full (b g n f e a0 cm cf cb : Nat) (M : Nat → Bool) (l : List (Nat × Nat)) (hfe : f ≤ e) (hen : e ≤ n) (hs0 : Sk M false f e a0) (hat : At M e a0 l) (n0 : Nat) (w : World) (hM : Mp w b g n M) (hL : Laid w)
    (hcm : w.cell? ⟨cm, 0, none⟩ = some (.pointer (some ⟨b, 0, none⟩))) (hcf : w.cell? ⟨cf, 0, none⟩ = some (.int .i64 f)) (hcb : w.cell? ⟨cb, 0, none⟩ = some (.int .i64 e)) (hn0 : n0 ≤ w.heap.size) (hg0 : 0 < n0 ∧ 1 < n0) :
    SeqFull Tryd.prog 47 #[.pointer (some ⟨cm, 0, none⟩), .pointer (some ⟨cf, 0, none⟩), .pointer (some ⟨cb, 0, none⟩)] encR l n0 (fun k => k = cb) w := fun m lp J W S0 hW hOw hJ hY h0 => by
  have hn := hM.le
  have k1 : W.cell? ⟨cm, 0, none⟩ = some (.pointer (some ⟨b, 0, none⟩)) := (hW.cell (World.block_lt_of_cell? _ _ hcm)).trans hcm
  have k2 : W.cell? ⟨cf, 0, none⟩ = some (.int .i64 f) := (hW.cell (World.block_lt_of_cell? _ _ hcf)).trans hcf
  have k3 : W.cell? ⟨cb, 0, none⟩ = some (.int .i64 e) := (hW.cell (World.block_lt_of_cell? _ _ hcb)).trans hcb
  have k4 := (hM.below hW).c1
  have hcl := clone_any g (wds n) (wd M) (by unfold wds; omega) W (hM.below hW).row
  have hLW := hL.below hW
  have hSb := hOw cb rfl
  have hnW : n0 ≤ W.heap.size := by have := hW.size; omega
  have HL : Hid (Laid W) := hLW
  have HJ : Hid (OwnS W.heap.size J) := hJ
  have HY : Hid (∀ S pre x W1, J S pre W1 → pre ++ [x] <+: l → ∀ m, YieldAt Fence.wide m Tryd.prog lp (encR x) W1 fun e W' => e = .returned (.bool true) ∧ J S (pre ++ [x]) W' ∧ (∀ k, S k → W'.heap[k]? = W1.heap[k]?) ∧ Below n0 W1 W') := hY
  have HA : Hid (At M e a0 l) := hat
  have HS : Hid (Sk M false f e a0) := hs0
  have hcbl := World.block_lt_of_cell? _ _ k3
  have hcfl := World.block_lt_of_cell? _ _ k2
  simp only at hcbl hcfl
  clear hM hL hW hJ hY hOw hcm hcf hcb hLW hat hs0
  refine callsIn_of_wp Tryd.func47 rfl trivial ?_ rfl
  simp only [Tryd.ntmps47, List.size_toArray, List.length_cons, List.length_nil, Nat.reduceAdd, Nat.reduceSub, Array.replicate_succ, Array.replicate_zero, List.push_toArray, List.append_toArray, List.nil_append, List.cons_append]
  gi_wp2
  refine ⟨trivial, fun h => (by cases h), (callsIn_wide.2 hcl).mono ?_⟩
  rintro r w1 ⟨p, C, rfl, b1, hk1⟩
  have kp : Kept w1 p (wds n) M (fun k => S0 k ∨ (W.heap.size ≤ k ∧ k < w1.heap.size)) := ⟨fun i hi => by
    obtain ⟨g', h1, h2, h3⟩ := hk1 i hi
    have := World.block_lt_of_cell? _ _ h3
    exact ⟨g', .inr ⟨h1, this⟩, h2, h3⟩⟩
  have j1 := j_below HJ.out h0 b1
  have hL1 := HL.out.below b1
  have k2' : w1.cell? ⟨cf, 0, none⟩ = some (.int .i64 f) := (b1.cell hcfl).trans k2
  have k3' : w1.cell? ⟨cb, 0, none⟩ = some (.int .i64 e) := (b1.cell hcbl).trans k3
  have hsk := seek_at M false p (wds n) C f e a0 HS.out (by omega) (by omega) w1 (kp.hc (by unfold wds; omega)) hL1
  clear hcl hk1 h0 k1 k2 k3 k4
  gi_wp2
  refine ⟨trivial, fun h => (by cases h), (callsIn_wide.2 hsk).mono ?_⟩
  rintro r w2 ⟨rfl, b2⟩
  have j2 := j_below HJ.out j1 b2
  have kp2 : Kept w2 p (wds n) M (fun k => (S0 k ∨ (W.heap.size ≤ k ∧ k < w1.heap.size)) ∨ (w1.heap.size ≤ k ∧ k < w2.heap.size)) := kp.below (fun k h => .inl h) b2
  have b3 := b1.trans (b2.mono b1.size)
  have k3' : w2.cell? ⟨cb, 0, none⟩ = some (.int .i64 e) := (b2.cell (by have := b1.size; simp only; omega)).trans k3'
  have hae := HS.out.ge hfe
  clear hsk b2 j1 kp k2'
  gi_wp2
  gi_loopw [6] (fun v wr => ∃ (a : Nat) (pre rest : List (Nat × Nat)) (S' : Nat → Prop), v = .int .i64 a ∧ a ≤ e ∧ Hid (l = pre ++ rest ∧ At M e a rest ∧ J S' pre wr ∧ Kept wr p (wds n) M S' ∧ Below n0 W wr ∧ S' cb) ∧ wr.cell? ⟨cb, 0, none⟩ = some (.int .i64 e)) (fun v _ => (e - intOf v).toNat)
  case atStart => exact ⟨a0, [], l, _, rfl, hae.2, ⟨rfl, HA.out, j2, kp2, b3.mono hnW, .inl (.inl hSb)⟩, k3'⟩
  case round =>
    obtain ⟨a, pre, rest, S', rfl, hale, hh, kc⟩ := hrel
    obtain ⟨hl, hA, hJr, hK, hB, hScb⟩ := hh.out
    have hcbr : cb < wr.heap.size := World.block_lt_of_cell? _ _ kc
    clear hh k3' j2 kp2 b3
    by_cases hlt : a < e
    · obtain ⟨q, a', l', hre, hq1, hq2, hq3, hA'⟩ : ∃ q a' l', rest = (a, q) :: l' ∧ Sk M true a e q ∧ a < q ∧ Sk M false q e a' ∧ At M e a' l' := by
        cases hA with
        | done => omega
        | run h h1 h2 h3 h4 => exact ⟨_, _, _, rfl, h1, h2, h3, h4⟩
      subst hre
      have hpre : pre ++ [(a, q)] <+: l := ⟨l', by rw [hl]; simp⟩
      have hqe := hq1.ge hale
      have hae' := hq3.ge hqe.2
      have hLr := HL.out.keepB hB hg0.1 hg0.2
      have hs1 := seek_at M true p (wds n) C a e q hq1 (by omega) (by omega) wr (hK.hc (by unfold wds; omega)) hLr
      have HH : Hid (l = pre ++ (a, q) :: l' ∧ J S' pre wr ∧ Kept wr p (wds n) M S' ∧ Below n0 W wr ∧ S' cb) := ⟨hl, hJr, hK, hB, hScb⟩
      have HN : Hid (Sk M false q e a' ∧ At M e a' l') := ⟨hq3, hA'⟩
      clear hl hA hJr hK hB hScb hLr hA' hq1 hq3
      gi_wp2
      refine ⟨trivial, fun h => (by cases h), (callsIn_wide.2 hs1).mono ?_⟩
      rintro r w4 ⟨rfl, b4⟩
      obtain ⟨hl, hJr, hK, hB, hScb⟩ := HH.out
      have j4 := j_below HJ.out hJr b4
      have kp4 : Kept w4 p (wds n) M (fun k => S' k ∨ (wr.heap.size ≤ k ∧ k < w4.heap.size)) := hK.below (fun k h => .inl h) b4
      have hnr : n0 ≤ wr.heap.size := Nat.le_trans hnW hB.size
      have hB4 := hB.trans (b4.mono hnr)
      have kc4 : w4.cell? ⟨cb, 0, none⟩ = some (.int .i64 e) := (b4.cell hcbr).trans kc
      obtain ⟨fn, tmps, assign, body, hy, hR⟩ := HY.out _ pre (a, q) w4 j4 hpre (m - 1)
      have H4 : Hid (l = pre ++ (a, q) :: l' ∧ Kept w4 p (wds n) M (fun k => S' k ∨ (wr.heap.size ≤ k ∧ k < w4.heap.size)) ∧ Below n0 W w4 ∧ S' cb) := ⟨hl, kp4, hB4, hScb⟩
      clear hs1 kc hl hJr hK hB hScb j4 kp4 hB4 HH b4
      dsimp only [encR] at hy
      gi_wp2
      refine ⟨fun h => (by cases h), hR.mono ?_⟩
      rintro e' w5 ⟨rfl, hJ5, hS5, hB5⟩
      obtain ⟨hl, kp4, hB4, hScb⟩ := H4.out
      have hBW5 := hB4.trans hB5
      have kp5 : Kept w5 p (wds n) M (fun k => S' k ∨ (wr.heap.size ≤ k ∧ k < w4.heap.size)) := kp4.next (fun k h => h) hS5
      have kc5 : w5.cell? ⟨cb, 0, none⟩ = some (.int .i64 e) := (World.cell?_of_block (w := w4) (hS5 _ (.inl hScb))).trans kc4
      have hs2 := seek_at M false p (wds n) C q e a' HN.out.1 (by omega) (by omega) w5 (kp5.hc (by unfold wds; omega)) (HL.out.keepB hBW5 hg0.1 hg0.2)
      have H5 : Hid (l = pre ++ (a, q) :: l' ∧ J (fun k => S' k ∨ (wr.heap.size ≤ k ∧ k < w4.heap.size)) (pre ++ [(a, q)]) w5 ∧ Kept w5 p (wds n) M (fun k => S' k ∨ (wr.heap.size ≤ k ∧ k < w4.heap.size)) ∧ Below n0 W w5 ∧ S' cb) := ⟨hl, hJ5, kp5, hBW5, hScb⟩
      clear hy hR kc4 hl kp4 hB4 hScb hJ5 hS5 hB5 kp5 hBW5 H4
      gi_wp2
      refine ⟨trivial, fun h => (by cases h), (callsIn_wide.2 hs2).mono ?_⟩
      rintro r w6 ⟨rfl, b6⟩
      obtain ⟨hl, hJ5, kp5, hB5, hScb⟩ := H5.out
      have j6 := j_below HJ.out hJ5 b6
      have kc6 : w6.cell? ⟨cb, 0, none⟩ = some (.int .i64 e) := (b6.cell (World.block_lt_of_cell? _ _ kc5)).trans kc5
      have H6 : Hid (l = (pre ++ [(a, q)]) ++ l' ∧ At M e a' l' ∧ J (fun k => (S' k ∨ (wr.heap.size ≤ k ∧ k < w4.heap.size)) ∨ (w5.heap.size ≤ k ∧ k < w6.heap.size)) (pre ++ [(a, q)]) w6 ∧ Kept w6 p (wds n) M (fun k => (S' k ∨ (wr.heap.size ≤ k ∧ k < w4.heap.size)) ∨ (w5.heap.size ≤ k ∧ k < w6.heap.size)) ∧ Below n0 W w6 ∧ ((S' cb ∨ (wr.heap.size ≤ cb ∧ cb < w4.heap.size)) ∨ (w5.heap.size ≤ cb ∧ cb < w6.heap.size))) :=
        ⟨by rw [hl]; simp, HN.out.2, j6, kp5.below (fun k h => .inl h) b6, hB5.trans (b6.mono (Nat.le_trans hnW hB5.size)), .inl (.inl hScb)⟩
      clear hs2 kc5 hl hJ5 kp5 hB5 hScb j6 b6 H5
      gi_wp2
      go_roundw
      case rel => exact ⟨a', _, l', _, rfl, hae'.2, H6, kc6⟩
      case measure => simp [intOf]; omega
    · have : a = e := by omega
      subst this
      have hre : rest = [] := by
        cases hA with
        | done => rfl
        | run h _ _ _ _ => omega
      subst hre
      have HJr : Hid (J S' pre wr) := hJr
      have hlp : l = pre := by rw [hl]; simp
      clear hA hJr hK hB hScb hl
      gi_wp2
      go_end0
      subst hlp
      exact ⟨⟨_, rfl⟩, S', HJr.out⟩
end Go.Proofs.YtlnfhnahnmblmabDoor
