import Derived.Test.YtdlannfjnljbcaaGreatDoorR24
import Derived.Test.YtdlannfjnljbcaaGreatDoorPKa
import Derived.Test.YtdlannfjnljbcaaGreatDoorRRC
/-
  many, walked.
-/
set_option linter.unusedVariables false
set_option maxRecDepth 20000
namespace Go.Proofs.YtdlannfjnljbcaaGreatDoor
open Go.RowKit

/-- Roots beside one another: their blocks, and a list of them. -/
structure Fam (w : World) (base : Nat) (v : Value) (bs : List Nat) (S : Nat → Sta) (Fs : Nat → List Nat) : Prop where
  row : w.ownsRow base 24 1 v bs.length (bs.map fun b => Value.pointer (some ⟨b, 0, none⟩))
  ok : ∀ (i : Nat) b, bs[i]? = some b → ∃ N, N ≤ (S i).qs.length ∧ Rts w base b N (S i) (Fs i) ∧ (S i).Ok
  ap : ∀ i j, i < bs.length → j < bs.length → i ≠ j → Apart (Fs i) (Fs j)
  vf : ∀ g, v.ownBlock = some g → ∀ i, i < bs.length → g ∉ Fs i

theorem Fam.step {w w' : World} {base : Nat} {v : Value} {bs : List Nat} {S S2 : Nat → Sta} {Fs : Nat → List Nat} (h : Fam w base v bs S Fs) {i b N' : Nat} {S' : Sta} {F' : List Nat} (hi : bs[i]? = some b) (ht : Touch (Fs i) w w') (hr : Rts w' base b N' S' F') (hN : N' ≤ S'.qs.length) (hO : S'.Ok) (hn : Newer w.heap.size (Fs i) F') (h1 : S2 i = S') (h2 : ∀ j, j ≠ i → S2 j = S j) : Fam w' base v bs S2 (upd Fs i F') := by
  have hil : i < bs.length := (List.getElem?_eq_some_iff.1 hi).1
  have lt : ∀ j, j < bs.length → ∀ k, k ∈ Fs j → k < w.heap.size := fun j hj k hk => by
    obtain ⟨N, _, hR, _⟩ := h.ok j bs[j] (List.getElem?_eq_getElem hj)
    exact (hR.mem k hk).2
  have vlt : ∀ g, v.ownBlock = some g → g < w.heap.size := fun g hg => (h.row.lt g hg).2
  refine ⟨own_keep (k := 0) h.row (fun k e => ht.block k (vlt k e) (h.vf k e i hil)), fun j c hj => ?_, fun j m hj hm hne => ?_, fun g hg j hj => ?_⟩
  · by_cases e : j = i
    · subst e
      rw [hi] at hj; simp at hj; subst hj
      exact ⟨N', by rw [h1]; exact hN, by rw [h1, upd_same]; exact hr, by rw [h1]; exact hO⟩
    · obtain ⟨N, q1, q2, q3⟩ := h.ok j c hj
      rw [h2 j e, upd_ne _ _ e]
      exact ⟨N, q1, q2.keep ht (h.ap j i (List.getElem?_eq_some_iff.1 hj).1 hil e), q3⟩
  · by_cases e : j = i
    · subst e
      rw [upd_same, upd_ne _ _ (fun e => hne e.symm)]
      exact (h.ap j m hj hm hne).newer hn (lt m hm)
    · by_cases e2 : m = i
      · subst e2
        rw [upd_same, upd_ne _ _ e]
        exact ((h.ap m j hm hj (fun e => hne e.symm)).newer hn (lt j hj)).symm
      · rw [upd_ne _ _ e, upd_ne _ _ e2]; exact h.ap j m hj hm hne
  · by_cases e : j = i
    · subst e
      rw [upd_same]
      intro hm
      rcases hn g hm with h3 | h3
      · exact h.vf g hg j hj h3
      · have := vlt g hg; omega
    · rw [upd_ne _ _ e]; exact h.vf g hg j hj

theorem Fam.below {w w' : World} {base : Nat} {v : Value} {bs : List Nat} {S : Nat → Sta} {Fs : Nat → List Nat} (h : Fam w base v bs S Fs) (hb : Below w.heap.size w w') : Fam w' base v bs S Fs :=
  ⟨own_keep (k := 0) h.row (fun k e => hb.block k (h.row.lt k e).2), fun i b hi => by
    obtain ⟨N, q1, q2, q3⟩ := h.ok i b hi
    exact ⟨N, q1, q2.nil (Touch.of_below hb []), q3⟩, h.ap, h.vf⟩

def mS0 : Sta := (sta0 2 4 2).pushS 0 2
def mS1 (i : Nat) : Sta := ((mS0.openS (100 + i)).setS 0 1 (1 + i)).enqS (200 + i)

theorem mS0_qs : mS0.qs.length = 0 := by decide
theorem openS_qs (S : Sta) (x : Int) : (S.openS x).qs = S.qs := by unfold Sta.openS; split <;> rfl
theorem setS_qs (S : Sta) (t i x : Int) : (S.setS t i x).qs = S.qs := by unfold Sta.setS; split <;> rfl
theorem mS0_e : (sta0 2 4 2).pushE 0 2 = 0 := by decide
theorem mS0_v : mS0.openV = 0 := by decide
theorem mS0_oe : mS0.openE = 0 := by decide
theorem mS1_e : ∀ i, i < 20 → (mS0.openS (100 + (i : Nat))).slotE 0 1 = 0 := by decide
theorem mS1_all : ∀ i, i < 20 → (mS1 i).all = [1 + (i : Int), 100 + (i : Int), 200 + (i : Int)] := by decide
theorem mS1_hs : ∀ i, i < 20 → tolds (mS1 i).hs = [100 + (i : Int), -1] := by decide
theorem mS1_qs : ∀ i, i < 20 → (mS1 i).qs = [200 + (i : Int)] := by decide
theorem mS1_fr : ∀ i, i < 20 → (mS1 i).frames 0 = [2] := by decide

end Go.Proofs.YtdlannfjnljbcaaGreatDoor

/-
  many, walked.
-/
set_option linter.unusedVariables false
set_option maxRecDepth 20000
namespace Go.Proofs.YtdlannfjnljbcaaGreatDoor
open Go.RowKit

theorem Tryz.infoRootsp : (Tryz.prog.info? 24).map (fun i => (i.zero, i.size, i.bytes)) = some (some (.pointer none), 1, 8) := by kernel_rfl

theorem Fam.nil (w : World) (base : Nat) (S : Nat → Sta) (Fs : Nat → List Nat) : Fam w base (.slice none 0 0) [] S Fs :=
  ⟨World.ownsRow_nil _ _ _ _, fun i b h => by simp at h, fun i j h => by simp at h, fun g h => by simp [Value.ownBlock] at h⟩

theorem Fam.snoc {w w2 w3 : World} {base b N : Nat} {v v' : Value} {bs : List Nat} {S : Nat → Sta} {Fs : Nat → List Nat} {F : List Nat} {S' : Sta} (h : Fam w base v bs S Fs) (hbs : base ≤ w.heap.size) (hb : Below w.heap.size w w2) (hr : Rts w2 w.heap.size b N S' F) (hN : N ≤ S'.qs.length) (hO : S'.Ok) (hS : S bs.length = S')
    (ho : w3.ownsRow base 24 1 v' (bs.length + 1) ((bs.map fun b => Value.pointer (some ⟨b, 0, none⟩)) ++ [.pointer (some ⟨b, 0, none⟩)])) (ht : Touch v.ownBlock.toList w2 w3) (hat : v'.ownBlock = v.ownBlock ∨ ∃ q, v'.ownBlock = some q ∧ w2.heap.size ≤ q) :
    Fam w3 base v' (bs ++ [b]) S (upd Fs bs.length F) := by
  have h2 := h.below hb
  have vlt : ∀ g, v.ownBlock = some g → g < w.heap.size := fun g hg => (h.row.lt g hg).2
  have lt : ∀ j, j < bs.length → ∀ k, k ∈ Fs j → k < w.heap.size := fun j hj k hk => by
    obtain ⟨N, _, hR, _⟩ := h.ok j bs[j] (List.getElem?_eq_getElem hj)
    exact (hR.mem k hk).2
  have vF : ∀ k, k ∈ F → k ∉ v.ownBlock.toList := fun k hk hm => by
    have := vlt k (by simpa using hm)
    have := (hr.mem k hk).1
    omega
  refine ⟨by simpa using ho, fun i c hi => ?_, fun i j hi hj hne => ?_, fun g hg i hi => ?_⟩
  · by_cases e : i < bs.length
    · rw [List.getElem?_append_left e] at hi
      obtain ⟨N, q1, q2, q3⟩ := h2.ok i c hi
      rw [upd_ne _ _ (by omega)]
      exact ⟨N, q1, q2.keep ht (fun k hk hm => h.vf k (by simpa using hm) i e hk), q3⟩
    · have hl := (List.getElem?_eq_some_iff.1 hi).1
      simp at hl
      obtain rfl : i = bs.length := by omega
      rw [List.getElem?_append_right (Nat.le_refl _)] at hi
      simp at hi
      subst hi
      rw [upd_same, hS]
      exact ⟨N, hN, (hr.keep ht vF).base hbs, hO⟩
  · simp only [List.length_append, List.length_cons, List.length_nil] at hi hj
    by_cases e : i < bs.length
    · by_cases e2 : j < bs.length
      · rw [upd_ne _ _ (by omega), upd_ne _ _ (by omega)]; exact h.ap i j e e2 hne
      · obtain rfl : j = bs.length := by omega
        rw [upd_ne _ _ (by omega), upd_same]
        intro k hk hm
        have := lt i e k hk
        have := (hr.mem k hm).1
        omega
    · obtain rfl : i = bs.length := by omega
      rw [upd_same, upd_ne _ _ (by omega)]
      intro k hk hm
      have := lt j (by omega) k hm
      have := (hr.mem k hk).1
      omega
  · simp only [List.length_append, List.length_cons, List.length_nil] at hi
    by_cases e : i < bs.length
    · rw [upd_ne _ _ (by omega)]
      rcases hat with h3 | ⟨q, h3, h4⟩
      · exact h.vf g (h3 ▸ hg) i e
      · intro hm
        rw [h3] at hg; simp at hg; subst hg
        have := lt i e _ hm
        have := hb.size
        omega
    · obtain rfl : i = bs.length := by omega
      rw [upd_same]
      intro hm
      rcases hat with h3 | ⟨q, h3, h4⟩
      · exact vF g hm (by simp [← h3, hg])
      · rw [h3] at hg; simp at hg; subst hg
        have := (hr.mem _ hm).2
        omega

theorem Fam.cell {w : World} {base : Nat} {v : Value} {bs : List Nat} {S : Nat → Sta} {Fs : Nat → List Nat} (h : Fam w base v bs S Fs) {g n cap : Nat} (hv : v = .slice (some ⟨g, 0, none⟩) n cap) {i b : Nat} (hi : bs[i]? = some b) : w.cell? ⟨g, i, none⟩ = some (.pointer (some ⟨b, 0, none⟩)) := by
  obtain ⟨g2, cap2, e, hc⟩ := Kg.row_val h.row i (.pointer (some ⟨b, 0, none⟩)) (by simp [hi])
  rw [hv] at e
  simp only [Value.slice.injEq, Option.some.injEq, Addr.mk.injEq, and_true] at e
  rw [e.1]; exact hc

theorem is_two (w : World) (a b : Int) : SliceIs (w.alloc (.cells #[.int .i64 a, .int .i64 b] 3)).heap.size (w.alloc (.cells #[.int .i64 a, .int .i64 b] 3)) (.slice (some ⟨w.heap.size, 0, none⟩) 2 2) [a, b] := by
  refine .inr ⟨w.heap.size, 0, 2, rfl, by simp, fun j x hj => ?_⟩
  match j, hj with
  | 0, h | 1, h => simp at h; subst h; simp
  | j + 2, h => simp at h

theorem is_one (w : World) (a : Int) : SliceIs (w.alloc (.cells #[.int .i64 a] 3)).heap.size (w.alloc (.cells #[.int .i64 a] 3)) (.slice (some ⟨w.heap.size, 0, none⟩) 1 1) [a] := by
  refine .inr ⟨w.heap.size, 0, 1, rfl, by simp, fun j x hj => ?_⟩
  match j, hj with
  | 0, h => simp at h; subst h; simp
  | j + 1, h => simp at h

set_option maxHeartbeats 16000000 in
theorem many_any (w : World) : Calls Tryz.prog 16 #[] w fun e w' => e = .returned (.bool true) ∧ Below w.heap.size w w' := by
  have ok0 := sta0_ok (T := 2) (most := 4) (H := 2) (by decide) (by decide) (by decide) (by decide) (by decide)
  have HO0 : Hid (sta0 2 4 2).Ok := ok0
  obtain ⟨ip, p0, p1, p2, p3⟩ := info_parts Tryz.infoRootsp
  clear ok0
  go_enter Tryz.func16, Tryz.ntmps16
  go_wp2
  go_loopw [1, 2] (fun l i wr => ∃ l0, l0 = l ∧ ∃ (k : Nat) (bs : List Nat) (Fs : Nat → List Nat), k ≤ 20 ∧ i = .int .i64 k ∧ bs.length = k ∧ Fam wr w.heap.size l0 bs (fun _ => mS0) Fs ∧ Below w.heap.size w wr) (fun _ i _ => 20 - (intOf i).toNat)
  case atStart => exact ⟨_, rfl, 0, [], fun _ => [], by omega, rfl, rfl, Fam.nil _ _ _ _, Below.refl _ _⟩
  case round =>
    obtain ⟨l0, hl0, k, bs, Fs, hk, rfl, hbl, hF, hB⟩ := hrel
    subst hl0
    have HF : Hid (Fam wr w.heap.size l0 bs (fun _ => mS0) Fs) := hF
    have HB : Hid (Below w.heap.size w wr) := hB
    obtain ⟨la, lc, hle⟩ := Kg.row_sl hF.row
    rw [hbl] at hle
    have Hbl : Hid (bs.length = k) := hbl
    clear hF hB hbl
    subst hle
    by_cases hk20 : k < 20
    · have hki : (k : Int) < 20 := by omega
      have q := new_in 2 4 2 (by decide) (by decide) (by decide) (by decide) (by decide) wr
      go_wp2_with fail
      refine q.mono ?_
      rintro e w1 ⟨b, F1, rfl, H1, t1⟩
      have hp := push_any wr.heap.size b 0 0 2 _ F1 w1 H1 HO0.out t1.size
      rw [mS0_e] at hp
      have B1 : Hid (Below wr.heap.size wr w1) := t1.below (Nat.le_refl _) (fun k h => by cases h)
      have HH1 : Hid (Rts w1 wr.heap.size b 0 (sta0 2 4 2) F1) := H1
      clear q t1 H1
      go_wp2_with fail
      refine hp.mono ?_
      rintro e w2 ⟨rfl, F2, H2, t2, n2⟩
      have B2 : Hid (Below wr.heap.size wr w2) := B1.out.trans (t2.below B1.out.size (fun k h => (HH1.out.mem k h).1))
      have HH2 : Hid (Rts w2 wr.heap.size b 0 mS0 F2) := H2
      clear hp t2 n2 H2 HH1 B1
      have HF2 := HF.out.below B2.out
      have HFr : Hid (w2.ownsRow w.heap.size 24 1 (.slice la k lc) k (bs.map fun b => Value.pointer (some ⟨b, 0, none⟩))) := by have := HF2.row; rw [Hbl.out] at this; exact this
      clear HF2
      go_wp2_with (at_builtin; refine wpList_append_own_at _ rfl _ _ 85 rfl w.heap.size 24 ip (.pointer none) 1 8 Tryz.underlying85 p0 p1 p2 p3 rfl (by decide) (.slice la k lc) k (bs.map fun b => Value.pointer (some ⟨b, 0, none⟩)) rfl (HFr.out.alloc _) ⟨w2.heap.size, 0, none⟩ 1 1 [.pointer (some ⟨b, 0, none⟩)] rfl rfl (cell_one_new _ _ _) (by simp [Value.oneCell']) (by simp [maxLen]; omega) (by omega) (by have := HB.out.size; have := B2.out.size; simp; omega) ?_)
      intro v' w3 ho hg _ hat
      have HF3 : Hid (Fam w3 w.heap.size v' (bs ++ [b]) (fun _ => mS0) (upd Fs bs.length F2)) := HF.out.snoc HB.out.size B2.out HH2.out (Nat.zero_le _) (HO0.out.pushS 0 2) rfl (by rw [Hbl.out]; exact ho) ((Touch.alloc _ _ _).trans (Touch.grown hg (fun k hk => by simp [hk]))) (by rcases hat with h | h; exact .inl h; exact .inr ⟨_, h, by simp⟩)
      have HB3 : Hid (Below w.heap.size w w3) := by
        have ht3 : Touch (Value.slice la k lc).ownBlock.toList w2 w3 := (Touch.alloc _ _ _).trans (Touch.grown hg (fun k hk => by simp [hk]))
        exact (HB.out.trans (B2.out.mono HB.out.size)).trans (ht3.below (by have := HB.out.size; have := B2.out.size; omega) (fun k hk => (HFr.out.lt k (by simpa using hk)).1))
      obtain ⟨gq, cq, rfl⟩ := Kg.row_sl ho
      clear ho hg hat
      go_wp2
      go_roundw
      case rel => exact ⟨_, rfl, k + 1, bs ++ [b], _, by omega, by go_num, by simp [Hbl.out], HF3.out, HB3.out⟩
      case measure => simp [intOf]; omega
    · have hki : ¬ (k : Int) < 20 := by omega
      have hkn : k = 20 := by omega
      have Hkn : Hid (k = 20) := hkn
      obtain ⟨g, cp, hve⟩ := Kg.ownsRow_some HF.out.row (by have := Hbl.out; omega)
      simp only [Value.slice.injEq] at hve
      obtain ⟨rfl, _, rfl⟩ := hve
      obtain ⟨w0, hw0⟩ : ∃ x, x = wr := ⟨_, rfl⟩
      subst hw0
      clear hk20 hk hkn
      go_wp2
      clear hki
      rw [Hkn.out] at Hbl
      obtain ⟨k0, hk0⟩ : ∃ x, x = k := ⟨_, rfl⟩
      subst hk0
      go_loopw [5] (fun i wr => ∃ (k : Nat) (Fs : Nat → List Nat), k ≤ 20 ∧ i = .int .i64 k ∧ Fam wr w.heap.size (.slice (some ⟨g, 0, none⟩) k0 lc) bs (fun j => if j < k then mS1 j else mS0) Fs ∧ Below w.heap.size w wr) (fun i _ => 20 - (intOf i).toNat)
      case atStart => exact ⟨0, _, by omega, rfl, by simpa using HF.out, HB.out⟩
      case round =>
        obtain ⟨k, Fs2, hk, rfl, hF, hB⟩ := hrel
        clear HF HB
        have HF : Hid (Fam wr w.heap.size (.slice (some ⟨g, 0, none⟩) k0 lc) bs (fun j => if j < k then mS1 j else mS0) Fs2) := hF
        have HB : Hid (Below w.heap.size w wr) := hB
        clear hF hB
        by_cases hk20 : k < 20
        · have hki : (k : Int) < 20 := by omega
          obtain ⟨b, hb⟩ : ∃ b, bs[k]? = some b := ⟨_, List.getElem?_eq_getElem (by have := Hbl.out; omega)⟩
          obtain ⟨N, hN, hR, hO⟩ := HF.out.ok k b hb
          have c0 := HF.out.cell rfl hb
          simp only [Nat.lt_irrefl, if_false] at hR hO hN
          obtain rfl : N = 0 := by rw [mS0_qs] at hN; omega
          have q := hopen_any w.heap.size b 0 (100 + (k : Int)) mS0 (Fs2 k) wr hR hO
          rw [mS0_v, mS0_oe] at q
          have HO1 : Hid (mS0.openS (100 + (k : Int))).Ok := hO.openS _
          have Hb9 : Hid (bs[k]? = some b) := hb
          have HRm : Hid (∀ x, x ∈ Fs2 k → w.heap.size ≤ x ∧ x < wr.heap.size) := hR.mem
          clear hR hO hb hN
          go_wp2_with fail
          refine q.mono ?_
          rintro e w1 ⟨rfl, H1, t1⟩
          have hF1 : Fam w1 w.heap.size (.slice (some ⟨g, 0, none⟩) k0 lc) bs (upd (fun j => if j < k then mS1 j else mS0) k (mS0.openS (100 + (k : Int)))) (upd Fs2 k (Fs2 k)) := HF.out.step Hb9.out t1 H1 (Nat.zero_le _) HO1.out (Newer.refl _ _) (upd_same _ _ _) (fun j hj => upd_ne _ _ hj)
          have HB1 : Hid (Below w.heap.size w w1) := HB.out.trans (t1.below HB.out.size (fun x hx => (HRm.out x hx).1))
          have c1 := hF1.cell rfl Hb9.out
          have q2 := set_any w.heap.size b 0 0 1 (1 + (k : Int)) (mS0.openS (100 + (k : Int))) (Fs2 k) w1 H1 HO1.out
          rw [mS1_e k hk20] at q2
          have HF1 : Hid (Fam w1 w.heap.size (.slice (some ⟨g, 0, none⟩) k0 lc) bs (upd (fun j => if j < k then mS1 j else mS0) k (mS0.openS (100 + (k : Int)))) (upd Fs2 k (Fs2 k))) := hF1
          have HRm1 : Hid (∀ x, x ∈ Fs2 k → w.heap.size ≤ x ∧ x < w1.heap.size) := H1.mem
          clear q t1 H1 hF1 c0
          go_wp2_with fail
          refine q2.mono ?_
          rintro e w2 ⟨rfl, H2, t2⟩
          have HO2 : Hid ((mS0.openS (100 + (k : Int))).setS 0 1 (1 + (k : Int))).Ok := HO1.out.setS _ _ _
          have hF2 : Fam w2 w.heap.size (.slice (some ⟨g, 0, none⟩) k0 lc) bs (upd (fun j => if j < k then mS1 j else mS0) k ((mS0.openS (100 + (k : Int))).setS 0 1 (1 + (k : Int)))) (upd (upd Fs2 k (Fs2 k)) k (Fs2 k)) := HF1.out.step Hb9.out (by rw [upd_same]; exact t2) H2 (Nat.zero_le _) HO2.out (by rw [upd_same]; exact Newer.refl _ _) (upd_same _ _ _) (fun j hj => by rw [upd_ne _ _ hj, upd_ne _ _ hj])
          have HB2 : Hid (Below w.heap.size w w2) := HB1.out.trans (t2.below HB1.out.size (fun x hx => (HRm1.out x hx).1))
          have c2 := hF2.cell rfl Hb9.out
          have q3 := enqueue_any w.heap.size b 0 (200 + (k : Int)) ((mS0.openS (100 + (k : Int))).setS 0 1 (1 + (k : Int))) (Fs2 k) w2 H2 HB2.out.size (by decide)
          have HF2 : Hid (Fam w2 w.heap.size (.slice (some ⟨g, 0, none⟩) k0 lc) bs (upd (fun j => if j < k then mS1 j else mS0) k ((mS0.openS (100 + (k : Int))).setS 0 1 (1 + (k : Int)))) (upd (upd Fs2 k (Fs2 k)) k (Fs2 k))) := hF2
          have HRm2 : Hid (∀ x, x ∈ Fs2 k → w.heap.size ≤ x ∧ x < w2.heap.size) := H2.mem
          clear q2 t2 H2 hF2 c1
          go_wp2_with fail
          refine q3.mono ?_
          rintro e w3 ⟨rfl, F3, H3, t3, n3⟩
          have HF3 : Hid (Fam w3 w.heap.size (.slice (some ⟨g, 0, none⟩) k0 lc) bs (fun j => if j < k + 1 then mS1 j else mS0) (upd (upd (upd Fs2 k (Fs2 k)) k (Fs2 k)) k F3)) := HF2.out.step Hb9.out (by rw [upd_same]; exact t3) H3 (by show 0 + 1 ≤ _; simp [Sta.enqS]) (HO2.out.enqS _) (by rw [upd_same]; exact n3) (by rw [if_pos (by omega)]; rfl) (fun j hj => by
            rw [upd_ne _ _ hj]
            by_cases h : j < k
            · rw [if_pos h, if_pos (by omega)]
            · rw [if_neg h, if_neg (by omega)])
          have HB3 : Hid (Below w.heap.size w w3) := HB2.out.trans (t3.below HB2.out.size (fun x hx => (HRm2.out x hx).1))
          clear q3 H3 t3 n3 c2
          go_wp2
          go_roundw
          case rel => exact ⟨k + 1, _, by omega, by go_num, HF3.out, HB3.out⟩
          case measure => simp [intOf]; omega
        · have hki : ¬ (k : Int) < 20 := by omega
          have hkn : k = 20 := by omega
          have Hk2 : Hid (k = 20) := hkn
          obtain ⟨w9, hw9⟩ : ∃ x, x = wr := ⟨_, rfl⟩
          subst hw9
          clear hk20 hk hkn
          go_wp2
          clear hki
          rw [Hk2.out] at HF
          go_loopw [8] (fun i wr => ∃ (k : Nat) (Fs : Nat → List Nat), k ≤ 20 ∧ i = .int .i64 ((k : Int) - 1) ∧ Fam wr w.heap.size (.slice (some ⟨g, 0, none⟩) k0 lc) bs mS1 Fs ∧ Below w.heap.size w wr) (fun i _ => (intOf i + 1).toNat)
          case atStart => exact ⟨20, Fs2, by omega, by go_num, by
            refine ⟨HF.out.row, fun i b hi => ?_, HF.out.ap, HF.out.vf⟩
            have hil : i < 20 := by have := (List.getElem?_eq_some_iff.1 hi).1; have := Hbl.out; omega
            have := HF.out.ok i b hi
            simpa only [if_pos hil] using this, HB.out⟩
          case round =>
            obtain ⟨k, Fs3, hk, rfl, hF, hB⟩ := hrel
            clear HF HB
            have HF : Hid (Fam wr w.heap.size (.slice (some ⟨g, 0, none⟩) k0 lc) bs mS1 Fs3) := hF
            have HB : Hid (Below w.heap.size w wr) := hB
            clear hF hB
            by_cases hk0 : 0 < k
            · obtain ⟨n, rfl⟩ : ∃ n, k = n + 1 := ⟨k - 1, by omega⟩
              have hn20 : n < 20 := by omega
              have hnn : ((n + 1 : Nat) : Int) - 1 = n := by omega
              rw [hnn]
              have hni : 0 ≤ (n : Int) ∧ (n : Int) < 20 := by omega
              obtain ⟨b, hb⟩ : ∃ b, bs[n]? = some b := ⟨_, List.getElem?_eq_getElem (by have := Hbl.out; omega)⟩
              obtain ⟨N, hN, hR, hO⟩ := HF.out.ok n b hb
              have hN1 : N ≤ 1 := by rw [mS1_qs n hn20] at hN; simpa using hN
              have c0 := HF.out.cell rfl hb
              have q := all_any w.heap.size b N (mS1 n) (Fs3 n) wr hR hO (by omega)
              rw [mS1_all n hn20] at q
              have Hb9 : Hid (bs[n]? = some b) := hb
              have HO : Hid (mS1 n).Ok := hO
              have HRm : Hid (∀ x, x ∈ Fs3 n → w.heap.size ≤ x ∧ x < wr.heap.size) := hR.mem
              clear hnn hk0 hk hR hO hN hb
              go_wp2_with fail
              refine q.mono ?_
              rintro e w1 ⟨v1, rfl, ho1, H1, t1⟩
              obtain ⟨a1, d1, rfl⟩ := own_slice ho1
              have HB1 : Hid (Below w.heap.size w w1) := HB.out.trans (t1.below HB.out.size (fun x hx => (HRm.out x hx).1))
              have HF1 : Hid (Fam w1 w.heap.size (.slice (some ⟨g, 0, none⟩) k0 lc) bs mS1 (upd Fs3 n (Fs3 n))) := HF.out.step Hb9.out t1 H1 (by rw [mS1_qs n hn20]; simpa using hN1) HO.out (Newer.refl _ _) rfl (fun _ _ => rfl)
              have hsa := same_any _ _ [1 + (n : Int), 100 + (n : Int), 200 + (n : Int)] [1 + (n : Int), 100 + (n : Int), 200 + (n : Int)] (w1.alloc (.cells #[.int .i64 (1 + (n : Int)), .int .i64 (100 + (n : Int)), .int .i64 (200 + (n : Int))] 3)) (own_is (ho1.alloc _)) (is_three w1 _ _ _) (by simp)
              rw [decide_eq_true rfl] at hsa
              clear q t1 H1 ho1 c0
              go_wp2_with fail
              refine hsa.mono ?_
              rintro e w2 ⟨rfl, nq, rfl⟩
              have HB2 : Hid (Below w.heap.size w ((w1.alloc (.cells #[.int .i64 (1 + (n : Int)), .int .i64 (100 + (n : Int)), .int .i64 (200 + (n : Int))] 3)).drewN nq)) := below_drewN (HB1.out.alloc HB1.out.size _) _
              have HF2 : Hid (Fam ((w1.alloc (.cells #[.int .i64 (1 + (n : Int)), .int .i64 (100 + (n : Int)), .int .i64 (200 + (n : Int))] 3)).drewN nq) w.heap.size (.slice (some ⟨g, 0, none⟩) k0 lc) bs mS1 (upd Fs3 n (Fs3 n))) := HF1.out.below (below_drewN ((Below.refl _ w1).alloc (Nat.le_refl _) _) _)
              clear hsa
              generalize ((w1.alloc (.cells #[.int .i64 (1 + (n : Int)), .int .i64 (100 + (n : Int)), .int .i64 (200 + (n : Int))] 3)).drewN nq) = w2 at HB2 HF2 ⊢
              clear HF1 HB1 HF HB
              have c0 := HF2.out.cell rfl Hb9.out
              obtain ⟨N2, hN2, hR2, hO2⟩ := HF2.out.ok n b Hb9.out
              have q := handles_any w.heap.size b N2 (mS1 n) _ w2 hR2 HO.out
              rw [mS1_hs n hn20, show (mS1 n).hs.length = 2 by have := congrArg List.length (mS1_hs n hn20); simpa [tolds] using this] at q
              clear hN2 hR2 hO2
              go_wp2_with fail
              refine q.mono ?_
              rintro e w3 ⟨v3, rfl, ho3, hb3⟩
              obtain ⟨a3, d3, rfl⟩ := own_slice ho3
              have hsa := same_any _ _ [100 + (n : Int), -1] [100 + (n : Int), -1] (w3.alloc (.cells #[.int .i64 (100 + (n : Int)), .int .i64 (-1)] 3)) (own_is (ho3.alloc _)) (is_two w3 _ _) (by simp)
              rw [decide_eq_true rfl] at hsa
              have HB3 : Hid (Below w.heap.size w w3) := HB2.out.trans (hb3.mono HB2.out.size)
              have HF3 : Hid (Fam w3 w.heap.size (.slice (some ⟨g, 0, none⟩) k0 lc) bs mS1 (upd Fs3 n (Fs3 n))) := HF2.out.below hb3
              clear q ho3 hb3 c0
              go_wp2_with fail
              refine hsa.mono ?_
              rintro e w4 ⟨rfl, nq4, rfl⟩
              have HB4 : Hid (Below w.heap.size w ((w3.alloc (.cells #[.int .i64 (100 + (n : Int)), .int .i64 (-1)] 3)).drewN nq4)) := below_drewN (HB3.out.alloc HB3.out.size _) _
              have HF4 : Hid (Fam ((w3.alloc (.cells #[.int .i64 (100 + (n : Int)), .int .i64 (-1)] 3)).drewN nq4) w.heap.size (.slice (some ⟨g, 0, none⟩) k0 lc) bs mS1 (upd Fs3 n (Fs3 n))) := HF3.out.below (below_drewN ((Below.refl _ w3).alloc (Nat.le_refl _) _) _)
              clear hsa
              generalize ((w3.alloc (.cells #[.int .i64 (100 + (n : Int)), .int .i64 (-1)] 3)).drewN nq4) = w4 at HB4 HF4 ⊢
              clear HF3 HB3 HF2 HB2
              have c0 := HF4.out.cell rfl Hb9.out
              obtain ⟨N4, hN4, hR4, hO4⟩ := HF4.out.ok n b Hb9.out
              have q := queue_any w.heap.size b N4 (mS1 n) _ w4 hR4 (by rw [mS1_qs n hn20] at hN4; simp at hN4; omega)
              rw [mS1_qs n hn20] at q
              clear hN4 hR4 hO4
              go_wp2_with fail
              refine q.mono ?_
              rintro e w5 ⟨v5, rfl, ho5, hb5⟩
              obtain ⟨a5, d5, rfl⟩ := own_slice ho5
              have hsa := same_any _ _ [200 + (n : Int)] [200 + (n : Int)] (w5.alloc (.cells #[.int .i64 (200 + (n : Int))] 3)) (own_is (ho5.alloc _)) (is_one w5 _) (by simp)
              rw [decide_eq_true rfl] at hsa
              have HB5 : Hid (Below w.heap.size w w5) := HB4.out.trans (hb5.mono HB4.out.size)
              have HF5 : Hid (Fam w5 w.heap.size (.slice (some ⟨g, 0, none⟩) k0 lc) bs mS1 (upd Fs3 n (Fs3 n))) := HF4.out.below hb5
              clear q ho5 hb5 c0
              go_wp2_with fail
              refine hsa.mono ?_
              rintro e w6 ⟨rfl, nq6, rfl⟩
              have HB6 : Hid (Below w.heap.size w ((w5.alloc (.cells #[.int .i64 (200 + (n : Int))] 3)).drewN nq6)) := below_drewN (HB5.out.alloc HB5.out.size _) _
              have HF6 : Hid (Fam ((w5.alloc (.cells #[.int .i64 (200 + (n : Int))] 3)).drewN nq6) w.heap.size (.slice (some ⟨g, 0, none⟩) k0 lc) bs mS1 (upd Fs3 n (Fs3 n))) := HF5.out.below (below_drewN ((Below.refl _ w5).alloc (Nat.le_refl _) _) _)
              clear hsa
              generalize ((w5.alloc (.cells #[.int .i64 (200 + (n : Int))] 3)).drewN nq6) = w6 at HB6 HF6 ⊢
              clear HF5 HB5 HF4 HB4
              have c0 := HF6.out.cell rfl Hb9.out
              obtain ⟨N6, hN6, hR6, hO6⟩ := HF6.out.ok n b Hb9.out
              have q := frames_any w.heap.size b N6 0 (mS1 n) _ w6 hR6 HO.out
              rw [mS1_fr n hn20] at q
              clear hN6 hR6 hO6
              go_wp2_with fail
              refine q.mono ?_
              rintro e w7 ⟨v7, rfl, ho7, hb7⟩
              obtain ⟨a7, d7, rfl⟩ := own_slice ho7
              have hsa := same_any _ _ [2] [2] (w7.alloc (.cells #[.int .i64 2] 3)) (own_is (ho7.alloc _)) (is_one w7 _) (by simp)
              rw [decide_eq_true rfl] at hsa
              have HB7 : Hid (Below w.heap.size w w7) := HB6.out.trans (hb7.mono HB6.out.size)
              have HF7 : Hid (Fam w7 w.heap.size (.slice (some ⟨g, 0, none⟩) k0 lc) bs mS1 (upd Fs3 n (Fs3 n))) := HF6.out.below hb7
              clear q ho7 hb7 c0
              go_wp2_with fail
              refine hsa.mono ?_
              rintro e w8 ⟨rfl, nq8, rfl⟩
              have HB8 : Hid (Below w.heap.size w ((w7.alloc (.cells #[.int .i64 2] 3)).drewN nq8)) := below_drewN (HB7.out.alloc HB7.out.size _) _
              have HF8 : Hid (Fam ((w7.alloc (.cells #[.int .i64 2] 3)).drewN nq8) w.heap.size (.slice (some ⟨g, 0, none⟩) k0 lc) bs mS1 (upd Fs3 n (Fs3 n))) := HF7.out.below (below_drewN ((Below.refl _ w7).alloc (Nat.le_refl _) _) _)
              clear hsa
              go_wp2
              go_roundw
              case rel => exact ⟨n, _, by omega, by go_num, HF8.out, HB8.out⟩
              case measure => simp [intOf]
            · obtain rfl : k = 0 := by omega
              go_wp2
              go_ret
              exact ⟨rfl, HB.out⟩

end Go.Proofs.YtdlannfjnljbcaaGreatDoor

