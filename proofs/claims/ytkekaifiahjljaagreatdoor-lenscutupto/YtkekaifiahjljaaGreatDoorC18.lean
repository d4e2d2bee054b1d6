import Derived.Test.YtkekaifiahjljaaGreatDoorC17
set_option linter.unusedVariables false
set_option maxHeartbeats 8000000
set_option maxRecDepth 20000
namespace Go.Proofs.YtkekaifiahjljaaGreatDoor
open Go.RowKit Go.Shelf Go.Proofs.YtkekaifiahjljaaGreatDoor.Lt
structure Trl (p q : Nat) (fa : Nat → Nat) (v : Nat) (tr : List Nat) (a : Nat) : Prop where
  z : (tr ++ [a])[0]? = some v
  s : ∀ (i : Nat) x, tr[i]? = some x → (tr ++ [a])[i + 1]? = some (fa x)
  q : ∀ x, x ∈ tr ++ [a] → q ≤ x ∧ x < p
  d : (tr ++ [a]).Pairwise (fun x y => y < x)
  n : tr.length + a ≤ v
theorem Trl.start {p q : Nat} {fa : Nat → Nat} {v : Nat} (h1 : q ≤ v) (h2 : v < p) : Trl p q fa v [] v :=
  ⟨rfl, fun i x h => by simp at h, fun x hx => by have : x = v := by simpa using hx
                                                  rw [this]; exact ⟨h1, h2⟩, by simp, by simp⟩
theorem Trl.step {p q : Nat} {fa : Nat → Nat} {v : Nat} {tr : List Nat} {a : Nat} (h : Trl p q fa v tr a) (h1 : q ≤ fa a) (h2 : fa a < a) : Trl p q fa v (tr ++ [a]) (fa a) := by
  have hap := (h.q a (by simp)).2
  refine ⟨?_, fun i x hx => ?_, fun x hx => ?_, ?_, ?_⟩
  · rw [List.getElem?_append_left (by simp)]; exact h.z
  · rcases Nat.lt_or_ge i tr.length with h3 | h3
    · rw [List.getElem?_append_left h3] at hx
      rw [List.getElem?_append_left (by simp; omega)]
      exact h.s i x hx
    · rw [List.getElem?_append_right h3] at hx
      have h4 := (List.getElem?_eq_some_iff.1 hx).1
      simp at h4
      have h5 : i = tr.length := by omega
      subst h5
      simp at hx
      subst hx
      rw [List.getElem?_append_right (by simp)]
      simp
  · rcases List.mem_append.1 hx with h3 | h3
    · exact h.q x h3
    · have : x = fa a := by simpa using h3
      rw [this]; exact ⟨h1, by omega⟩
  · rw [List.pairwise_append]
    refine ⟨h.d, by simp, fun x hx y hy => ?_⟩
    have hy' : y = fa a := by simpa using hy
    rw [hy']
    rcases List.mem_append.1 hx with h3 | h3
    · have := (List.pairwise_append.1 h.d).2.2 x h3 a (by simp)
      omega
    · have : x = a := by simpa using h3
      omega
  · have := h.n
    rw [List.length_append]
    simp only [List.length_cons, List.length_nil]
    omega
theorem abv_ge {q v : Nat} {fa : Nat → Nat} (h : q ≤ v) : abv q fa v = (fa v : Int) := if_neg (by omega)
theorem abv_lt {q v : Nat} {fa : Nat → Nat} (h : v < q) : abv q fa v = -1 := if_pos h
theorem bst_ge {q v : Nat} {bs : Nat → Nat} (h : q ≤ v) : bst q bs v = (bs v : Int) := if_neg (by omega)
theorem bst_lt {q v : Nat} {bs : Nat → Nat} (h : v < q) : bst q bs v = (v : Int) := if_pos h
theorem abv_set {q x a : Nat} {fa : Nat → Nat} (h : q ≤ x) : (fun y => if y = x then (a : Int) else abv q fa y) = abv q (fun y => if y = x then a else fa y) := by
  funext y
  by_cases e : y = x
  · subst e
    simp only [abv, if_true]
    rw [if_neg (by omega)]
  · simp only [abv, if_neg e]
theorem bst_set {q x a : Nat} {bs : Nat → Nat} (h : q ≤ x) : (fun y => if y = x then (a : Int) else bst q bs y) = bst q (fun y => if y = x then a else bs y) := by
  funext y
  by_cases e : y = x
  · subst e
    simp only [bst, if_true]
    rw [if_neg (by omega)]
  · simp only [bst, if_neg e]
theorem il_cut {w : World} {B : Nat} {tv : Value} {l : List Int} (h : Il w B tv l) : ∃ a n c, tv = .slice a n c ∧ Il w B (.slice a 0 c) [] ∧ (Value.slice a 0 c).ownBlock = tv.ownBlock := by
  rcases h.2 with ⟨rfl, h0⟩ | ⟨g, cap, cur, rfl, hb, hg, hn, hm, hs, ht⟩
  · exact ⟨none, 0, 0, rfl, World.ownsRow_nil _ _ _ _, rfl⟩
  · exact ⟨_, _, _, rfl, row_cut0 h, rfl⟩
theorem Frs.push {w w3 w8 : World} {B fb p sb ab bb sc ac bc : Nat} {tv tv0 v8 : Value} {l : List Int} {sf af bf : Nat → Int} {x : Int} (h : Frs w3 B fb p sb ab bb sc ac bc tv l sf af bf) (hB : B ≤ w3.heap.size)
    (h8 : w8.ownsRow B 3 1 v8 (l.length + 1) (Kg.ints l ++ [.int .i64 x])) (g8 : (w3.alloc (.cells #[.int .i64 x] 3)).grownBy w8 tv.ownBlock) (e8 : v8.ownBlock = tv.ownBlock ∨ v8.ownBlock = some (w3.alloc (.cells #[.int .i64 x] 3)).heap.size)
    (ht : Kg.Touch (frF fb ab bb tv0) w w3) (h4 : ∀ k, tv.ownBlock = some k → tv0.ownBlock = some k ∨ w.heap.size ≤ k) :
    ∃ a8 c8, v8 = .slice a8 (l.length + 1) c8 ∧ w8.cell? ⟨fb, 3, none⟩ = some tv ∧ w8.frozen? ⟨fb, 3, none⟩ = false ∧ Hid (Frs (w8.setCell ⟨fb, 3, none⟩ v8) B fb p sb ab bb sc ac bc v8 (l ++ [x]) sf af bf ∧ Kg.Touch (frF fb ab bb tv0) w (w8.setCell ⟨fb, 3, none⟩ v8) ∧ (∀ k, v8.ownBlock = some k → tv0.ownBlock = some k ∨ w.heap.size ≤ k)) := by
  have hws := ht.size
  obtain ⟨s1, s2, -⟩ := Il.snoc h.t h8 g8 hB
  have h10 : (w3.alloc (.cells #[.int .i64 x] 3)).heap.size = w3.heap.size + 1 := by simp
  rw [h10] at e8
  have h11 : fb ∉ tv.ownBlock.toList := fun hm => by rw [Option.mem_toList] at hm; exact h.ne.2.2.2 fb hm rfl
  obtain ⟨a8, c8, e9⟩ := own_sl17 h8
  refine ⟨a8, c8, e9, Kg.heap_cell ((s2.block _ (Kg.heap_lt h.h) h11).trans h.h) 3, Kg.heap_frozen ((s2.block _ (Kg.heap_lt h.h) h11).trans h.h) 3, ?_, ?_, fun k hk => ?_⟩
  · refine h.setT s2 s1 (fun k hk => ?_)
    rcases e8 with h9 | h9
    · exact .inl (by rw [← h9]; exact hk)
    · rw [h9] at hk; cases hk; exact .inr (by omega)
  · refine ht.then ((s2.mono (G := fb :: tv.ownBlock.toList) (fun k hk => .inl (by simp [hk]))).trans (Kg.Touch.setCell (F := fb :: tv.ownBlock.toList) w8 ⟨fb, 3, none⟩ v8 (by simp))) (fun k hk => ?_)
    rcases List.mem_cons.1 hk with rfl | h9
    · exact .inl (by simp [frF])
    · rw [Option.mem_toList] at h9
      rcases h4 k h9 with h12 | h12
      · exact .inl (by simp [frF, h12])
      · exact .inr h12
  · rcases e8 with h9 | h9
    · exact h4 k (by rw [← h9]; exact hk)
    · rw [h9] at hk; cases hk; exact .inr (by omega)
theorem shorten_any {E : Nat → Nat → Prop} {par : Nat → Nat} {p : Nat} (D : Dt E par p) (hp2 : p ≤ 2000000) {q : Nat} {σ fa bs : Nat → Nat} (hF : Fo par p q σ fa bs) (v : Nat) (hv : q ≤ v) (hvp : v < p) (w : World) (B fb sb ab bb sc ac bc : Nat) (tv : Value) (l : List Int)
    (hR : Frs w B fb p sb ab bb sc ac bc tv l (fun x => (σ x : Int)) (abv q fa) (bst q bs)) (hB : B ≤ w.heap.size) :
    Calls Tryz.prog 188 #[.pointer (some ⟨fb, 0, none⟩), .int .i64 (v : Nat)] w fun e w' => e = .returned (.tuple #[]) ∧ ∃ (tv' : Value) (l' : List Int) (fa' bs' : Nat → Nat), Frs w' B fb p sb ab bb sc ac bc tv' l' (fun x => (σ x : Int)) (abv q fa') (bst q bs') ∧ Fo par p q σ fa' bs' ∧ fa' v < q ∧ Kg.Touch (frF fb ab bb tv) w w' ∧ (∀ k, tv'.ownBlock = some k → tv.ownBlock = some k ∨ w.heap.size ≤ k) := by
  obtain ⟨ta, tn, tc, rfl, hc1, hc2⟩ := il_cut hR.t
  obtain ⟨i0, hi0, hj0, hj1, hj2⟩ := info_p17 infoI17
  have HI : Hid (Tryz.prog.info? 3 = some i0 ∧ i0.zero = some (.int .i64 0) ∧ i0.size = 1 ∧ i0.bytes = 8) := ⟨hi0, hj0, hj1, hj2⟩
  clear hi0 hj0 hj1 hj2
  obtain ⟨x0, x1, x2, x3⟩ := hR.cells
  have z3 := Kg.heap_frozen hR.h 3
  have HR0 := hR.setT (w' := w) (Kg.Touch.refl _ _) hc1 (fun k hk => .inl (by rw [← hc2]; exact hk))
  have HR0' : Hid (Frs _ B fb p sb ab bb sc ac bc _ [] (fun x => (σ x : Int)) (abv q fa) (bst q bs)) := HR0
  have HT0 : Hid (Kg.Touch (frF fb ab bb (.slice ta tn tc)) w (w.setCell ⟨fb, 3, none⟩ (.slice ta 0 tc))) := Kg.Touch.setCell _ _ _ (by simp [frF])
  have HO0 : Hid (∀ k, (Value.slice ta 0 tc).ownBlock = some k → (Value.slice ta tn tc).ownBlock = some k ∨ w.heap.size ≤ k) := fun k hk => .inl (by rw [← hc2]; exact hk)
  have HD : Hid (Dt E par p) := D
  have HF : Hid (Fo par p q σ fa bs) := hF
  have HB : Hid (B ≤ w.heap.size) := hB
  clear hR hc1 hc2 HR0 D hF hB
  go_enter Tryz.func188, Tryz.ntmps188
  go_upto_region 1 with fail
  generalize w.setCell ⟨fb, 3, none⟩ (.slice ta 0 tc) = w1 at *
  generalize Value.slice ta 0 tc = tv1 at *
  go_loopw [1] (fun v1 wr => ∃ (a : Nat) (tr : List Nat) (tv' : Value), v1 = .int .i64 (a : Nat) ∧ Hid (Trl p q fa v tr a) ∧ Hid (Frs wr B fb p sb ab bb sc ac bc tv' (tr.map Int.ofNat) (fun x => (σ x : Int)) (abv q fa) (bst q bs)) ∧ Hid (Kg.Touch (frF fb ab bb (.slice ta tn tc)) w wr) ∧ Hid (∀ k, tv'.ownBlock = some k → (Value.slice ta tn tc).ownBlock = some k ∨ w.heap.size ≤ k)) (fun v1 _ => (intOf v1).toNat)
  case atStart => exact ⟨v, [], tv1, rfl, Trl.start hv hvp, HR0'.out, HT0.out, HO0.out⟩
  case round =>
    obtain ⟨a, tr, tv2, rfl, R1, R2, R3, R4⟩ := hrel
    have hqa := R1.out.q a (by simp)
    obtain ⟨y0, y1, y2, y3⟩ := R2.out.cells
    have z3 := Kg.heap_frozen R2.out.h 3
    have ca := R2.out.a.cell hqa.2
    rw [abv_ge hqa.1] at ca
    have hfa := HF.out.a a hqa.1 hqa.2
    have hfl := HD.out.lt hqa.2 hfa.1 hfa.2
    have hap : (a : Int) < (p : Int) := by omega
    have hfp : (fa a : Int) < (p : Int) := by omega
    have cf := R2.out.a.cell (x := fa a) (by omega)
    by_cases hq : q ≤ fa a
    · rw [abv_ge hq] at cf
      have g1 : ((fa (fa a) : Int) != -1) = true := bne_iff_ne.2 (by omega)
      obtain ⟨a2, c2, rfl⟩ := own_sl17 R2.out.t
      have htl : tr.length ≤ 2000000 := by have := R1.out.n; omega
      rw [List.length_map] at y3
      have HR2 : Hid (Frs wr B fb p sb ab bb sc ac bc (.slice a2 tr.length c2) (tr.map Int.ofNat) (fun x => (σ x : Int)) (abv q fa) (bst q bs)) := by have h9 := R2.out; rw [List.length_map] at h9; exact h9
      have HR4 : Hid (∀ k, (Value.slice a2 tr.length c2).ownBlock = some k → (Value.slice ta tn tc).ownBlock = some k ∨ w.heap.size ≤ k) := by have h9 := R4.out; rw [List.length_map] at h9; exact h9
      clear R2 R4
      go_upto_region 1 with fail
      go_quiet (fail)
      have HRd : Hid (Frs (wr.drewN nq) B fb p sb ab bb sc ac bc (.slice a2 tr.length c2) (tr.map Int.ofNat) (fun x => (σ x : Int)) (abv q fa) (bst q bs)) := HR2.out.drewN nq
      have HTd : Hid (Kg.Touch (frF fb ab bb (.slice ta tn tc)) w (wr.drewN nq)) := R3.out.trans (Kg.Touch.drewN _ _ _)
      clear HR2 R3 ca cf y0 y1 y2 y3 z3
      generalize wr.drewN nq = w3 at *
      obtain ⟨y0, y1, y2, y3⟩ := HRd.out.cells
      have z3 := Kg.heap_frozen HRd.out.h 3
      have HRow : Hid ((w3.alloc (.cells #[.int .i64 (a : Int)] 3)).ownsRow B 3 1 (.slice a2 tr.length c2) tr.length (Kg.ints (tr.map Int.ofNat))) := by
        have h9 := Il.below HRd.out.t (Below.alloc (Below.refl _ _) (Nat.le_refl _) (.cells #[.int .i64 (a : Int)] 3))
        unfold Il at h9
        rw [List.length_map] at h9
        exact h9
      have HP : Hid (∀ v8 w8, w8.ownsRow B 3 1 v8 (tr.length + 1) (Kg.ints (tr.map Int.ofNat) ++ [.int .i64 (a : Int)]) → (w3.alloc (.cells #[.int .i64 (a : Int)] 3)).grownBy w8 (Value.slice a2 tr.length c2).ownBlock → (v8.ownBlock = (Value.slice a2 tr.length c2).ownBlock ∨ v8.ownBlock = some (w3.alloc (.cells #[.int .i64 (a : Int)] 3)).heap.size) →
          ∃ a8 c8, v8 = .slice a8 (tr.length + 1) c8 ∧ w8.cell? ⟨fb, 3, none⟩ = some (.slice a2 tr.length c2) ∧ w8.frozen? ⟨fb, 3, none⟩ = false ∧ Hid (Frs (w8.setCell ⟨fb, 3, none⟩ v8) B fb p sb ab bb sc ac bc v8 ((tr ++ [a]).map Int.ofNat) (fun x => (σ x : Int)) (abv q fa) (bst q bs) ∧ Kg.Touch (frF fb ab bb (.slice ta tn tc)) w (w8.setCell ⟨fb, 3, none⟩ v8) ∧ (∀ k, v8.ownBlock = some k → (Value.slice ta tn tc).ownBlock = some k ∨ w.heap.size ≤ k))) := fun v8 w8 h8 g8 e8 => by
        have h9 := HRd.out.push (by have := HTd.out.size; have := HB.out; omega) (by rw [List.length_map]; exact h8) g8 e8 HTd.out HR4.out
        rw [List.length_map] at h9
        rw [List.map_append]
        exact h9
      go_upto_region 2 with (at_builtin; refine wpList_append_own_at _ rfl _ _ 24 rfl B 3 i0 (.int .i64 0) 1 8 Tryz.underlying24 HI.out.1 HI.out.2.1 HI.out.2.2.1 HI.out.2.2.2 rfl (by decide) _ _ _ rfl HRow.out ⟨w3.heap.size, 0, none⟩ 1 1 [.int .i64 (a : Int)] rfl rfl (cell_one17 _ _ _) (by simp [Value.oneCell']) (by simp only [maxLen]; omega) (by omega) (by have := HTd.out.size; have := HB.out; simp; omega) ?_; intro v8 w8 h8 g8 _ e8; obtain ⟨a8, c8, rfl, d8, z8, HN⟩ := HP.out v8 w8 h8 g8 e8; clear h8 g8 e8 HRow HP)
      generalize w8.setCell ⟨fb, 3, none⟩ (.slice a8 (tr.length + 1) c8) = w9 at *
      clear d8 z8
      obtain ⟨y0, y1, y2, y3⟩ := HN.out.1.cells
      have ca := HN.out.1.a.cell hqa.2
      rw [abv_ge hqa.1] at ca
      go_wp2
      go_roundw
      case rel => exact ⟨fa a, tr ++ [a], _, rfl, R1.out.step hq hfl, HN.out.1, HN.out.2.1, HN.out.2.2⟩
      case measure => simpa [intOf] using hfl
    · rw [abv_lt (by omega)] at cf
      have HQ : Hid (fa a < q) := (by omega : fa a < q)
      obtain ⟨a2, c2, rfl⟩ := own_sl17 R2.out.t
      have htl : tr.length ≤ 2000000 := by have := R1.out.n; omega
      rw [List.length_map] at y3
      have HR2 : Hid (Frs wr B fb p sb ab bb sc ac bc (.slice a2 tr.length c2) (tr.map Int.ofNat) (fun x => (σ x : Int)) (abv q fa) (bst q bs)) := by have h9 := R2.out; rw [List.length_map] at h9; exact h9
      have HR4 : Hid (∀ k, (Value.slice a2 tr.length c2).ownBlock = some k → (Value.slice ta tn tc).ownBlock = some k ∨ w.heap.size ≤ k) := by have h9 := R4.out; rw [List.length_map] at h9; exact h9
      clear R2 R4
      go_upto_region 1 with fail
      go_quiet (fail)
      have HRd : Hid (Frs (wr.drewN nq) B fb p sb ab bb sc ac bc (.slice a2 tr.length c2) (tr.map Int.ofNat) (fun x => (σ x : Int)) (abv q fa) (bst q bs)) := HR2.out.drewN nq
      have HTd : Hid (Kg.Touch (frF fb ab bb (.slice ta tn tc)) w (wr.drewN nq)) := R3.out.trans (Kg.Touch.drewN _ _ _)
      clear HR2 R3 ca cf y0 y1 y2 y3 z3
      generalize wr.drewN nq = w3 at *
      obtain ⟨y0, y1, y2, y3⟩ := HRd.out.cells
      go_upto_region 5 with fail
      have HOut : Hid (∀ x, x ∈ tr → a < x) := fun x hx => (List.pairwise_append.1 R1.out.d).2.2 x hx a (by simp)
      clear y0 y1 y2 y3
      go_loopw [4, 5, 6] (fun v4 _ _ wr => ∃ (n : Nat) (fa' bs' : Nat → Nat), v4 = .int .i64 ((n : Int) - 1) ∧ n ≤ tr.length ∧ Hid (Frs wr B fb p sb ab bb sc ac bc (.slice a2 tr.length c2) (tr.map Int.ofNat) (fun x => (σ x : Int)) (abv q fa') (bst q bs')) ∧ Hid (Fo par p q σ fa' bs') ∧ Hid (∀ (i : Nat) x, n ≤ i → tr[i]? = some x → fa' x < q) ∧ Hid (∀ x, (∀ i, n ≤ i → tr[i]? ≠ some x) → fa' x = fa x) ∧ Hid (Kg.Touch (frF fb ab bb (.slice ta tn tc)) w wr)) (fun v4 _ _ _ => (intOf v4 + 1).toNat)
      case atStart =>
        exact ⟨tr.length, fa, bs, rfl, Nat.le_refl _, HRd.out, HF.out, fun i x h1 h2 => by have := (List.getElem?_eq_some_iff.1 h2).1; omega, fun x _ => rfl, HTd.out⟩
      case round =>
        obtain ⟨n, fa1, bs1, rfl, hn, S1, S2, S3, S4, S5⟩ := hrel
        by_cases hn0 : n = 0
        · have g1 : decide ((0 : Int) ≤ (n : Int) - 1) = false := decide_eq_false (by omega)
          have FIN : Hid (∃ (tv' : Value) (l' : List Int) (fa' bs' : Nat → Nat), Frs wr B fb p sb ab bb sc ac bc tv' l' (fun x => (σ x : Int)) (abv q fa') (bst q bs') ∧ Fo par p q σ fa' bs' ∧ fa' v < q ∧ Kg.Touch (frF fb ab bb (.slice ta tn tc)) w wr ∧ (∀ k, tv'.ownBlock = some k → (Value.slice ta tn tc).ownBlock = some k ∨ w.heap.size ≤ k)) := by
            refine ⟨_, _, fa1, bs1, S1.out, S2.out, ?_, S5.out, HR4.out⟩
            have h9 := R1.out.z
            cases tr with
            | nil =>
              have e9 : a = v := by simpa using h9
              rw [S4.out v (fun i _ h => by simp at h), ← e9]
              exact HQ.out
            | cons z r =>
              have e9 : z = v := by simpa using h9
              exact S3.out 0 v (by omega) (by simp [e9])
          clear S1 S2 S3 S4 S5
          go_wp2
          refine bodyPost_end (v := .tuple #[]) ?_ rfl ⟨rfl, FIN.out⟩
          simp [results, Tryz.results188, go_sem]
          try rfl
        · obtain ⟨k, rfl⟩ : ∃ k, n = k + 1 := ⟨n - 1, by omega⟩
          have hk1 : ((k + 1 : Nat) : Int) - 1 = (k : Int) := by omega
          rw [hk1]
          have hkl : k < tr.length := by omega
          obtain ⟨x, hx⟩ : ∃ x, tr[k]? = some x := ⟨_, List.getElem?_eq_getElem hkl⟩
          have HX : Hid (tr[k]? = some x) := hx
          have hqx := R1.out.q x (List.mem_append_left _ (List.mem_of_getElem? hx))
          have hdis : ∀ i, k + 1 ≤ i → tr[i]? ≠ some x := fun i hi h => by
            have h1 := (List.pairwise_append.1 R1.out.d).1
            have h2 := (List.getElem?_eq_some_iff.1 h).1
            have h3 := List.pairwise_iff_getElem.1 h1 k i hkl h2 (by omega)
            rw [(List.getElem?_eq_some_iff.1 h).2, (List.getElem?_eq_some_iff.1 hx).2] at h3
            omega
          have HDis : Hid (∀ i, k + 1 ≤ i → tr[i]? ≠ some x) := hdis
          obtain ⟨u, hu⟩ : ∃ u, u = fa1 x := ⟨_, rfl⟩
          have huf : u = fa x := by rw [hu]; exact S4.out x hdis
          have hnx : (tr ++ [a])[k + 1]? = some u := by rw [huf]; exact R1.out.s k x hx
          have hqu := R1.out.q u (List.mem_of_getElem? hnx)
          have HUq : Hid (fa1 u < q) := by
            show _ < _
            rcases Nat.lt_or_ge (k + 1) tr.length with h1 | h1
            · rw [List.getElem?_append_left h1] at hnx
              exact S3.out (k + 1) u (Nat.le_refl _) hnx
            · have h2 : k + 1 = tr.length := by omega
              rw [h2, List.getElem?_append_right (Nat.le_refl _)] at hnx
              have h3 : u = a := by have : a = u := by simpa using hnx
                                    exact this.symm
              rw [h3, S4.out a (fun i _ h => by have := HOut.out a (List.mem_of_getElem? h); omega)]
              exact HQ.out
          have HU : Hid (u = fa1 x) := hu
          have hbx := S2.out.b x hqx.1 hqx.2
          have hbxp := HD.out.le hqx.2 hbx.2.2
          have hbu := S2.out.b u hqu.1 hqu.2
          have hbup := HD.out.le hqu.2 hbu.2.2
          obtain ⟨ra, rc, er, -, hrc⟩ := row_at (Kg.row_base S1.out.t (Nat.zero_le _)) (by decide)
          obtain ⟨tb, et, -, ct⟩ := hrc k (.int .i64 (x : Nat)) (by rw [Kg.ints, List.getElem?_map, List.getElem?_map, hx]; rfl)
          simp only [Value.slice.injEq, List.length_map, true_and] at er
          obtain ⟨rfl, rfl⟩ := er
          subst et
          obtain ⟨y0, y1, y2, y3⟩ := S1.out.cells
          have ca := S1.out.a.cell hqx.2
          rw [abv_ge hqx.1, ← hu] at ca
          have hki : (k : Int) < (tr.length : Int) := by omega
          have hxi : (x : Int) < (p : Int) := by omega
          have hui : (u : Int) < (p : Int) := by omega
          clear hdis hu huf hnx hx hrc hbx hbu
          have FO2 : Hid (Fo par p q σ (fun y => if y = x then fa1 (fa1 x) else fa1 y) (fun y => if y = x then (if σ (bs1 (fa1 x)) < σ (bs1 x) then bs1 (fa1 x) else bs1 x) else bs1 y)) := HD.out.fo_short S2.out hqx.1 hqx.2 (by rw [← HU.out]; exact hqu.1)
          have FS3 : Hid (∀ (i : Nat) z, k ≤ i → tr[i]? = some z → (if z = x then fa1 (fa1 x) else fa1 z) < q) := fun i z hi hz => by
            by_cases e : z = x
            · rw [if_pos e, ← HU.out]; exact HUq.out
            · rw [if_neg e]
              have h1 : i ≠ k := fun h1 => by rw [h1, HX.out] at hz; cases hz; exact e rfl
              exact S3.out i z (by omega) hz
          have FS4 : Hid (∀ z, (∀ i, k ≤ i → tr[i]? ≠ some z) → (if z = x then fa1 (fa1 x) else fa1 z) = fa z) := fun z hz => by
            have e : z ≠ x := fun e => hz k (Nat.le_refl _) (by rw [e]; exact HX.out)
            rw [if_neg e]
            exact S4.out z (fun i hi => hz i (by omega))
          rw [← HU.out] at FO2 FS3 FS4
          have cbx := S1.out.b.cell hqx.2
          have cbu := S1.out.b.cell hqu.2
          rw [bst_ge hqx.1] at cbx
          rw [bst_ge hqu.1] at cbu
          have csx := S1.out.s.cell (x := bs1 x) (by omega)
          have csu := S1.out.s.cell (x := bs1 u) (by omega)
          have hbxi : (bs1 x : Int) < (p : Int) := by omega
          have hbui : (bs1 u : Int) < (p : Int) := by omega
          have cau := S1.out.a.cell hqu.2
          rw [abv_ge hqu.1] at cau
          have zbx := S1.out.b.frozen x
          have zax := S1.out.a.frozen x
          clear HUq HU HX HDis S2 S3 S4
          by_cases hlt : σ (bs1 u) < σ (bs1 x)
          · rw [if_pos hlt] at FO2
            have g2 : decide ((σ (bs1 u) : Int) < (σ (bs1 x) : Int)) = true := decide_eq_true (by omega)
            go_wp2
            go_quiet (fail)
            have hF1 : Hid (Frs (wr.drewN nq) B fb p sb ab bb sc ac bc (.slice (some ⟨tb, 0, none⟩) tr.length c2) (tr.map Int.ofNat) (fun x => (σ x : Int)) (abv q fa1) (bst q bs1)) := S1.out.drewN nq
            have hT1 : Hid (Kg.Touch (frF fb ab bb (.slice ta tn tc)) w (wr.drewN nq)) := S5.out.trans (Kg.Touch.drewN _ _ _)
            clear y0 y1 y2 y3 ca ct csx csu cau cbx cbu zbx zax S1 S5
            generalize wr.drewN nq = w4 at *
            obtain ⟨y0, y1, y2, y3⟩ := hF1.out.cells
            have cbu := hF1.out.b.cell hqu.2
            have cbx := hF1.out.b.cell hqx.2
            rw [bst_ge hqx.1] at cbx
            rw [bst_ge hqu.1] at cbu
            have zbx := hF1.out.b.frozen x
            go_upto_region 10 with fail
            refine Kg.quiet_tail 13 Kg.mixed (by kernel_rfl) ?_
            simp only [List.take_succ_cons, List.take_zero, List.drop_succ_cons, List.drop_zero]
            repeat (go_big_quiet_step (fail))
            refine wpQuiet_nil ?_
            go_upto_region 11 with fail
            have hF2 : Hid (Frs (w4.setCell ⟨bb, x, none⟩ (.int .i64 (bs1 u : Nat))).drew B fb p sb ab bb sc ac bc (.slice (some ⟨tb, 0, none⟩) tr.length c2) (tr.map Int.ofNat) (fun x => (σ x : Int)) (abv q fa1) (bst q (fun y => if y = x then bs1 u else bs1 y))) := by
              have h9 := hF1.out.setB hqx.2 (bs1 u : Nat)
              rw [bst_set hqx.1] at h9
              exact h9.drewN 1
            have hT2 : Hid (Kg.Touch (frF fb ab bb (.slice ta tn tc)) w (w4.setCell ⟨bb, x, none⟩ (.int .i64 (bs1 u : Nat))).drew) := (hT1.out.trans (Kg.Touch.setCell _ ⟨bb, x, none⟩ _ (by simp [frF]))).trans (Kg.Touch.drew _ _)
            clear y0 y1 y2 y3 cbu cbx zbx hF1 hT1
            generalize (w4.setCell ⟨bb, x, none⟩ (.int .i64 (bs1 u : Nat))).drew = w5 at *
            obtain ⟨y0, y1, y2, y3⟩ := hF2.out.cells
            have cau := hF2.out.a.cell hqu.2
            have cax := hF2.out.a.cell hqx.2
            rw [abv_ge hqu.1] at cau
            rw [abv_ge hqx.1] at cax
            have zax := hF2.out.a.frozen x
            refine Kg.quiet_tail 13 Kg.mixed (by kernel_rfl) ?_
            simp only [List.take_succ_cons, List.take_zero, List.drop_succ_cons, List.drop_zero]
            repeat (go_big_quiet_step (fail))
            refine wpQuiet_nil ?_
            have hF3 : Hid (Frs (w5.setCell ⟨ab, x, none⟩ (.int .i64 (fa1 u : Nat))).drew B fb p sb ab bb sc ac bc (.slice (some ⟨tb, 0, none⟩) tr.length c2) (tr.map Int.ofNat) (fun x => (σ x : Int)) (abv q (fun y => if y = x then fa1 u else fa1 y)) (bst q (fun y => if y = x then bs1 u else bs1 y))) := by
              have h9 := hF2.out.setA hqx.2 (fa1 u : Nat)
              rw [abv_set hqx.1] at h9
              exact h9.drewN 1
            have hT3 : Hid (Kg.Touch (frF fb ab bb (.slice ta tn tc)) w (w5.setCell ⟨ab, x, none⟩ (.int .i64 (fa1 u : Nat))).drew) := (hT2.out.trans (Kg.Touch.setCell _ ⟨ab, x, none⟩ _ (by simp [frF]))).trans (Kg.Touch.drew _ _)
            clear y0 y1 y2 y3 hF2 hT2
            go_wp2
            go_roundw
            case rel => exact ⟨k, _, _, rfl, by omega, hF3.out, FO2.out, FS3.out, FS4.out, hT3.out⟩
            case measure => simp [intOf]
          · rw [if_neg hlt] at FO2
            have g2 : decide ((σ (bs1 u) : Int) < (σ (bs1 x) : Int)) = false := decide_eq_false (by omega)
            go_wp2
            go_quiet (fail)
            have hF2 : Hid (Frs (wr.drewN nq) B fb p sb ab bb sc ac bc (.slice (some ⟨tb, 0, none⟩) tr.length c2) (tr.map Int.ofNat) (fun x => (σ x : Int)) (abv q fa1) (bst q (fun y => if y = x then bs1 x else bs1 y))) := by
              have h9 := S1.out.drewN nq
              have h10 : (fun y => if y = x then bs1 x else bs1 y) = bs1 := by
                funext y
                by_cases e : y = x
                · rw [if_pos e, e]
                · rw [if_neg e]
              rw [h10]
              exact h9
            have hT2 : Hid (Kg.Touch (frF fb ab bb (.slice ta tn tc)) w (wr.drewN nq)) := S5.out.trans (Kg.Touch.drewN _ _ _)
            clear y0 y1 y2 y3 ca ct csx csu cau cbx cbu zbx zax S1 S5
            generalize wr.drewN nq = w5 at *
            go_upto_region 11 with fail
            obtain ⟨y0, y1, y2, y3⟩ := hF2.out.cells
            have cau := hF2.out.a.cell hqu.2
            have cax := hF2.out.a.cell hqx.2
            rw [abv_ge hqu.1] at cau
            rw [abv_ge hqx.1] at cax
            have zax := hF2.out.a.frozen x
            refine Kg.quiet_tail 13 Kg.mixed (by kernel_rfl) ?_
            simp only [List.take_succ_cons, List.take_zero, List.drop_succ_cons, List.drop_zero]
            repeat (go_big_quiet_step (fail))
            refine wpQuiet_nil ?_
            have hF3 : Hid (Frs (w5.setCell ⟨ab, x, none⟩ (.int .i64 (fa1 u : Nat))).drew B fb p sb ab bb sc ac bc (.slice (some ⟨tb, 0, none⟩) tr.length c2) (tr.map Int.ofNat) (fun x => (σ x : Int)) (abv q (fun y => if y = x then fa1 u else fa1 y)) (bst q (fun y => if y = x then bs1 x else bs1 y))) := by
              have h9 := hF2.out.setA hqx.2 (fa1 u : Nat)
              rw [abv_set hqx.1] at h9
              exact h9.drewN 1
            have hT3 : Hid (Kg.Touch (frF fb ab bb (.slice ta tn tc)) w (w5.setCell ⟨ab, x, none⟩ (.int .i64 (fa1 u : Nat))).drew) := (hT2.out.trans (Kg.Touch.setCell _ ⟨ab, x, none⟩ _ (by simp [frF]))).trans (Kg.Touch.drew _ _)
            clear y0 y1 y2 y3 hF2 hT2
            go_wp2
            go_roundw
            case rel => exact ⟨k, _, _, rfl, by omega, hF3.out, FO2.out, FS3.out, FS4.out, hT3.out⟩
            case measure => simp [intOf]
end Go.Proofs.YtkekaifiahjljaaGreatDoor
