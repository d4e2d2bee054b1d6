import Derived.Test.YtkekaifiahjljaaGreatDoorC33
import Derived.Test.YtkekaifiahjljaaGreatDoorC13
set_option linter.unusedVariables false
set_option maxHeartbeats 8000000
set_option maxRecDepth 20000
namespace Go.Proofs.YtkekaifiahjljaaGreatDoor
open Go.RowKit Go.Shelf Go.Proofs.YtkekaifiahjljaaGreatDoor.Lt
structure Hg (m : Nat) (seq : List Nat) (by' : Nat → Nat) : Prop where
  lt : ∀ x, x ∈ seq → x < m ∧ x ≠ 0
  up : ∀ (j : Nat) x, seq[j]? = some x → by' x = 0 ∨ by' x ∈ seq.take j
def far (seq : List Nat) (n : Nat) : Nat := if n = 0 then 0 else seq.idxOf n + 1
theorem Hg.far {m : Nat} {seq : List Nat} {by' : Nat → Nat} (h : Hg m seq by') {n : Nat} (hn : n ∈ seq) : far seq (by' n) < far seq n ∧ (by' n = 0 ∨ by' n ∈ seq) := by
  have h0 := (h.lt n hn).2
  have hi : seq[seq.idxOf n]? = some n := by
    have := List.idxOf_lt_length_iff.2 hn
    rw [List.getElem?_eq_getElem this, List.getElem_idxOf]
  unfold Proofs.YtkekaifiahjljaaGreatDoor.far
  rw [if_neg h0]
  rcases h.up _ n hi with h1 | h1
  · rw [if_pos h1]
    exact ⟨by omega, .inl h1⟩
  · have h2 : seq.idxOf (by' n) < seq.idxOf n := by
      obtain ⟨j, hj⟩ := List.getElem?_of_mem h1
      rw [List.getElem?_take] at hj
      by_cases e : j < seq.idxOf n
      · rw [if_pos e] at hj
        have h3 : seq.idxOf (by' n) ≤ j := by
          rcases Nat.lt_or_ge j (seq.idxOf (by' n)) with h4 | h4
          · exfalso
            have h5 := List.not_of_lt_findIdx (p := fun x => x == by' n) h4
            rw [List.getElem?_eq_getElem (List.getElem?_eq_some_iff.1 hj).1] at hj
            simp only [Option.some.injEq] at hj
            rw [hj] at h5
            simp at h5
          · exact h4
        omega
      · rw [if_neg e] at hj; cases hj
    refine ⟨?_, .inr (List.mem_of_mem_take h1)⟩
    split <;> omega
structure Tr (seq : List Nat) (by' : Nat → Nat) (N : List Nat) (S : Nat → Bool) (n : Nat) : Prop where
  m : ∀ x, S x = true ↔ x ∈ N
  nd : N.Nodup
  i : ∀ x, x ∈ N → x ∈ seq
  c : ∀ x, x ∈ N → by' x ≠ 0 → by' x ∈ N ∨ by' x = n
  n : n = 0 ∨ n ∈ seq
theorem Tr.next {m : Nat} {seq : List Nat} {by' : Nat → Nat} {N : List Nat} {S : Nat → Bool} {n : Nat} (h : Tr seq by' N S n) (hg : Hg m seq by') (h0 : n ≠ 0) (hs : S n = false) : Tr seq by' (N ++ [n]) (fun x => if x = n then true else S x) (by' n) := by
  have hn := h.n.resolve_left h0
  have hN : n ∉ N := fun e => by have := (h.m n).2 e; rw [hs] at this; cases this
  refine ⟨fun x => ?_, ?_, fun x hx => ?_, fun x hx hb => ?_, (hg.far hn).2⟩
  · by_cases e : x = n
    · subst e; simp
    · rw [if_neg e, h.m, List.mem_append]
      exact ⟨.inl, fun h1 => h1.resolve_right (fun h2 => e (List.mem_singleton.1 h2))⟩
  · rw [List.nodup_append]
    exact ⟨h.nd, by simp, fun a ha b hb => by rw [List.mem_singleton.1 hb]; exact fun e => hN (by rw [← e]; exact ha)⟩
  · rcases List.mem_append.1 hx with h1 | h1
    · exact h.i x h1
    · rw [List.mem_singleton.1 h1]; exact hn
  · rcases List.mem_append.1 hx with h1 | h1
    · rcases h.c x h1 hb with h2 | h2
      · exact .inl (List.mem_append_left _ h2)
      · exact .inl (by rw [h2]; simp)
    · rw [List.mem_singleton.1 h1]; exact .inr rfl
theorem Tr.stop {seq : List Nat} {by' : Nat → Nat} {N : List Nat} {S : Nat → Bool} {n : Nat} (h : Tr seq by' N S n) (he : n = 0 ∨ S n = true) (n' : Nat) (hn : n' = 0 ∨ n' ∈ seq) : Tr seq by' N S n' :=
  ⟨h.m, h.nd, h.i, fun x hx hb => by
    rcases h.c x hx hb with h1 | h1
    · exact .inl h1
    · rcases he with h2 | h2
      · exact absurd (h1.trans h2) hb
      · exact .inl (by rw [h1]; exact (h.m n).1 h2), hn⟩
theorem Tr.len {m : Nat} {seq : List Nat} {by' : Nat → Nat} {N : List Nat} {S : Nat → Bool} {n : Nat} (h : Tr seq by' N S n) (hg : Hg m seq by') : N.length ≤ m := by
  have h1 := List.Nodup.length_le_of_subset h.nd (fun x hx => List.mem_range.2 (hg.lt x (h.i x hx)).1)
  rw [List.length_range] at h1
  exact h1
structure Ts (w : World) (B c1 c2 c3 lb bb m : Nat) (v : Value) (N : List Nat) (S : Nat → Bool) (f : Nat → Int) : Prop where
  h1 : w.heap[c1]? = some (.cells #[.slice (some ⟨lb, 0, none⟩) m m] 41 (0, 0))
  h2 : w.heap[c2]? = some (.cells #[.slice (some ⟨bb, 0, none⟩) m m] 24 (0, 0))
  h3 : w.heap[c3]? = some (.cells #[v] 24 (0, 0))
  l : Fb w lb m S
  b : Fy w bb m f
  n : Il w B v (N.map Int.ofNat)
  d : c2 ≠ c3 ∧ bb < B ∧ B ≤ c1 ∧ B ≤ c2 ∧ B ≤ c3 ∧ B ≤ lb
theorem block_ne {w : World} {b c t u : Nat} {cs ds : Array Value} (h : w.heap[b]? = some (.cells cs t (0, 0))) (h' : w.heap[c]? = some (.cells ds u (0, 0))) (htu : t ≠ u) : b ≠ c := fun e => by
  subst e
  rw [h] at h'
  simp only [Option.some.injEq, Obj.cells.injEq] at h'
  exact htu h'.2.1
theorem Ts.mark {w : World} {B c1 c2 c3 lb bb m : Nat} {v : Value} {N : List Nat} {S : Nat → Bool} {f : Nat → Int} (h : Ts w B c1 c2 c3 lb bb m v N S f) {x : Nat} (hx : x < m) : Ts (w.setCell ⟨lb, x, none⟩ (.bool true)) B c1 c2 c3 lb bb m v N (fun y => if y = x then true else S y) f ∧ Below B w (w.setCell ⟨lb, x, none⟩ (.bool true)) := by
  obtain ⟨cs, hl, -⟩ := id h.l.ex
  have tS : Kg.Touch [lb] w (w.setCell ⟨lb, x, none⟩ (.bool true)) := Kg.Touch.setCell _ _ _ (by simp)
  obtain ⟨bs, hb, -⟩ := id h.b.ex
  have k1 : c1 ∉ [lb] := by simp only [List.mem_singleton]; exact block_ne h.h1 hl (by decide)
  have k2 : c2 ∉ [lb] := by simp only [List.mem_singleton]; exact block_ne h.h2 hl (by decide)
  have k3 : c3 ∉ [lb] := by simp only [List.mem_singleton]; exact block_ne h.h3 hl (by decide)
  have k4 : bb ∉ [lb] := by simp only [List.mem_singleton]; exact block_ne hb hl (by decide)
  have k5 : some lb ≠ v.ownBlock := row_ne2 hl h.n (by decide)
  exact ⟨⟨(tS.block _ (Kg.heap_lt h.h1) k1).trans h.h1, (tS.block _ (Kg.heap_lt h.h2) k2).trans h.h2, (tS.block _ (Kg.heap_lt h.h3) k3).trans h.h3, h.l.set hx true, h.b.touch tS k4, Kg.row_keep2 h.n tS (fun k hk => by simp only [List.mem_singleton]; exact fun e => k5 (by rw [hk, e])), h.d⟩, tS.below (Nat.le_of_lt (Nat.lt_of_le_of_lt h.d.2.2.2.2.2 (Kg.heap_lt hl))) (fun k hk => by rw [List.mem_singleton.1 hk]; exact h.d.2.2.2.2.2)⟩
theorem Ts.put {w w8 : World} {B c1 c2 c3 lb bb m : Nat} {v v8 : Value} {N : List Nat} {S : Nat → Bool} {f : Nat → Int} (h : Ts w B c1 c2 c3 lb bb m v N S f) {x : Nat} (ho : Il w8 B v8 ((N ++ [x]).map Int.ofNat)) (ht : Kg.Touch v.ownBlock.toList w w8) : w8.cell? ⟨c3, 0, none⟩ = some v ∧ w8.frozen? ⟨c3, 0, none⟩ = false ∧ Hid (Ts (w8.setCell ⟨c3, 0, none⟩ v8) B c1 c2 c3 lb bb m v8 (N ++ [x]) S f ∧ Below B w (w8.setCell ⟨c3, 0, none⟩ v8)) := by
  obtain ⟨cs, hl, -⟩ := id h.l.ex
  obtain ⟨bs, hb, -⟩ := id h.b.ex
  have nn : ∀ {c t : Nat} {cs : Array Value}, w.heap[c]? = some (.cells cs t (0, 0)) → t ≠ 3 → c ∉ v.ownBlock.toList := fun hc htt hm => by
    rw [Option.mem_toList] at hm
    exact row_ne2 hc h.n htt hm.symm
  have q1 := (ht.block _ (Kg.heap_lt h.h1) (nn h.h1 (by decide))).trans h.h1
  have q2 := (ht.block _ (Kg.heap_lt h.h2) (nn h.h2 (by decide))).trans h.h2
  have q3 := (ht.block _ (Kg.heap_lt h.h3) (nn h.h3 (by decide))).trans h.h3
  have ql := h.l.touch ht (nn hl (by decide))
  have qb := h.b.touch ht (fun hm => by
    rw [Option.mem_toList] at hm
    have h1 := (World.ownsRow.lt h.n _ hm).1
    have h2 := h.d.2.1
    omega)
  have hl8 := (ht.block _ (Kg.heap_lt hl) (nn hl (by decide))).trans hl
  have tS : Kg.Touch [c3] w8 (w8.setCell ⟨c3, 0, none⟩ v8) := Kg.Touch.setCell _ _ _ (by simp)
  have k1 : c1 ∉ [c3] := by simp only [List.mem_singleton]; exact block_ne q1 q3 (by decide)
  have k2 : c2 ∉ [c3] := by simp only [List.mem_singleton]; exact h.d.1
  have k3 : lb ∉ [c3] := by simp only [List.mem_singleton]; exact block_ne hl8 q3 (by decide)
  have k4 : bb ∉ [c3] := by
    simp only [List.mem_singleton]
    have h1 := h.d.2.1
    have h2 := h.d.2.2.2.2.1
    omega
  have k5 : some c3 ≠ v8.ownBlock := row_ne2 q3 ho (by decide)
  have hB : B ≤ w.heap.size := Nat.le_of_lt (Nat.lt_of_le_of_lt h.d.2.2.2.2.2 (Kg.heap_lt hl))
  refine ⟨Kg.heap_cell q3 0, Kg.heap_frozen q3 0, ⟨(tS.block _ (Kg.heap_lt q1) k1).trans q1, (tS.block _ (Kg.heap_lt q2) k2).trans q2, ?_, ql.touch tS k3, qb.touch tS k4, Kg.row_keep2 ho tS (fun k hk => by simp only [List.mem_singleton]; exact fun e => k5 (by rw [hk, e])), h.d⟩, ?_⟩
  · rw [Kg.heap_set q3]; rfl
  · exact ((ht.below hB (fun k hk => by rw [Option.mem_toList] at hk; exact (World.ownsRow.lt h.n k hk).1))).trans (tS.below (Nat.le_of_lt (Nat.lt_of_le_of_lt h.d.2.2.2.2.1 (Kg.heap_lt q3))) (fun k hk => by rw [List.mem_singleton.1 hk]; exact h.d.2.2.2.2.1))
def Kp (w w' : World) : Prop := ∀ (X : Nat) (cs : Array Value), w.heap[X]? = some (Obj.cells cs 156 (0, 0)) → w'.heap[X]? = some (Obj.cells cs 156 (0, 0))
theorem Ts.mark_kp {w : World} {B c1 c2 c3 lb bb m : Nat} {v : Value} {N : List Nat} {S : Nat → Bool} {f : Nat → Int} (h : Ts w B c1 c2 c3 lb bb m v N S f) (x : Nat) (u : Value) : Kp w (w.setCell ⟨lb, x, none⟩ u) := fun X cs hX => by
  obtain ⟨ds, hl, -⟩ := id h.l.ex
  have tS : Kg.Touch [lb] w (w.setCell ⟨lb, x, none⟩ u) := Kg.Touch.setCell _ _ _ (by simp)
  exact (tS.block _ (Kg.heap_lt hX) (by simp only [List.mem_singleton]; exact block_ne hX hl (by decide))).trans hX
theorem Ts.put_kp {w w8 : World} {B c1 c2 c3 lb bb m : Nat} {v : Value} {N : List Nat} {S : Nat → Bool} {f : Nat → Int} (h : Ts w B c1 c2 c3 lb bb m v N S f) (u : Value) (ht : Kg.Touch v.ownBlock.toList w w8) : Kp w (w8.setCell ⟨c3, 0, none⟩ u) := fun X cs hX => by
  have tS : Kg.Touch [c3] w8 (w8.setCell ⟨c3, 0, none⟩ u) := Kg.Touch.setCell _ _ _ (by simp)
  have h8 := (ht.block _ (Kg.heap_lt hX) (fun hm => by rw [Option.mem_toList] at hm; exact row_ne2 hX h.n (by decide) hm.symm)).trans hX
  exact (tS.block _ (Kg.heap_lt h8) (by simp only [List.mem_singleton]; exact block_ne hX h.h3 (by decide))).trans h8
theorem trail_any (B c1 c2 c3 lb bb m : Nat) (hm : m ≤ 2000001) (v : Value) (N : List Nat) (S : Nat → Bool) (f : Nat → Int) (seq : List Nat) (by' : Nat → Nat) (hg : Hg m seq by') (hf : ∀ x, x ∈ seq → f x = (by' x : Nat)) (x : Nat) (w : World) (ht : Ts w B c1 c2 c3 lb bb m v N S f) (hr : Tr seq by' N S x) :
    Calls Tryz.prog 122 #[.int .i64 (x : Nat), .pointer (some ⟨c1, 0, none⟩), .pointer (some ⟨c2, 0, none⟩), .pointer (some ⟨c3, 0, none⟩)] w fun e w' => e = .returned (.tuple #[]) ∧ ∃ v' N' S' y, Ts w' B c1 c2 c3 lb bb m v' N' S' f ∧ Tr seq by' N' S' y ∧ (y = 0 ∨ S' y = true) ∧ (∀ z, z ∈ N → z ∈ N') ∧ (x = 0 ∨ x ∈ N') ∧ Below B w w' ∧ Kp w w' := by
  have HT : Hid (Ts w B c1 c2 c3 lb bb m v N S f) := ht
  have HR : Hid (Tr seq by' N S x) := hr
  have HG : Hid (Hg m seq by') := hg
  have HF : Hid (∀ x, x ∈ seq → f x = (by' x : Nat)) := hf
  clear ht hr hg hf
  obtain ⟨i0, hi0, hj0, hj1, hj2⟩ := info_p17 infoI17
  have HI : Hid (Tryz.prog.info? 3 = some i0 ∧ i0.zero = some (.int .i64 0) ∧ i0.size = 1 ∧ i0.bytes = 8) := ⟨hi0, hj0, hj1, hj2⟩
  clear hi0 hj0 hj1 hj2
  go_enter Tryz.func122, Tryz.ntmps122
  go_wp2
  go_loopw [0] (fun v0 wr => ∃ (y : Nat) (v1 : Value) (N1 : List Nat) (S1 : Nat → Bool), v0 = .int .i64 (y : Nat) ∧ Hid (Ts wr B c1 c2 c3 lb bb m v1 N1 S1 f) ∧ Hid (Tr seq by' N1 S1 y) ∧ Hid (∀ z, z ∈ N → z ∈ N1) ∧ Hid (x = 0 ∨ x ∈ N1 ∨ y = x) ∧ Hid (Below B w wr) ∧ Hid (Kp w wr)) (fun v0 _ => far seq (intOf v0).toNat)
  case atStart => exact ⟨x, v, N, S, rfl, HT.out, HR.out, fun z hz => hz, .inr (.inr rfl), Below.refl _ _, fun X cs h => h⟩
  case round =>
    obtain ⟨y, v1, N1, S1, rfl, T1, R1, I1, X1, B1, K1⟩ := hrel
    have d1 : wr.cell? ⟨c1, 0, none⟩ = some (.slice (some ⟨lb, 0, none⟩) m m) := Kg.heap_cell T1.out.h1 0
    have d2 : wr.cell? ⟨c2, 0, none⟩ = some (.slice (some ⟨bb, 0, none⟩) m m) := Kg.heap_cell T1.out.h2 0
    have d3 : wr.cell? ⟨c3, 0, none⟩ = some v1 := Kg.heap_cell T1.out.h3 0
    by_cases h0 : y = 0
    · subst h0
      have HE : Hid (∃ v' N' S' y, Ts wr B c1 c2 c3 lb bb m v' N' S' f ∧ Tr seq by' N' S' y ∧ (y = 0 ∨ S' y = true) ∧ (∀ z, z ∈ N → z ∈ N') ∧ (x = 0 ∨ x ∈ N') ∧ Below B w wr ∧ Kp w wr) := ⟨v1, N1, S1, 0, T1.out, R1.out, .inl rfl, I1.out, by rcases X1.out with h | h | h; exact .inl h; exact .inr h; exact .inl h.symm, B1.out, K1.out⟩
      clear T1 R1 I1 X1 B1
      go_wp2
      go_end0
      exact ⟨rfl, HE.out⟩
    · have hys : y ∈ seq := R1.out.n.resolve_left h0
      have hym : y < m := (HG.out.lt y hys).1
      have g0 : ((y : Int) != 0) = true := bne_iff_ne.2 (by omega)
      have cl := T1.out.l.cell hym
      have HY : Hid (y ≠ 0 ∧ y ∈ seq) := ⟨h0, hys⟩
      by_cases hS : S1 y = true
      · rw [hS] at cl
        have HE : Hid (∃ v' N' S' y, Ts wr B c1 c2 c3 lb bb m v' N' S' f ∧ Tr seq by' N' S' y ∧ (y = 0 ∨ S' y = true) ∧ (∀ z, z ∈ N → z ∈ N') ∧ (x = 0 ∨ x ∈ N') ∧ Below B w wr ∧ Kp w wr) := ⟨v1, N1, S1, y, T1.out, R1.out, .inr hS, I1.out, by rcases X1.out with h | h | h; exact .inl h; exact .inr h; exact .inr (by rw [← h]; exact (R1.out.m y).1 hS), B1.out, K1.out⟩
        clear T1 R1 I1 X1 B1 h0 hys hS
        go_wp2
        go_end0
        exact ⟨rfl, HE.out⟩
      · have hS : S1 y = false := by simpa using hS
        rw [hS] at cl
        have fl := T1.out.l.frozen y
        obtain ⟨M1, M2⟩ := T1.out.mark hym
        have HM : Hid (Ts (wr.setCell ⟨lb, y, none⟩ (.bool true)) B c1 c2 c3 lb bb m v1 N1 (fun z => if z = y then true else S1 z) f ∧ Below B w (wr.setCell ⟨lb, y, none⟩ (.bool true))) := ⟨M1, B1.out.trans M2⟩
        have HK2 : Hid (Kp w (wr.setCell ⟨lb, y, none⟩ (.bool true))) := fun X cs hX => T1.out.mark_kp y _ X cs (K1.out X cs hX)
        have HR2 : Hid (Tr seq by' (N1 ++ [y]) (fun z => if z = y then true else S1 z) (by' y)) := R1.out.next HG.out HY.out.1 hS
        have HFr : Hid (far seq (by' y) < far seq y ∧ f y = (by' y : Nat)) := ⟨(HG.out.far hys).1, HF.out y hys⟩
        clear M1 M2 h0 hys hS T1 R1 K1
        go_upto_region 3 with fail
        have HB2 : Hid (B ≤ (wr.setCell ⟨lb, y, none⟩ (.bool true)).heap.size ∧ N1.length ≤ 2000001) := ⟨Nat.le_trans HT.out.d.2.2.2.2.2 (Nat.le_trans (Nat.le_of_lt HT.out.l.lt) HM.out.2.size), by
          have h1 := HR2.out.len HG.out
          rw [List.length_append] at h1
          omega⟩
        clear d1 d2 d3 cl fl B1 hS
        generalize wr.setCell ⟨lb, y, none⟩ (.bool true) = w2 at *
        have d1 : w2.cell? ⟨c1, 0, none⟩ = some (.slice (some ⟨lb, 0, none⟩) m m) := Kg.heap_cell HM.out.1.h1 0
        have d3 : w2.cell? ⟨c3, 0, none⟩ = some v1 := Kg.heap_cell HM.out.1.h3 0
        obtain ⟨a1, e1, rfl⟩ := own_sl17 HM.out.1.n
        rw [List.length_map] at d3 HM
        have HRow : Hid ((w2.alloc (.cells #[.int .i64 (y : Nat)] 3)).ownsRow B 3 1 (.slice a1 N1.length e1) N1.length (Kg.ints (N1.map Int.ofNat))) := by
          have h9 := Il.below HM.out.1.n (Below.alloc (Below.refl w2.heap.size w2) (Nat.le_refl _) (.cells #[.int .i64 (y : Nat)] 3))
          unfold Il at h9
          rw [List.length_map] at h9
          exact h9
        have HP : Hid (∀ v8 w8, w8.ownsRow B 3 1 v8 (N1.length + 1) (Kg.ints (N1.map Int.ofNat) ++ [.int .i64 (y : Nat)]) → (w2.alloc (.cells #[.int .i64 (y : Nat)] 3)).grownBy w8 (Value.slice a1 N1.length e1).ownBlock → w8.cell? ⟨c3, 0, none⟩ = some (.slice a1 N1.length e1) ∧ w8.frozen? ⟨c3, 0, none⟩ = false ∧ Hid (Ts (w8.setCell ⟨c3, 0, none⟩ v8) B c1 c2 c3 lb bb m v8 (N1 ++ [y]) (fun z => if z = y then true else S1 z) f ∧ Below B w (w8.setCell ⟨c3, 0, none⟩ v8) ∧ Kp w (w8.setCell ⟨c3, 0, none⟩ v8))) := fun v8 w8 h8 g8 => by
          obtain ⟨y1, y2, -⟩ := Il.snoc (x := (y : Nat)) HM.out.1.n (by rw [List.length_map]; exact h8) g8 HB2.out.1
          have e9 : (N1 ++ [y]).map Int.ofNat = N1.map Int.ofNat ++ [(y : Int)] := by rw [List.map_append]; rfl
          rw [← e9] at y1
          obtain ⟨q1, q2, q3⟩ := HM.out.1.put y1 y2
          exact ⟨q1, q2, q3.out.1, HM.out.2.trans q3.out.2, fun X cs hX => HM.out.1.put_kp v8 y2 X cs (HK2.out X cs hX)⟩
        have hl1 := HB2.out.2
        go_upto_region 1 with (at_builtin; refine wpList_append_own_at _ rfl _ _ 24 rfl B 3 i0 (.int .i64 0) 1 8 Tryz.underlying24 HI.out.1 HI.out.2.1 HI.out.2.2.1 HI.out.2.2.2 rfl (by decide) _ _ _ rfl HRow.out ⟨w2.heap.size, 0, none⟩ 1 1 [.int .i64 (y : Nat)] rfl rfl (cell_one17 _ _ _) (by simp [Value.oneCell']) (by simp only [maxLen]; omega) (by omega) (by have := HB2.out.1; simp; omega) ?_; intro v8 w8 h8 g8 e8 d8; obtain ⟨a8, e8', rfl⟩ := own_sl17 h8; obtain ⟨z1, z2, HZ⟩ := HP.out _ w8 h8 g8; clear HP HRow h8 g8 e8 d8)
        clear z1 z2 d1 d3 HM
        generalize w8.setCell ⟨c3, 0, none⟩ (.slice a8 (N1.length + 1) e8') = w9 at *
        have d2 : w9.cell? ⟨c2, 0, none⟩ = some (.slice (some ⟨bb, 0, none⟩) m m) := Kg.heap_cell HZ.out.1.h2 0
        have d4 := HZ.out.1.b.cell hym
        rw [HFr.out.2] at d4
        have HX : Hid (x = 0 ∨ x ∈ N1 ++ [y] ∨ by' y = x) := by
          rcases X1.out with h | h | h
          · exact .inl h
          · exact .inr (.inl (List.mem_append_left _ h))
          · exact .inr (.inl (by rw [← h]; simp))
        clear X1
        go_wp2
        go_roundw
        case rel => exact ⟨by' y, .slice a8 (N1.length + 1) e8', N1 ++ [y], fun z => if z = y then true else S1 z, rfl, HZ.out.1, HR2.out, fun z hz => List.mem_append_left _ (I1.out z hz), HX.out, HZ.out.2.1, HZ.out.2.2⟩
        case measure =>
          have h9 := HFr.out.1
          simpa [intOf] using h9
theorem Ts.below {w w' : World} {B c1 c2 c3 lb bb m : Nat} {v : Value} {N : List Nat} {S : Nat → Bool} {f : Nat → Int} (h : Ts w B c1 c2 c3 lb bb m v N S f) (hb : Below w.heap.size w w') : Ts w' B c1 c2 c3 lb bb m v N S f :=
  ⟨(hb.block _ (Kg.heap_lt h.h1)).trans h.h1, (hb.block _ (Kg.heap_lt h.h2)).trans h.h2, (hb.block _ (Kg.heap_lt h.h3)).trans h.h3, h.l.below hb, h.b.touch (Kg.Touch.of_below hb []) (List.not_mem_nil), Kg.row_keep2 h.n (Kg.Touch.of_below hb []) (fun _ _ => List.not_mem_nil), h.d⟩
theorem needed_any (n0 m : Nat) (hm : m ≤ 2000001) (bb : Nat) (f : Nat → Int) (seq : List Nat) (by' : Nat → Nat) (hg : Hg m seq by') (hf : ∀ x, x ∈ seq → f x = (by' x : Nat)) (vh : Value) (H : List Ep) (hH : ∀ e, e ∈ H → e.1 ∈ seq ∧ e.2.1 ∈ seq) (hl : H.length ≤ 2000000) (w : World) (hb : Fy w bb m f) (hh : Eo w n0 vh H) :
    Calls Tryz.prog 72 #[.slice (some ⟨bb, 0, none⟩) m m, vh] w fun e w' => ∃ (v : Value) (N : List Nat), e = .returned v ∧ Il w' w.heap.size v (N.map Int.ofNat) ∧ Below w.heap.size w w' ∧ N.length ≤ m ∧ (∀ x, x ∈ N → x ∈ seq) ∧ (∀ x, x ∈ N → by' x ≠ 0 → by' x ∈ N) ∧ (∀ e, e ∈ H → e.1 ∈ N ∧ e.2.1 ∈ N) := by
  obtain ⟨ha, hc, rfl, hp⟩ := hh.at_
  have HC : Hid (∀ wr, Below w.heap.size w wr → ∀ (i : Nat) e, H[i]? = some e → ∃ q, ha = some ⟨q, 0, none⟩ ∧ wr.cell? ⟨q, i * 3, none⟩ = some (.int .i64 (e.1 : Nat)) ∧ wr.cell? ⟨q, i * 3 + 1, none⟩ = some (.int .i64 (e.2.1 : Nat)) ∧ wr.cell? ⟨q, i * 3 + 2, none⟩ = some (.int .i64 (e.2.2 : Nat))) := fun wr b i e he => by
    obtain ⟨q, h1, -, h2, h3, h4, h5⟩ := hp i e he
    exact ⟨q, h1, (Below.cell (p := ⟨q, i * 3, none⟩) b h2).trans h3, (Below.cell (p := ⟨q, i * 3 + 1, none⟩) b h2).trans h4, (Below.cell (p := ⟨q, i * 3 + 2, none⟩) b h2).trans h5⟩
  have HB : Hid (Fy w bb m f) := hb
  have HHs : Hid (∀ e, e ∈ H → e.1 ∈ seq ∧ e.2.1 ∈ seq) := hH
  have HG : Hid (Hg m seq by') := hg
  have HF : Hid (∀ x, x ∈ seq → f x = (by' x : Nat)) := hf
  clear hb hh hH hg hf hp
  go_enter Tryz.func72, Tryz.ntmps72
  go_upto_region 2 with fail
  have b1 : Below w.heap.size w ((w.alloc (.cells #[.slice (some ⟨bb, 0, none⟩) m m] 24)).alloc (.cells #[.slice none 0 0] 24)) := (Below.alloc (Below.refl _ _) (Nat.le_refl _) _).trans (Below.alloc (Below.refl _ _) (by simp) _)
  have HB1 : Hid (Below w.heap.size w ((w.alloc (.cells #[.slice (some ⟨bb, 0, none⟩) m m] 24)).alloc (.cells #[.slice none 0 0] 24))) := b1
  have HX1 : Hid (((w.alloc (.cells #[.slice (some ⟨bb, 0, none⟩) m m] 24)).alloc (.cells #[.slice none 0 0] 24)).heap[w.heap.size]? = some (.cells #[.slice (some ⟨bb, 0, none⟩) m m] 24 (0, 0)) ∧ ((w.alloc (.cells #[.slice (some ⟨bb, 0, none⟩) m m] 24)).alloc (.cells #[.slice none 0 0] 24)).heap[w.heap.size + 1]? = some (.cells #[.slice none 0 0] 24 (0, 0)) ∧ ((w.alloc (.cells #[.slice (some ⟨bb, 0, none⟩) m m] 24)).alloc (.cells #[.slice none 0 0] 24)).heap.size = w.heap.size + 2) := by
    refine ⟨?_, ?_, by simp⟩
    · exact (Below.block (Below.alloc (Below.refl _ _) (Nat.le_refl _) _) _ (by simp)).trans (heap_alloc_new w _)
    · have h := heap_alloc_new (w.alloc (.cells #[.slice (some ⟨bb, 0, none⟩) m m] 24)) (.cells #[.slice none 0 0] 24 (0, 0))
      rw [show (w.alloc (.cells #[.slice (some ⟨bb, 0, none⟩) m m] 24)).heap.size = w.heap.size + 1 by simp] at h
      exact h
  clear b1
  generalize (w.alloc (.cells #[.slice (some ⟨bb, 0, none⟩) m m] 24)).alloc (.cells #[.slice none 0 0] 24) = w1 at *
  have d2 : w1.cell? ⟨w.heap.size, 0, none⟩ = some (.slice (some ⟨bb, 0, none⟩) m m) := Kg.heap_cell HX1.out.1 0
  have hmk := make_bools m (by omega)
  go_upto_region 3 with fail
  have HT : Hid (Ts ((w1.alloc (.cells (madeCells #[.bool false] m) 4)).alloc (.cells #[.slice (some ⟨w1.heap.size, 0, none⟩) m m] 41)) w.heap.size (w1.heap.size + 1) w.heap.size (w.heap.size + 1) w1.heap.size bb m (.slice none 0 0) [] (fun _ => false) f ∧ Below w.heap.size w ((w1.alloc (.cells (madeCells #[.bool false] m) 4)).alloc (.cells #[.slice (some ⟨w1.heap.size, 0, none⟩) m m] 41))) := by
    obtain ⟨x1, x2, x3⟩ := HX1.out
    have l1 : Below w1.heap.size w1 (w1.alloc (.cells (madeCells #[.bool false] m) 4)) := Below.alloc (Below.refl _ _) (Nat.le_refl _) _
    have l2 : Below (w1.alloc (.cells (madeCells #[.bool false] m) 4)).heap.size (w1.alloc (.cells (madeCells #[.bool false] m) 4)) ((w1.alloc (.cells (madeCells #[.bool false] m) 4)).alloc (.cells #[.slice (some ⟨w1.heap.size, 0, none⟩) m m] 41)) := Below.alloc (Below.refl _ _) (Nat.le_refl _) _
    have l3 : Below w1.heap.size w1 ((w1.alloc (.cells (madeCells #[.bool false] m) 4)).alloc (.cells #[.slice (some ⟨w1.heap.size, 0, none⟩) m m] 41)) := l1.trans (l2.mono l1.size)
    have lw := HB1.out.trans (l3.mono HB1.out.size)
    have hc1 := heap_alloc_new (w1.alloc (.cells (madeCells #[.bool false] m) 4)) (.cells #[.slice (some ⟨w1.heap.size, 0, none⟩) m m] 41 (0, 0))
    rw [show (w1.alloc (.cells (madeCells #[.bool false] m) 4)).heap.size = w1.heap.size + 1 by simp] at hc1
    exact ⟨⟨hc1, (l3.block _ (by omega)).trans x1, (l3.block _ (by omega)).trans x2, (Fb.new w1 m).below l2, HB.out.touch (Kg.Touch.of_below lw []) (List.not_mem_nil), World.ownsRow_nil _ _ _ _, by omega, HB.out.lt, by omega, Nat.le_refl _, by omega, by omega⟩, lw⟩
  change Code.wp _ _ _ _ ((w1.alloc (.cells (madeCells #[.bool false] m) 4)).alloc (.cells #[.slice (some ⟨w1.heap.size, 0, none⟩) m m] 41))
  have HA : Hid (w1.heap.size = w.heap.size + 2) := HX1.out.2.2
  generalize (w1.alloc (.cells (madeCells #[.bool false] m) 4)).alloc (.cells #[.slice (some ⟨w1.heap.size, 0, none⟩) m m] 41) = w3 at *
  obtain ⟨c1, hc1⟩ : ∃ c1, c1 = w1.heap.size + 1 := ⟨_, rfl⟩
  obtain ⟨lb, hlb⟩ : ∃ lb, lb = w1.heap.size := ⟨_, rfl⟩
  rw [← hc1, ← hlb] at HT
  rw [← hc1, ← hlb]
  obtain ⟨A, hA⟩ : ∃ A, A = w.heap.size := ⟨_, rfl⟩
  rw [← hA] at HT ⊢
  rw [← hA] at HC
  obtain ⟨c3, hc3⟩ : ∃ c3, c3 = A + 1 := ⟨_, rfl⟩
  rw [← hc3] at HT ⊢
  clear d2 hmk HX1 HB1 HB HA hlb hc1 hc3
  have HAw : Hid (A = w.heap.size) := hA
  clear hA
  go_wp2
  go_loopw [9, 16] (fun _ v16 wr => ∃ (k : Nat) (v1 : Value) (N1 : List Nat) (S1 : Nat → Bool), v16 = .int .i64 (k : Nat) ∧ k ≤ H.length ∧ Hid (Ts wr A c1 A c3 lb bb m v1 N1 S1 f) ∧ Hid (Tr seq by' N1 S1 0) ∧ Hid (∀ e, e ∈ H.take k → e.1 ∈ N1 ∧ e.2.1 ∈ N1) ∧ Hid (Below A w wr)) (fun _ v16 _ => H.length - (intOf v16).toNat)
  case atStart => exact ⟨0, _, [], fun _ => false, rfl, Nat.zero_le _, HT.out.1, ⟨fun x => by simp, List.nodup_nil, fun x hx => (by cases hx), fun x hx => (by cases hx), .inl rfl⟩, fun e he => by simp at he, HT.out.2⟩
  case round =>
    obtain ⟨k, v1, N1, S1, rfl, hk, T1, R1, K1, B1⟩ := hrel
    by_cases hkl : k < H.length
    · have hki : (k : Int) < (H.length : Int) := by omega
      have hz : H[k]? = some (H[k]'hkl) := List.getElem?_eq_getElem hkl
      generalize H[k]'hkl = e at hz
      obtain ⟨q, rfl, d0, d1, d2⟩ := HC.out wr B1.out k e hz
      obtain ⟨hs1, hs2⟩ := HHs.out e (List.mem_of_getElem? hz)
      have HS : Hid (H.take (k + 1) = H.take k ++ [e]) := by show _ = _; rw [List.take_add_one, hz]; rfl
      go_upto_region 7 with fail
      obtain ⟨X, hX⟩ : ∃ X, X = wr.heap.size := ⟨_, rfl⟩
      have l5 : Below wr.heap.size wr (wr.alloc (.cells (epc e) 156)) := Below.alloc (Below.refl _ _) (Nat.le_refl _) _
      have B5 : Hid (Below A w (wr.alloc (.cells (epc e) 156))) := B1.out.trans (l5.mono (by rw [HAw.out]; exact B1.out.size))
      have T5 : Hid (Ts (wr.alloc (.cells (epc e) 156)) A c1 A c3 lb bb m v1 N1 S1 f) := T1.out.below l5
      have H5 : Hid ((wr.alloc (.cells (epc e) 156)).heap[X]? = some (.cells (epc e) 156 (0, 0))) := by rw [hX]; exact heap_alloc_new wr _
      have HXA : Hid (A ≤ X) := by show _ ≤ _; rw [hX, HAw.out]; exact B1.out.size
      change Code.wp _ _ _ _ (wr.alloc (.cells (epc e) 156))
      rw [← hX]
      clear d0 d1 d2 l5 hX T1 B1 hz
      generalize wr.alloc (.cells (epc e) 156) = w5 at *
      have x0 : w5.cell? ⟨X, 0, none⟩ = some (.int .i64 (e.1 : Nat)) := Kg.heap_cell H5.out 0
      have hq := trail_any A c1 A c3 lb bb m hm v1 N1 S1 f seq by' HG.out HF.out e.1 w5 T5.out (R1.out.stop (.inl rfl) e.1 (.inr hs1))
      go_wp2_with fail
      refine hq.mono ?_
      rintro r w6 ⟨rfl, v2, N2, S2, y2, T6, R6, E6, I6, X6, B6, K6⟩
      have HT6 : Hid (Ts w6 A c1 A c3 lb bb m v2 N2 S2 f) := T6
      have HB6 : Hid (Below A w w6) := B5.out.trans B6
      have H6 : Hid (w6.heap[X]? = some (.cells (epc e) 156 (0, 0))) := K6 X _ H5.out
      have HI6 : Hid ((∀ z, z ∈ N1 → z ∈ N2) ∧ e.1 ∈ N2) := ⟨I6, X6.resolve_left (HG.out.lt _ hs1).2⟩
      have x1 : w6.cell? ⟨X, 1, none⟩ = some (.int .i64 (e.2.1 : Nat)) := Kg.heap_cell H6.out 1
      have hq2 := trail_any A c1 A c3 lb bb m hm v2 N2 S2 f seq by' HG.out HF.out e.2.1 w6 T6 (R6.stop E6 e.2.1 (.inr hs2))
      clear hq T6 B6 K6 I6 X6 R6 E6 x0 H5 B5 T5
      go_wp2_with fail
      refine hq2.mono ?_
      rintro r w7 ⟨rfl, v3, N3, S3, y3, T7, R7, E7, I7, X7, B7, K7⟩
      have HT7 : Hid (Ts w7 A c1 A c3 lb bb m v3 N3 S3 f) := T7
      have HB7 : Hid (Below A w w7) := HB6.out.trans B7
      have HR7 : Hid (Tr seq by' N3 S3 0) := R7.stop E7 0 (.inl rfl)
      have HK7 : Hid (∀ d, d ∈ H.take (k + 1) → d.1 ∈ N3 ∧ d.2.1 ∈ N3) := fun d hd => by
        rw [HS.out] at hd
        rcases List.mem_append.1 hd with h1 | h1
        · exact ⟨I7 _ (HI6.out.1 _ (K1.out d h1).1), I7 _ (HI6.out.1 _ (K1.out d h1).2)⟩
        · rw [List.mem_singleton.1 h1]
          exact ⟨I7 _ HI6.out.2, X7.resolve_left (HG.out.lt _ hs2).2⟩
      clear hq2 T7 B7 K7 I7 X7 R7 E7 x1
      go_wp2
      go_roundw
      case rel => exact ⟨k + 1, v3, N3, S3, by go_num, by omega, HT7.out, HR7.out, HK7.out, HB7.out⟩
      case measure => simp [intOf]; omega
    · have hki : ¬ (k : Int) < (H.length : Int) := by omega
      have e9 : k = H.length := by omega
      subst e9
      have d3 : wr.cell? ⟨c3, 0, none⟩ = some v1 := Kg.heap_cell T1.out.h3 0
      have HE : Hid (Il wr w.heap.size v1 (N1.map Int.ofNat) ∧ Below w.heap.size w wr ∧ N1.length ≤ m ∧ (∀ x, x ∈ N1 → x ∈ seq) ∧ (∀ x, x ∈ N1 → by' x ≠ 0 → by' x ∈ N1) ∧ (∀ e, e ∈ H → e.1 ∈ N1 ∧ e.2.1 ∈ N1)) := by
        rw [← HAw.out]
        refine ⟨T1.out.n, B1.out, R1.out.len HG.out, R1.out.i, fun x hx hb => (R1.out.c x hx hb).resolve_right hb, fun e he => K1.out e (by rw [List.take_length]; exact he)⟩
      clear T1 R1 K1 B1
      go_wp2
      go_ret
      obtain ⟨r1, r2, r3, r4, r5, r6⟩ := HE.out
      exact ⟨_, rfl, N1, r1, r2, r3, r4, fun z hz h => r5 z hz h, fun a b c h => r6 _ h⟩
end Go.Proofs.YtkekaifiahjljaaGreatDoor
