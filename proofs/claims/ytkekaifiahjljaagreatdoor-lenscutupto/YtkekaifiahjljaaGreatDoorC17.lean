import Derived.Test.YtkekaifiahjljaaGreatDoorC15
import Derived.Test.YtkekaifiahjljaaGreatDoorC16
import Derived.Test.YtkekaifiahjljaaGreatDoorC13
set_option linter.unusedVariables false
set_option maxHeartbeats 8000000
set_option maxRecDepth 20000
namespace Go.Proofs.YtkekaifiahjljaaGreatDoor
open Go.RowKit Go.Shelf Go.Lib Go.Sort Go.Proofs.YtkekaifiahjljaaGreatDoor.Lp
theorem Fz.of_rcl {w : World} {g m : Nat} {z : Int} (h : w.heap[g]? = some (.cells (rcl z m m).toArray 3 (0, 0))) : Fz w g m (fun _ => z) := by
  refine ⟨_, h, by rw [List.size_toArray, rcl_len (Nat.le_refl _)], fun x hx => ?_⟩
  unfold rcl
  rw [List.getElem?_toArray, List.getElem?_append_left (by simpa using hx), List.getElem?_replicate, if_pos hx]
theorem nobodies_any (m : Nat) (w : World) (h1 : 1 ≤ m) (h2 : m ≤ 2000000) :
    Calls Tryz.prog 51 #[.int .i64 (m : Nat)] w fun e w' => ∃ g, e = .returned (.slice (some ⟨g, 0, none⟩) m m) ∧ w.heap.size ≤ g ∧ Fz w' g m (fun _ => -1) ∧ Below w.heap.size w w' := by
  have b1 : Below w.heap.size w (w.alloc (.cells #[.int .i64 (-1)] 3)) := Below.alloc (Below.refl _ _) (Nat.le_refl _) _
  have hc : (w.alloc (.cells #[.int .i64 (-1)] 3)).cell? ⟨w.heap.size, 0, none⟩ = some (.int .i64 (-1)) := Kg.heap_cell (heap_alloc_new w _) 0
  have hs : (w.alloc (.cells #[.int .i64 (-1)] 3)).heap.size = w.heap.size + 1 := by simp
  have q := repeat_any w.heap.size m (-1) _ hc (by rw [hs]; omega) h1 h2
  rw [hs] at q
  have HB : Hid _ := b1
  clear hc
  go_enter Tryz.func51, Tryz.ntmps51
  go_wp2_with fail
  refine q.mono ?_
  rintro e w1 ⟨rfl, hx, bb⟩
  have HF : Hid (Fz w1 (w.heap.size + 1) m (fun _ => -1)) := Fz.of_rcl hx
  have HB1 : Hid (Below w.heap.size w w1) := HB.out.trans (bb.mono (by omega))
  clear q hx bb b1 hs
  go_wp2
  go_ret
  exact ⟨_, rfl, by omega, HF.out, HB1.out⟩
theorem reverse_any (base : Nat) (v : Value) (l : List Int) (w : World) (h : Il w base v l) (hl : l.length ≤ 1000000000) :
    Calls Tryz.prog 101 #[v] w fun e w' => e = .returned (.tuple #[]) ∧ Il w' base v l.reverse ∧ Below base w w' := by
  rcases h.2 with ⟨rfl, h0⟩ | ⟨g, cap, cur, rfl, hb, hg, hn, hm, hcs, htk⟩
  · obtain rfl : l = [] := List.eq_nil_of_length_eq_zero h0
    have q := AnyE.slices_Reverse_empty (P := Tryz.prog) (ρ := Tryz.revA_ren) Tryz.revA none 0 w
    refine Calls.mono (show Calls Tryz.prog 101 _ _ _ from q) ?_
    rintro e w' ⟨rfl, rfl⟩
    exact ⟨rfl, World.ownsRow_nil _ _ _ _, Below.refl _ _⟩
  · obtain ⟨g', cap', hv, hb', hlt, hn', hm', _, hH⟩ := Lib.holds_of_ownsRow h (by simp)
    simp only [Value.slice.injEq, Option.some.injEq, Addr.mk.injEq, true_and, and_true] at hv
    obtain ⟨rfl, rfl⟩ := hv
    have q := AnyE.slices_Reverse (P := Tryz.prog) (ρ := Tryz.revA_ren) Tryz.revA (Value.int .i64) (fun _ => rfl) g 0 cap l w hH (by omega)
    refine Calls.mono (show Calls Tryz.prog 101 _ _ _ from q) ?_
    rintro e w' ⟨rfl, q', rfl⟩
    have h2 := Lib.ownsRow_putRow (q := q') (k := l.length) (ys := l.reverse) h (by simp) (Nat.le_refl _)
    rw [List.take_of_length_le (by simp)] at h2
    refine ⟨rfl, ?_, touch_putRow17.below (Nat.le_trans hb (Nat.le_of_lt hlt)) (fun k hk => by rw [List.mem_singleton] at hk; rw [hk]; exact hb)⟩
    show World.ownsRow _ _ _ _ _ l.reverse.length _
    rw [List.length_reverse]
    exact h2
theorem listTo_any (w : World) (bb m : Nat) (hm : m ≤ 2000000) {W : Nat → List Nat} {seq : List Nat} {k : Nat} {by' dep pos : Nat → Nat} (hF : Fz w bb m (byv seq by')) (hB : Bt W seq k by' dep pos) (hs : ∀ y, y ∈ seq → y < m) (t : Nat) (ht : t < m) :
    Calls Tryz.prog 56 #[.slice (some ⟨bb, 0, none⟩) m m, .int .i64 (t : Nat)] w fun e w' => ∃ (v : Value) (l : List Nat), e = .returned v ∧ Il w' w.heap.size v (l.map Int.ofNat) ∧ Below w.heap.size w w' ∧ (t ∈ seq → Chn by' t l) ∧ (t ∉ seq → l = []) := by
  obtain ⟨i0, hi0, hj0, hj1, hj2⟩ := info_p17 infoI17
  have HI : Hid (Tryz.prog.info? 3 = some i0 ∧ i0.zero = some (.int .i64 0) ∧ i0.size = 1 ∧ i0.bytes = 8) := ⟨hi0, hj0, hj1, hj2⟩
  clear hi0 hj0 hj1 hj2
  obtain ⟨L, hL⟩ : ∃ L, (t ∈ seq → Chn by' t L ∧ L.length ≤ m) ∧ (t ∉ seq → L = []) := by
    by_cases e : t ∈ seq
    · obtain ⟨L, hL⟩ := hB.row _ t rfl e
      have h1 := hL.len hB _ t L rfl e
      have h2 := (List.getElem?_eq_some_iff.1 (hB.at_ e)).1
      have h3 := hB.len hs
      exact ⟨L, fun _ => ⟨hL, by omega⟩, fun h => absurd e h⟩
    · exact ⟨[], fun h => absurd h e, fun _ => rfl⟩
  have HL : Hid ((t ∈ seq → Chn by' t L ∧ L.length ≤ m) ∧ (t ∉ seq → L = [])) := hL
  have HBt : Hid (Bt W seq k by' dep pos) := hB
  have HSq : Hid (∀ y, y ∈ seq → y < m) := hs
  have HF : Hid (Fz w bb m (byv seq by')) := hF
  clear hL hB hs hF
  go_enter Tryz.func56, Tryz.ntmps56
  go_wp2
  go_loopw [5, 6] (fun v5 v6 wr => ∃ (n : Nat) (l1 acc : List Nat), v6 = .int .i64 (n : Nat) ∧ n < m ∧ acc.length ≤ m ∧ Hid ((t ∈ seq ∧ n ∈ seq ∧ Chn by' n l1 ∧ L = l1 ++ acc.reverse) ∨ (t ∉ seq ∧ n = t ∧ acc = [])) ∧ Hid (Il wr w.heap.size v5 (acc.map Int.ofNat)) ∧ Hid (Below w.heap.size w wr)) (fun _ v6 _ => pos (intOf v6).toNat)
  case atStart =>
    refine ⟨t, L, [], rfl, ht, Nat.zero_le _, ?_, World.ownsRow_nil _ _ _ _, Below.refl _ _⟩
    show _ ∨ _
    by_cases e : t ∈ seq
    · exact .inl ⟨e, e, (HL.out.1 e).1, by simp⟩
    · exact .inr ⟨e, rfl, rfl⟩
  case round =>
    obtain ⟨n, l1, acc, rfl, hnm, hac, R1, R2, R3⟩ := hrel
    have hnI : (n : Int) < (m : Int) := by omega
    have cn := (HF.out.touch (Kg.Touch.of_below R3.out []) (by simp)).cell hnm
    obtain ⟨a5, c5, rfl⟩ := own_sl17 R2.out
    rw [List.length_map]
    have R2' : Hid (Il wr w.heap.size (.slice a5 acc.length c5) (acc.map Int.ofNat)) := by have h9 := R2.out; rw [List.length_map] at h9; exact h9
    clear R2
    have HEnd : Hid (n = 0 ∨ n ∉ seq → acc.reverse = L) := fun h => by
      rcases R1.out with ⟨h1, h2, h3, h4⟩ | ⟨h1, h2, h3⟩
      · rcases h with h | h
        · rw [h] at h3
          rw [h4, h3.zero]; rfl
        · exact absurd h2 h
      · rw [h3, HL.out.2 h1]; rfl
    have q := fun (hx : n = 0 ∨ n ∉ seq) => reverse_any w.heap.size (.slice a5 acc.length c5) (acc.map Int.ofNat) wr R2'.out (by rw [List.length_map]; omega)
    have HEx : Hid (n = 0 ∨ n ∉ seq → ∀ w', Il w' w.heap.size (.slice a5 acc.length c5) (acc.map Int.ofNat).reverse → Below w.heap.size wr w' → ∃ l : List Nat, Il w' w.heap.size (.slice a5 acc.length c5) (l.map Int.ofNat) ∧ Below w.heap.size w w' ∧ (t ∈ seq → Chn by' t l) ∧ (t ∉ seq → l = [])) := fun hx w' h1 h2 => by
      refine ⟨L, ?_, R3.out.trans h2, fun h => (HL.out.1 h).1, fun h => HL.out.2 h⟩
      rw [← HEnd.out hx, List.map_reverse]
      exact h1
    by_cases hn0 : n = 0
    · have g1 : decide (0 < n) = false := decide_eq_false (by omega)
      have q := q (.inl hn0)
      have HEx2 : Hid _ := HEx.out (.inl hn0)
      clear hn0
      go_wp2_with fail
      refine q.mono ?_
      rintro e w' ⟨rfl, o1, o2⟩
      have HX : Hid _ := HEx2.out w' o1 o2
      clear q o1 o2
      go_wp2
      go_ret
      obtain ⟨l, x1, x2, x3, x4⟩ := HX.out
      exact ⟨_, l, rfl, x1, x2, x3, x4⟩
    · have g1 : decide (0 < n) = true := decide_eq_true (by omega)
      by_cases hns : n ∈ seq
      · rw [byv_in hns] at cn
        have g2 : ((by' n : Int) != -1) = true := bne_iff_ne.2 (by omega)
        obtain ⟨hp1, hp2, hp3, hp4, hp5⟩ := HBt.out.pr n hns hn0
        have hbm := HSq.out _ hp1
        obtain ⟨H1, l1', rfl, H2, H3⟩ : Hid (t ∈ seq) ∧ ∃ l1', l1 = l1' ++ [n] ∧ Hid (Chn by' (by' n) l1') ∧ Hid (L = l1' ++ (acc ++ [n]).reverse) := by
          rcases R1.out with ⟨h1, h2, h3, h4⟩ | ⟨h1, h2, h3⟩
          · obtain ⟨l1', rfl, h5⟩ := h3.last hn0
            exact ⟨h1, l1', rfl, h5, by show _ = _; rw [h4]; simp⟩
          · rw [h2] at hns; exact absurd hns h1
        have hal : acc.length + 1 ≤ m := by
          have h8 := congrArg List.length H3.out
          rw [List.length_append, List.length_reverse, List.length_append] at h8
          have h9 := (HL.out.1 H1.out).2
          simp only [List.length_cons, List.length_nil] at h8
          omega
        have HRow : Hid ((wr.alloc (.cells #[.int .i64 (n : Int)] 3)).ownsRow w.heap.size 3 1 (.slice a5 acc.length c5) acc.length (Kg.ints (acc.map Int.ofNat))) := by
          have h9 := Il.below R2'.out (Below.alloc (Below.refl _ _) (Nat.le_refl _) (.cells #[.int .i64 (n : Int)] 3))
          unfold Il at h9
          rw [List.length_map] at h9
          exact h9
        clear q R1 HEnd HEx
        go_upto_region 4 with (at_builtin; refine wpList_append_own_at _ rfl _ _ 24 rfl w.heap.size 3 i0 (.int .i64 0) 1 8 Tryz.underlying24 HI.out.1 HI.out.2.1 HI.out.2.2.1 HI.out.2.2.2 rfl (by decide) _ _ _ rfl HRow.out ⟨wr.heap.size, 0, none⟩ 1 1 [.int .i64 (n : Int)] rfl rfl (cell_one17 _ _ _) (by simp [Value.oneCell']) (by simp only [maxLen]; omega) (by omega) (by have := R3.out.size; simp; omega) ?_; intro v8 w8 h8 g8 _ _)
        have h8' : w8.ownsRow w.heap.size 3 1 v8 ((acc.map Int.ofNat).length + 1) (Kg.ints (acc.map Int.ofNat) ++ [.int .i64 (n : Int)]) := by rw [List.length_map]; exact h8
        obtain ⟨s1, -, s3⟩ := Il.snoc R2'.out h8' g8 R3.out.size
        have S1 : Hid (Il w8 w.heap.size v8 ((acc ++ [n]).map Int.ofNat)) := by
          show Il _ _ _ _
          rw [List.map_append]
          exact s1
        have S3 : Hid (Below w.heap.size w w8) := R3.out.trans s3
        have cn := (HF.out.touch (Kg.Touch.of_below S3.out []) (by simp)).cell hnm
        rw [byv_in hns] at cn
        obtain ⟨a8, c8, rfl⟩ := own_sl17 h8
        have HR : Hid ((t ∈ seq ∧ by' n ∈ seq ∧ Chn by' (by' n) l1' ∧ L = l1' ++ (acc ++ [n]).reverse) ∨ (t ∉ seq ∧ by' n = t ∧ acc ++ [n] = [])) := .inl ⟨H1.out, hp1, H2.out, H3.out⟩
        have hlen : (acc ++ [n]).length ≤ m := by simp only [List.length_append, List.length_cons, List.length_nil]; exact hal
        clear h8 g8 h8' s1 s3 R2' R3 HRow H1 H2 H3 hp2 hp4 hp5
        go_wp2
        go_roundw
        case rel => exact ⟨by' n, l1', acc ++ [n], rfl, hbm, hlen, HR, S1, S3⟩
        case measure => simpa [intOf] using hp3
      · rw [byv_neg.2 hns] at cn
        have q := q (.inr hns)
        have HEx2 : Hid _ := HEx.out (.inr hns)
        go_wp2_with fail
        refine q.mono ?_
        rintro e w' ⟨rfl, o1, o2⟩
        have HX : Hid _ := HEx2.out w' o1 o2
        clear q o1 o2
        go_wp2
        go_ret
        obtain ⟨l, x1, x2, x3, x4⟩ := HX.out
        exact ⟨_, l, rfl, x1, x2, x3, x4⟩
end Go.Proofs.YtkekaifiahjljaaGreatDoor
namespace Go.Proofs.YtkekaifiahjljaaGreatDoor
open Go.RowKit Go.Shelf Go.Proofs.YtkekaifiahjljaaGreatDoor.Lt
structure Fy (w : World) (b m : Nat) (f : Nat → Int) : Prop where
  ex : ∃ cs, w.heap[b]? = some (.cells cs 3 (0, 0)) ∧ m ≤ cs.size ∧ ∀ x, x < m → cs[x]? = some (.int .i64 (f x))
theorem Fy.lt {w : World} {b m : Nat} {f : Nat → Int} (h : Fy w b m f) : b < w.heap.size := by
  obtain ⟨cs, h1, -⟩ := h.ex
  exact Kg.heap_lt h1
theorem Fy.cell {w : World} {b m : Nat} {f : Nat → Int} (h : Fy w b m f) {x : Nat} (hx : x < m) : w.cell? ⟨b, x, none⟩ = some (.int .i64 (f x)) := by
  obtain ⟨cs, h1, -, h3⟩ := h.ex
  exact (Kg.heap_cell h1 x).trans (h3 x hx)
theorem Fy.frozen {w : World} {b m : Nat} {f : Nat → Int} (h : Fy w b m f) (x : Nat) : w.frozen? ⟨b, x, none⟩ = false := by
  obtain ⟨cs, h1, -⟩ := h.ex
  exact Kg.heap_frozen h1 x
theorem Fy.touch {w w' : World} {b m : Nat} {f : Nat → Int} {F : List Nat} (h : Fy w b m f) (ht : Kg.Touch F w w') (hF : b ∉ F) : Fy w' b m f := by
  obtain ⟨cs, h1, h2, h3⟩ := h.ex
  exact ⟨cs, (ht.block _ (Kg.heap_lt h1) hF).trans h1, h2, h3⟩
theorem Fy.set {w : World} {b m : Nat} {f : Nat → Int} (h : Fy w b m f) {x : Nat} (hx : x < m) (v : Int) : Fy (w.setCell ⟨b, x, none⟩ (.int .i64 v)) b m (fun y => if y = x then v else f y) := by
  obtain ⟨cs, h1, h2, h3⟩ := h.ex
  refine ⟨cs.setIfInBounds x (.int .i64 v), Kg.heap_set h1 x _, by simpa using h2, fun y hy => ?_⟩
  rw [Array.getElem?_setIfInBounds]
  by_cases e : x = y
  · subst e
    rw [if_pos rfl, if_pos (by omega), if_pos rfl]
  · rw [if_neg e, if_neg (fun h => e h.symm)]
    exact h3 y hy
theorem Fy.congr {w : World} {b m : Nat} {f f' : Nat → Int} (h : Fy w b m f) (e : ∀ x, x < m → f' x = f x) : Fy w b m f' := by
  obtain ⟨cs, h1, h2, h3⟩ := h.ex
  exact ⟨cs, h1, h2, fun x hx => by rw [e x hx]; exact h3 x hx⟩
theorem Fz.fy {w : World} {b m : Nat} {f : Nat → Int} (h : Fz w b m f) : Fy w b m f := by
  obtain ⟨cs, h1, h2, h3⟩ := h.ex
  exact ⟨cs, h1, by omega, h3⟩
theorem Il.fy {w : World} {base : Nat} {v : Value} {l : List Int} (h : Il w base v l) (h0 : l ≠ []) {f : Nat → Int} (hf : ∀ (x : Nat) z, l[x]? = some z → z = f x) : ∃ b cap, v = .slice (some ⟨b, 0, none⟩) l.length cap ∧ base ≤ b ∧ Fy w b l.length f := by
  rcases h.2 with ⟨-, h1⟩ | ⟨b, cap, cur, rfl, hb, hg, hn, hm, hs, ht⟩
  · exact absurd (List.eq_nil_of_length_eq_zero h1) h0
  · refine ⟨b, cap, rfl, hb, cur, hg, by omega, fun x hx => ?_⟩
    have h2 : (cur.toList.take (l.length * 1))[x]? = some (.int .i64 (l[x]'hx)) := by rw [ht, Kg.ints, List.getElem?_map, List.getElem?_eq_getElem hx]; rfl
    rw [List.getElem?_take, if_pos (by omega), Array.getElem?_toList] at h2
    rw [h2, hf x _ (List.getElem?_eq_getElem hx)]
def abv (q : Nat) (fa : Nat → Nat) (v : Nat) : Int := if v < q then -1 else (fa v : Int)
def bst (q : Nat) (bs : Nat → Nat) (v : Nat) : Int := if v < q then (v : Int) else (bs v : Int)
structure Frs (w : World) (B fb p sb ab bb : Nat) (sc ac bc : Nat) (tv : Value) (l : List Int) (sf af bf : Nat → Int) : Prop where
  h : w.heap[fb]? = some (.cells #[.slice (some ⟨sb, 0, none⟩) p sc, .slice (some ⟨ab, 0, none⟩) p ac, .slice (some ⟨bb, 0, none⟩) p bc, tv] 145 (0, 0))
  s : Fy w sb p sf
  a : Fy w ab p af
  b : Fy w bb p bf
  t : Il w B tv l
  sa : sb ≠ ab
  sbb : sb ≠ bb
  abb : ab ≠ bb
  ts : ∀ k, tv.ownBlock = some k → k ≠ sb ∧ k ≠ ab ∧ k ≠ bb
  lo : B ≤ fb ∧ B ≤ sb ∧ B ≤ ab ∧ B ≤ bb
variable {w : World} {B fb p sb ab bb sc ac bc : Nat} {tv : Value} {l : List Int} {sf af bf : Nat → Int}
theorem Frs.ne (h : Frs w B fb p sb ab bb sc ac bc tv l sf af bf) : fb ≠ sb ∧ fb ≠ ab ∧ fb ≠ bb ∧ ∀ k, tv.ownBlock = some k → k ≠ fb := by
  have key : ∀ {b m : Nat} {f : Nat → Int}, Fy w b m f → fb ≠ b := fun {b m f} hf e => by
    obtain ⟨cs, h1, -⟩ := hf.ex
    rw [← e, h.h] at h1
    simp only [Option.some.injEq, Obj.cells.injEq] at h1
    exact absurd h1.2.1 (by decide)
  exact ⟨key h.s, key h.a, key h.b, fun k hk e => Kg.row_ne h.h h.t (by decide) (by rw [hk, e])⟩
def frF (fb ab bb : Nat) (tv : Value) : List Nat := fb :: ab :: bb :: tv.ownBlock.toList
theorem Frs.cells (h : Frs w B fb p sb ab bb sc ac bc tv l sf af bf) : w.cell? ⟨fb, 0, none⟩ = some (.slice (some ⟨sb, 0, none⟩) p sc) ∧ w.cell? ⟨fb, 1, none⟩ = some (.slice (some ⟨ab, 0, none⟩) p ac) ∧ w.cell? ⟨fb, 2, none⟩ = some (.slice (some ⟨bb, 0, none⟩) p bc) ∧ w.cell? ⟨fb, 3, none⟩ = some tv :=
  ⟨Kg.heap_cell h.h 0, Kg.heap_cell h.h 1, Kg.heap_cell h.h 2, Kg.heap_cell h.h 3⟩
theorem Frs.touch {w' : World} {F : List Nat} (h : Frs w B fb p sb ab bb sc ac bc tv l sf af bf) (ht : Kg.Touch F w w') (h1 : fb ∉ F) (h2 : sb ∉ F) (h3 : ab ∉ F) (h4 : bb ∉ F) (h5 : ∀ k, tv.ownBlock = some k → k ∉ F) : Frs w' B fb p sb ab bb sc ac bc tv l sf af bf :=
  ⟨(ht.block _ (Kg.heap_lt h.h) h1).trans h.h, h.s.touch ht h2, h.a.touch ht h3, h.b.touch ht h4, Kg.row_keep2 h.t ht h5, h.sa, h.sbb, h.abb, h.ts, h.lo⟩
theorem Frs.drewN (h : Frs w B fb p sb ab bb sc ac bc tv l sf af bf) (n : Nat) : Frs (w.drewN n) B fb p sb ab bb sc ac bc tv l sf af bf := h.touch (Kg.Touch.drewN [] w n) (by simp) (by simp) (by simp) (by simp) (fun _ _ => by simp)
theorem Frs.setS (h : Frs w B fb p sb ab bb sc ac bc tv l sf af bf) {x : Nat} (hx : x < p) (v : Int) : Frs (w.setCell ⟨sb, x, none⟩ (.int .i64 v)) B fb p sb ab bb sc ac bc tv l (fun y => if y = x then v else sf y) af bf := by
  have t : Kg.Touch [sb] w (w.setCell ⟨sb, x, none⟩ (.int .i64 v)) := Kg.Touch.setCell _ _ _ (by simp)
  exact ⟨(t.block _ (Kg.heap_lt h.h) (by simpa using h.ne.1)).trans h.h, h.s.set hx v, h.a.touch t (by simpa using h.sa.symm), h.b.touch t (by simpa using h.sbb.symm), Kg.row_keep2 h.t t (fun k hk => by simpa using (h.ts k hk).1), h.sa, h.sbb, h.abb, h.ts, h.lo⟩
theorem Frs.setA (h : Frs w B fb p sb ab bb sc ac bc tv l sf af bf) {x : Nat} (hx : x < p) (v : Int) : Frs (w.setCell ⟨ab, x, none⟩ (.int .i64 v)) B fb p sb ab bb sc ac bc tv l sf (fun y => if y = x then v else af y) bf := by
  have t : Kg.Touch [ab] w (w.setCell ⟨ab, x, none⟩ (.int .i64 v)) := Kg.Touch.setCell _ _ _ (by simp)
  exact ⟨(t.block _ (Kg.heap_lt h.h) (by simpa using h.ne.2.1)).trans h.h, h.s.touch t (by simpa using h.sa), h.a.set hx v, h.b.touch t (by simpa using h.abb.symm), Kg.row_keep2 h.t t (fun k hk => by simpa using (h.ts k hk).2.1), h.sa, h.sbb, h.abb, h.ts, h.lo⟩
theorem Frs.setB (h : Frs w B fb p sb ab bb sc ac bc tv l sf af bf) {x : Nat} (hx : x < p) (v : Int) : Frs (w.setCell ⟨bb, x, none⟩ (.int .i64 v)) B fb p sb ab bb sc ac bc tv l sf af (fun y => if y = x then v else bf y) := by
  have t : Kg.Touch [bb] w (w.setCell ⟨bb, x, none⟩ (.int .i64 v)) := Kg.Touch.setCell _ _ _ (by simp)
  exact ⟨(t.block _ (Kg.heap_lt h.h) (by simpa using h.ne.2.2.1)).trans h.h, h.s.touch t (by simpa using h.sbb), h.a.touch t (by simpa using h.abb), h.b.set hx v, Kg.row_keep2 h.t t (fun k hk => by simpa using (h.ts k hk).2.2), h.sa, h.sbb, h.abb, h.ts, h.lo⟩
theorem Frs.setT (h : Frs w B fb p sb ab bb sc ac bc tv l sf af bf) {w' : World} {v' : Value} {l' : List Int} (ht : Kg.Touch tv.ownBlock.toList w w') (ho : Il w' B v' l') (hb : ∀ k, v'.ownBlock = some k → tv.ownBlock = some k ∨ w.heap.size ≤ k) :
    Frs (w'.setCell ⟨fb, 3, none⟩ v') B fb p sb ab bb sc ac bc v' l' sf af bf := by
  obtain ⟨n1, n2, n3, n4⟩ := h.ne
  have out : ∀ k, (∀ j, tv.ownBlock = some j → j ≠ k) → k ∉ tv.ownBlock.toList := fun k hk hm => by
    rw [Option.mem_toList] at hm
    exact hk k hm rfl
  have of : fb ∉ tv.ownBlock.toList := out fb n4
  have os : sb ∉ tv.ownBlock.toList := out sb (fun j hj => (h.ts j hj).1)
  have oa : ab ∉ tv.ownBlock.toList := out ab (fun j hj => (h.ts j hj).2.1)
  have ob : bb ∉ tv.ownBlock.toList := out bb (fun j hj => (h.ts j hj).2.2)
  have hh : w'.heap[fb]? = _ := (ht.block _ (Kg.heap_lt h.h) of).trans h.h
  have t2 : Kg.Touch [fb] w' (w'.setCell ⟨fb, 3, none⟩ v') := Kg.Touch.setCell _ _ _ (by simp)
  have new : ∀ k, v'.ownBlock = some k → k ≠ fb ∧ k ≠ sb ∧ k ≠ ab ∧ k ≠ bb := fun k hk => by
    rcases hb k hk with h1 | h1
    · exact ⟨n4 k h1, h.ts k h1⟩
    · have := Kg.heap_lt h.h
      have := h.s.lt
      have := h.a.lt
      have := h.b.lt
      exact ⟨by omega, by omega, by omega, by omega⟩
  refine ⟨?_, (h.s.touch ht os).touch t2 (by simpa using n1.symm), (h.a.touch ht oa).touch t2 (by simpa using n2.symm), (h.b.touch ht ob).touch t2 (by simpa using n3.symm), Kg.row_keep2 ho t2 (fun k hk => by simpa using (new k hk).1), h.sa, h.sbb, h.abb, fun k hk => (new k hk).2, h.lo⟩
  rw [Kg.heap_set hh]
  rfl
end Go.Proofs.YtkekaifiahjljaaGreatDoor
