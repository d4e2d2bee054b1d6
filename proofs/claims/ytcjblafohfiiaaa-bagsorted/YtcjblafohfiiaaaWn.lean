/-
  BagWithin: the walk.
-/
import Derived.Test.YtcjblafohfiiaaaTb
set_option linter.unusedVariables false
namespace Go.Proofs.Ytcjblafohfiiaaa
open Go.RowKit Go.Shelf

theorem que_walked {W : World} {base b N Bl : Nat} {m : Int} {xs : List Int} {F : List Nat} (h : Que W base b m N xs F) (hbl : W.cell? ⟨Bl, 0, none⟩ = some (.func (.func 55) #[.pointer (some ⟨b, 0, none⟩)] #[])) (hN : N < 1000000) : Walked Try.prog 71 Bl xs W := by
  obtain ⟨v, ts, f, hh, hb, hr, hf, rfl, hn, rfl⟩ := h
  have h0 := heap_cell hh 0
  have h1 := heap_cell hh 1
  simp only [List.getElem?_toArray, List.getElem?_cons_zero, List.getElem?_cons_succ] at h0 h1
  have hl : (ts.drop f).length < 1000000 := by simp; omega
  rcases hr.2 with ⟨rfl, hz⟩ | ⟨g, cap, cur, rfl, _, hg, hnc, hc, _⟩
  · obtain rfl : f = 0 := by omega
    exact frozenQ_any Bl b _ _ _ _ W hbl (held_nil b W h0 h1) (.inl ⟨rfl, by simp; exact List.eq_nil_of_length_eq_zero hz⟩) hl
  · refine frozenQ_any Bl b _ _ _ _ W hbl (held_some b g cap ts.length f W h0 h1 hf hnc hc) (.inr ⟨g, if cap = f then 0 else f, cap - f, ?_, heap_lt hg, ?_⟩) hl
    · rw [List.length_drop]; split <;> rfl
    · intro j x hj
      rw [List.getElem?_drop] at hj
      have hjl := (List.getElem?_eq_some_iff.1 hj).1
      rw [if_neg (by omega), hr.cellAt _ (by omega)]
      simp [hj]

theorem stk_walked {W : World} {base b Bl : Nat} {m : Int} {zs : List Int} {F : List Nat} (h : Stk W base b m zs F) (hbl : W.cell? ⟨Bl, 0, none⟩ = some (.func (.func 54) #[.pointer (some ⟨b, 0, none⟩)] #[])) (hl : zs.length < 1000000) : Walked Try.prog 71 Bl zs.reverse W := by
  obtain ⟨v, hh, hb, hr, rfl⟩ := h
  have h0 := heap_cell hh 0
  simp only [List.getElem?_toArray, List.getElem?_cons_zero] at h0
  exact frozenS_any Bl b v zs W hbl h0 (slice_of_row hr rfl (Nat.le_refl _)) hl

theorem sliceU_of_row {W : World} {base n0 : Nat} {v : Value} {n : Nat} {zs : List Int} (h : W.ownsRow base 41 1 v n (u64s zs)) (hn : n = zs.length) (hn0 : W.heap.size ≤ n0) : SliceU n0 W v zs := by
  subst hn
  rcases h.2 with ⟨rfl, h0⟩ | ⟨g, cap, cur, rfl, hb, hg, hn, hm, hs, ht⟩
  · exact .inl ⟨rfl, List.eq_nil_of_length_eq_zero h0⟩
  · refine .inr ⟨g, 0, cap, rfl, by have := heap_lt hg; omega, fun j x hj => ?_⟩
    have hjl := (List.getElem?_eq_some_iff.1 hj).1
    rw [Nat.zero_add, h.cellAt _ (by omega)]
    simp [hj]

theorem tab_walked {W : World} {base b Bl : Nat} {ks vs : List Int} {F : List Nat} (h : ITab W base b ks vs F) (hbl : W.cell? ⟨Bl, 0, none⟩ = some (.pointer (some ⟨b, 0, none⟩))) (hlen : ks.length < 1000000) : WalkedP Try.prog 48 Bl ks vs W := by
  obtain ⟨vk, vv, hh, hb, hk, hv, hl, hs, rfl⟩ := h
  have h0 := heap_cell hh 0
  have h1 := heap_cell hh 1
  simp only [List.getElem?_toArray, List.getElem?_cons_zero, List.getElem?_cons_succ] at h0 h1
  have s0 := slice_of_row hk rfl (Nat.le_refl _)
  have s1 := sliceU_of_row hv rfl (Nat.le_refl _)
  obtain ⟨a, n, c, rfl⟩ : ∃ a n c, vk = .slice a n c := by rcases s0 with ⟨rfl, _⟩ | ⟨_, _, _, rfl, _⟩ <;> exact ⟨_, _, _, rfl⟩
  obtain ⟨a', n', c', rfl⟩ : ∃ a n c, vv = .slice a n c := by rcases s1 with ⟨rfl, _⟩ | ⟨_, _, _, rfl, _⟩ <;> exact ⟨_, _, _, rfl⟩
  exact allI_any Bl b _ _ _ _ _ _ ks vs W hbl h0 h1 s0 s1 hl hlen

theorem keysTo_succ (k : Nat) : ins (keysTo k) k (k : Int) = keysTo (k + 1) := by
  simp only [ins]
  rw [List.take_of_length_le (by simp), List.drop_of_length_le (by simp)]
  simp [keysTo, List.range_succ]

theorem wordsTo_succ (k : Nat) : ins (wordsTo k) k ((k : Int) + 3) = wordsTo (k + 1) := by
  simp only [ins]
  rw [List.take_of_length_le (by simp), List.drop_of_length_le (by simp)]
  simp [wordsTo, List.range_succ]

theorem keysTo_cut (k : Nat) : CutAt ltI (keysTo k) (k : Int) k :=
  ⟨by simp, fun i a hi ha => by obtain ⟨rfl, h⟩ := keysTo_at ha; simp [ltI]; omega, fun i a hi ha => by have := (keysTo_at ha).2; omega⟩

theorem setI_next (b base k : Nat) (F : List Nat) (w : World) (h : ITab w base b (keysTo k) (wordsTo k) F) (hbase : base ≤ w.heap.size) (hlen : k < 1000000) :
    Calls Try.prog 19 #[.pointer (some ⟨b, 0, none⟩), .int .i64 k, .int .u64 ((k : Int) + 3)] w fun e w' => e = .returned (.bool true) ∧
      ∃ F', ITab w' base b (keysTo (k + 1)) (wordsTo (k + 1)) F' ∧ Touch F w w' ∧ Newer w.heap.size F F' := by
  have := setI_fresh b base k ((k : Int) + 3) k (keysTo k) (wordsTo k) F w h hbase (by simpa using hlen) (keysTo_cut k) (fun e => by have := (keysTo_at e).2; omega)
  rw [keysTo_succ, wordsTo_succ] at this
  exact this

theorem lists_below {w W : World} {a : Option Addr} {l : List Int} (h : Lists w a l) (hB : Below w.heap.size w W) : Lists W a l := by
  intro i x hx
  obtain ⟨g, off, rfl, hg, hc⟩ := h i x hx
  exact ⟨g, off, rfl, Nat.lt_of_lt_of_le hg hB.size, (hB.cell (p := ⟨g, off + i, none⟩) hg).trans hc⟩

theorem ITab.base {W : World} {base base' b : Nat} {ks vs : List Int} {F : List Nat} (h : ITab W base b ks vs F) (hle : base' ≤ base) : ITab W base' b ks vs F := by
  obtain ⟨vk, vv, hh, hb, hk, hv, h1, h2, rfl⟩ := h
  exact ⟨vk, vv, hh, by omega, row_base hk hle, row_base hv hle, h1, h2, rfl⟩

set_option maxHeartbeats 4000000 in
theorem within_core (a : Option Addr) (cap : Nat) (l : List Int) (w : World) (v0 : Value) (hfew : ∀ w, Calls Try.prog 8 #[v0] w fun e w' => e = .returned (.slice a l.length cap) ∧ w = w') (hl : Lists w a l) (hn : l.length ≤ 500) :
    Calls Try.prog 6 #[v0] w fun e w' => e = .returned (.bool true) ∧ Below w.heap.size w w' := by
  go_enter Try.func6, Try.ntmps6
  go_wp2_with fail
  refine (known_any w).mono ?_
  rintro e w1 ⟨rfl, hB1⟩
  go_wp2_with fail
  refine (hfew w1).mono ?_
  rintro e w' ⟨rfl, rfl⟩
  go_wp2_with fail
  refine (newintqueue_any 0 (by decide) _).mono ?_
  rintro e w2 ⟨rfl, hq2, ht2, hz2⟩
  have Hz2 : Hid (w2.heap.size = w1.heap.size + 1) := hz2
  clear hz2
  go_wp2_with fail
  refine (newintstack_any 0 (by decide) _).mono ?_
  rintro e w3 ⟨rfl, hs3, ht3, hz3⟩
  have Hz3 : Hid (w3.heap.size = w2.heap.size + 1) := hz3
  clear hz3
  go_wp2_with fail
  refine (newinttab_any _).mono ?_
  rintro e w4 ⟨rfl, hk4, ht4, hz4⟩
  have hle := hB1.size
  have hz2 := Hz2.out
  have hz3 := Hz3.out
  have hq4 := ((hq2.keep ht3 (by intro k _ h; simp at h)).keep ht4 (by intro k _ h; simp at h)).base (base' := w.heap.size) hle
  have hs4 := (hs3.keep ht4 (by intro k _ h; simp at h)).base (base' := w.heap.size) (by omega)
  have hk4' := hk4.base (base' := w.heap.size) (by omega)
  have hB4 : Below w.heap.size w w4 := ((hB1.trans (ht2.below hB1.size (by simp))).trans (ht3.below (by omega) (by simp))).trans (ht4.below (by omega) (by simp))
  have hA1 : Apart [w1.heap.size] [w2.heap.size] := by intro k hk hk2; simp at hk hk2; omega
  have hA2 : Apart [w1.heap.size] [w3.heap.size] := by intro k hk hk2; simp at hk hk2; omega
  have hA3 : Apart [w2.heap.size] [w3.heap.size] := by intro k hk hk2; simp at hk hk2; omega
  clear hq2 ht2 hs3 ht3 hk4 ht4 hz2 hz3 hz4 hle hB1 Hz2 Hz3
  generalize w1.heap.size = bq at *
  generalize w2.heap.size = bs at *
  generalize w3.heap.size = bt at *
  go_wp2
  go_loopw [9] (fun i wr => ∃ (k : Nat) (Fq Fs Ft : List Nat), k ≤ l.length ∧ i = .int .i64 k ∧ Que wr w.heap.size bq 0 k (l.take k) Fq ∧ Stk wr w.heap.size bs 0 (l.reverse.take k) Fs ∧ ITab wr w.heap.size bt (keysTo k) (wordsTo k) Ft ∧
      Apart Fq Fs ∧ Apart Fq Ft ∧ Apart Fs Ft ∧ Below w.heap.size w wr) (fun i _ => l.length - (intOf i).toNat)
  case atStart => exact ⟨0, _, _, _, Nat.zero_le _, rfl, by simpa using hq4, by simpa using hs4, hk4', hA1, hA2, hA3, hB4⟩
  case round =>
    obtain ⟨k, Fq, Fs, Ft, hk, rfl, hq, hs, ht, hqs, hqt, hst, hB⟩ := hrel
    clear hq4 hs4 hk4' hA1 hA2 hA3 hB4
    by_cases hlt : k < l.length
    · obtain ⟨x, hx⟩ : ∃ x, l[k]? = some x := ⟨_, List.getElem?_eq_getElem hlt⟩
      obtain ⟨y, hy⟩ : ∃ y, l[l.length - 1 - k]? = some y := ⟨_, List.getElem?_eq_getElem (by omega)⟩
      have hyr : l.reverse[k]? = some y := by rw [List.getElem?_reverse hlt]; exact hy
      obtain ⟨g, off, rfl, hg, hc⟩ := hl k x hx
      obtain ⟨g', off', ha', -, hcy⟩ := hl _ y hy
      simp only [Option.some.injEq, Addr.mk.injEq, and_true] at ha'
      obtain ⟨rfl, rfl⟩ := ha'
      have hki : (k : Int) < (l.length : Int) := by omega
      have hcr : wr.cell? ⟨g, off + k, none⟩ = some (.int .i64 x) := (hB.cell (p := ⟨g, off + k, none⟩) hg).trans hc
      have hpu := put_any bq w.heap.size k 0 x (l.take k) Fq wr hq hB.size (by omega) (by simp)
      rw [take_snoc hx] at hpu
      have Hy : Hid (l.reverse.take k ++ [y] = l.reverse.take (k + 1)) := take_snoc hyr
      have Hcy : Hid (w.cell? ⟨g, off + (l.length - 1 - k), none⟩ = some (.int .i64 y)) := hcy
      clear hx hy hyr hcy
      go_wp2_with fail
      refine hpu.mono ?_
      rintro e w5 ⟨rfl, Fq', hq5, ht5, hn5⟩
      clear hpu
      have hs5 := hs.keep ht5 hqs.symm
      have hk5 := ht.keep ht5 hqt.symm
      have hqs5 : Apart Fq' Fs := hqs.newer hn5 (fun j hj => (hs.mem j hj).2)
      have hqt5 : Apart Fq' Ft := hqt.newer hn5 (fun j hj => (ht.mem j hj).2)
      have hB5 : Below w.heap.size w w5 := hB.trans (ht5.below hB.size (fun j hj => (hq.mem j hj).1))
      have hcy5 : w5.cell? ⟨g, off + (l.length - 1 - k), none⟩ = some (.int .i64 y) := (hB5.cell (p := ⟨g, off + (l.length - 1 - k), none⟩) hg).trans Hcy.out
      have hps := push_any bs w.heap.size 0 y (l.reverse.take k) Fs w5 hs5 hB5.size (by simp; omega) (by simp)
      rw [Hy.out] at hps
      have hbd : (l.length : Int) - 1 - k < l.length := by omega
      have hbd0 : (0 : Int) ≤ (l.length : Int) - 1 - k := by omega
      clear hq hs ht hqs hqt hB ht5 hn5 hcr hc
      go_wp2_with fail
      refine hps.mono ?_
      rintro e w6 ⟨rfl, Fs', hs6, ht6, hn6⟩
      clear hps
      have hq6 := hq5.keep ht6 hqs5
      have hk6 := hk5.keep ht6 hst.symm
      have hqs6 : Apart Fq' Fs' := (hqs5.symm.newer hn6 (fun j hj => (hq5.mem j hj).2)).symm
      have hst6 : Apart Fs' Ft := hst.newer hn6 (fun j hj => (hk5.mem j hj).2)
      have hB6 : Below w.heap.size w w6 := hB5.trans (ht6.below hB5.size (fun j hj => (hs5.mem j hj).1))
      have hse := setI_next bt w.heap.size k Ft w6 hk6 hB6.size (by omega)
      clear hq5 hs5 hk5 hqs5 hB5 ht6 hn6 hcy5 hst
      go_wp2_with fail
      refine hse.mono ?_
      rintro e w7 ⟨rfl, Ft', hk7, ht7, hn7⟩
      clear hse
      have hq7 := hq6.keep ht7 hqt5
      have hs7 := hs6.keep ht7 hst6
      have hqt7 : Apart Fq' Ft' := (hqt5.symm.newer hn7 (fun j hj => (hq6.mem j hj).2)).symm
      have hst7 : Apart Fs' Ft' := (hst6.symm.newer hn7 (fun j hj => (hs6.mem j hj).2)).symm
      have hB7 : Below w.heap.size w w7 := hB6.trans (ht7.below hB6.size (fun j hj => (hk6.mem j hj).1))
      clear hq6 hs6 hk6 hqt5 hst6 hB6 ht7 hn7
      go_wp2
      go_roundw
      case rel => exact ⟨k + 1, Fq', Fs', Ft', hlt, by go_num, hq7, hs7, hk7, hqs6, hqt7, hst7, hB7⟩
      case measure => simp [intOf]; omega
    · obtain rfl : k = l.length := by omega
      rw [List.take_length] at hq
      rw [List.take_of_length_le (by simp)] at hs
      clear hqs hqt hst
      have hL := lists_below hl hB
      go_wp2_with fail
      refine (qall_any _ _).mono ?_
      rintro e w5 ⟨rfl, rfl⟩
      have hBa : Below wr.heap.size wr (wr.alloc (.cells #[.func (.func 55) #[.pointer (some ⟨bq, 0, none⟩)] #[]] 53)) := (Below.refl _ wr).alloc (Nat.le_refl _) _
      have bA := Boxed.new wr 53 (.func (.func 55) #[.pointer (some ⟨bq, 0, none⟩)] #[])
      have hin1 := inside_any wr.heap.size cap a l _ (by omega) (fun W' hB' => que_walked (hq.keep (G := []) (Touch.of_below (hBa.trans (hB'.mono hBa.size)) []) (by intro k _ h; simp at h)) (box_touch bA (Touch.of_below hB' []) (by simp)).cell (by omega)) (lists_below hL hBa)
      have hs5 := hs.keep (G := []) (Touch.of_below hBa []) (by intro k _ h; simp at h)
      have hk5 := ht.keep (G := []) (Touch.of_below hBa []) (by intro k _ h; simp at h)
      have hB5 : Below w.heap.size w (wr.alloc (.cells #[.func (.func 55) #[.pointer (some ⟨bq, 0, none⟩)] #[]] 53)) := hB.trans (hBa.mono hB.size)
      have hL5 := lists_below hL hBa
      clear hq hs ht hB hBa bA hL
      go_wp2_with fail
      refine hin1.mono ?_
      rintro e w6 ⟨rfl, hB6'⟩
      have hs6 := hs5.keep (G := []) (Touch.of_below hB6' []) (by intro k _ h; simp at h)
      have hk6 := hk5.keep (G := []) (Touch.of_below hB6' []) (by intro k _ h; simp at h)
      have hB6 : Below w.heap.size w w6 := hB5.trans (hB6'.mono hB5.size)
      have hL6 := lists_below hL5 hB6'
      clear hs5 hk5 hB5 hL5 hB6' hin1
      go_wp2_with fail
      refine (sall_any _ _).mono ?_
      rintro e w7 ⟨rfl, rfl⟩
      have hBa : Below w6.heap.size w6 (w6.alloc (.cells #[.func (.func 54) #[.pointer (some ⟨bs, 0, none⟩)] #[]] 53)) := (Below.refl _ w6).alloc (Nat.le_refl _) _
      have bA := Boxed.new w6 53 (.func (.func 54) #[.pointer (some ⟨bs, 0, none⟩)] #[])
      have hin2 := inside_any w6.heap.size cap a l _ (by omega) (fun W' hB' => by
        have := stk_walked (hs6.keep (G := []) (Touch.of_below (hBa.trans (hB'.mono hBa.size)) []) (by intro k _ h; simp at h)) ((box_touch bA (Touch.of_below hB' []) (by simp)).cell) (by simp; omega)
        rw [List.reverse_reverse] at this
        exact this) (lists_below hL6 hBa)
      have hk7 := hk6.keep (G := []) (Touch.of_below hBa []) (by intro k _ h; simp at h)
      have hB7 : Below w.heap.size w (w6.alloc (.cells #[.func (.func 54) #[.pointer (some ⟨bs, 0, none⟩)] #[]] 53)) := hB6.trans (hBa.mono hB6.size)
      clear hs6 hk6 hB6 hBa bA hL6
      go_wp2_with fail
      refine hin2.mono ?_
      rintro e w8 ⟨rfl, hB8'⟩
      have hk8 := hk7.keep (G := []) (Touch.of_below hB8' []) (by intro k _ h; simp at h)
      have hB8 : Below w.heap.size w w8 := hB7.trans (hB8'.mono hB7.size)
      have htb := tabled_any bt l.length w8 (by omega) (fun Bl W' hB' hb => tab_walked (hk8.keep (G := []) (Touch.of_below hB' []) (by intro k _ h; simp at h)) hb.cell (by simp; omega))
      clear hk7 hB7 hB8' hin2
      go_wp2_with fail
      refine htb.mono ?_
      rintro e w9 ⟨rfl, hB9'⟩
      have hB9 : Below w.heap.size w w9 := hB8.trans (hB9'.mono hB8.size)
      clear hk8 hB8 htb hB9'
      go_wp2
      go_ret
      exact ⟨rfl, hB9⟩

end Go.Proofs.Ytcjblafohfiiaaa
