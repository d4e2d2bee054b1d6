/-
  slices.Insert of a word, anywhere.
-/
import Derived.Test.YtcjblafohfiiaabGreatInsU
import Derived.Lib.AppendZerosOnto
set_option linter.unusedVariables false
namespace Go.Proofs.YtcjblafohfiiaabGreat
open Go.RowKit Go.Shelf Go.Lib

theorem apartU (vb g o lb cb c : Nat) (w : World) (hvb : vb ≠ g) (hsa : w.shape? vb = some (29, 1)) (hsb : w.shape? g = some (29, c)) (hc : c ≠ 0) (hf : ∀ j, w.frozen? ⟨vb, j, none⟩ = false) :
    (callFunc 114 #[.slice (some ⟨vb, 0, none⟩) 1 1, .slice (some ⟨g, o, none⟩) lb cb]).run Tryz.prog w = .ok (.value (.bool false)) w := by
  rw [run_callFunc_extern Tryz.func114 (by kernel_rfl) (by kernel_rfl) (by kernel_rfl) (e := Extern.SlicesOverlaps.overlaps #[69, 69] #[4]) (by kernel_rfl),
    run_overlaps_apart w 69 4 29 Tryz.underlying69 1 Tryz.sizeOf29 ⟨vb, 0, none⟩ ⟨g, o, none⟩ 1 1 lb cb hvb _ _ _ _ hsa hsb hc (hf 0) (hf 1)]
  rfl

set_option maxHeartbeats 4000000 in
set_option maxRecDepth 100000 in
theorem insU_shift (g n c i vb : Nat) (x : Value) (xs : List Value) (w : World) (hi : i < n) (hroom : n + 1 ≤ c) (hc63 : c ≤ 9223372036854775807) (hvb : vb ≠ g) (hl : xs.length = n)
    (hcs : ∀ (j : Nat) u, xs[j]? = some u → w.cell? ⟨g, j, none⟩ = some u) (hsp : ∀ j, j < c → (w.cell? ⟨g, j, none⟩).isSome = true) (hfz : ∀ j, w.frozen? ⟨g, j, none⟩ = false) (hx : w.cell? ⟨vb, 0, none⟩ = some x)
    (h1c : ∀ u ∈ xs, u.oneCell' = true) (h1x : x.oneCell' = true) (hsa : w.shape? vb = some (29, 1)) (hsb : w.shape? g = some (29, c)) (hf : ∀ j, w.frozen? ⟨vb, j, none⟩ = false) :
    Calls Tryz.prog 89 #[.slice (some ⟨g, 0, none⟩) n c, .int .i64 i, .slice (some ⟨vb, 0, none⟩) 1 1] w fun e w' =>
      e = .returned (.slice (some ⟨g, 0, none⟩) (n + 1) c) ∧ w' = (w.drew.setCells g (i + 1) (xs.drop i)).setCells g i [x] := by
  have hov := fun o lb cb => apartU vb g o lb cb c w hvb hsa hsb (by omega) hf
  have k1 : ¬ ((i : Int) = (n : Int)) := by omega
  have k2 : (i : Int) ≤ n := by omega
  have k3 : ¬ (c = i + 1) := by omega
  have k4 : ¬ (c = i) := by omega
  have k5 : (i : Int) ≤ (n : Int) + 1 := by omega
  have k6 : IntKind.i64.wrap ((i : Int) + 1) = (i : Int) + 1 := by rw [IntKind.wrap_i64]; omega
  have k7 : (0 : Int) ≤ (i : Int) + 1 := by omega
  have k8 : ((i : Int) + 1).toNat = i + 1 := by omega
  have mixed : Tryz.prog.follows Departure.mixedOrders = true := by kernel_rfl
  have hsz : (Tryz.prog.info? 29).map (·.size) = some 1 := by
    obtain ⟨i0, hi0, h0, h1, h2⟩ := info_parts Tryz.infoU64
    rw [hi0]; simp [h1]
  have hdl : (xs.drop i).length = n - i := by rw [List.length_drop, hl]
  have hcp1 : ∀ ty dc sc, (Builtin.copy_ #[69, 69] ty #[.slice (some ⟨g, i + 1, none⟩) (n - i) dc, .slice (some ⟨g, i, none⟩) (n + 1 - i) sc]).run Tryz.prog w.drew = .ok (goInt (xs.drop i).length) (w.drew.setCells g (i + 1) (xs.drop i)) := fun ty dc sc =>
    run_copy_cells w.drew _ _ ty 29 g (i + 1) (n - i) dc ⟨g, i, none⟩ (n + 1 - i) sc (xs.drop i) Tryz.underlying69 hsz (by rw [hdl]; simp only [Nat.min_def]; split <;> omega)
      (fun j u hj => by rw [Addr.add_lit]; exact hcs (i + j) u (by rwa [List.getElem?_drop] at hj)) (fun j hj => hsp _ (by omega)) (fun j hj => hfz _) (fun u hu => h1c u (List.mem_of_mem_drop hu))
  obtain ⟨W1, hW1⟩ : ∃ W1, W1 = w.drew.setCells g (i + 1) (xs.drop i) := ⟨_, rfl⟩
  have hsp1 : ∀ k, k < c → (W1.cell? ⟨g, k, none⟩).isSome = true := fun k hk => by
    rw [hW1]; exact isSome_setCells g (xs.drop i) (i + 1) w.drew (fun j hj => hsp _ (by omega)) _ (hsp k hk)
  have hcp2 : ∀ (W : World), (∀ y, W.cell? y = W1.cell? y) → (∀ y, W.frozen? y = W1.frozen? y) → ∀ ty dc, (Builtin.copy_ #[69, 69] ty #[.slice (some ⟨g, i, none⟩) (n + 1 - i) dc, .slice (some ⟨vb, 0, none⟩) 1 1]).run Tryz.prog W = .ok (goInt [x].length) (W.setCells g i [x]) := fun W hWc hWf ty dc =>
    run_copy_cells W _ _ ty 29 g i (n + 1 - i) dc ⟨vb, 0, none⟩ 1 1 [x] Tryz.underlying69 hsz (by simp only [Nat.min_def, List.length_cons, List.length_nil]; split <;> omega)
      (fun j u hj => by
        obtain ⟨rfl, rfl⟩ : j = 0 ∧ x = u := by match j, hj with | 0, h => simpa using h
        rw [Addr.add_lit, hWc, hW1, World.cell?_setCells_out g _ _ _ _ (fun h _ => absurd h hvb)]
        exact hx)
      (fun j hj => by rw [hWc]; exact hsp1 _ (by simp at hj; omega)) (fun j hj => by rw [hWf, hW1, World.frozen?_setCells]; exact hfz _) (by simpa using h1x)
  rw [← hW1] at hcp1
  have HW1 : Hid (W1 = w.drew.setCells g (i + 1) (xs.drop i)) := hW1
  clear hsp hfz hcs hsa hsb hf h1c h1x hW1 hsp1 hx
  go_enter Tryz.func89, Tryz.ntmps89
  go_wp2_with (simp only [hov])
  go_region_law_o (refine step_copy_runI rfl _ _ 69 69 rfl _ _ (by simp [Act.eval, Act.put]) (by simp [Act.eval, Act.put]) (hcp1 _ _ _) ?_)
  go_wp2_with (at_builtin; refine wpList_copy_runI _ rfl _ _ 69 69 rfl _ _ rfl rfl (hcp2 _ (fun _ => rfl) (fun _ => rfl) _ _) ?_)
  go_ret
  exact ⟨rfl, by rw [HW1.out]⟩

abbrev rowU (w : World) (n c i : Nat) (xs : List Value) : Array Value := (xs.take i).toArray ++ Builtin.zeroCells (Value.int .u64 0).cells (n + 1 - i) ++ Builtin.zeroCells (Value.int .u64 0).cells (grownCap w (n + 1) c 29 - (n + 1))

set_option maxHeartbeats 4000000 in
set_option maxRecDepth 100000 in
theorem insU_grow (g n c i vb : Nat) (x : Value) (xs : List Value) (w : World) (hi : i < n) (hnc : n ≤ c) (hroom : c < n + 1) (hlen : n < 1000000) (hl : xs.length = n)
    (hcs : ∀ (j : Nat) u, xs[j]? = some u → w.cell? ⟨g, j, none⟩ = some u) (hx : w.cell? ⟨vb, 0, none⟩ = some x) (h1c : ∀ u ∈ xs, u.oneCell' = true) (h1x : x.oneCell' = true) :
    Calls Tryz.prog 89 #[.slice (some ⟨g, 0, none⟩) n c, .int .i64 i, .slice (some ⟨vb, 0, none⟩) 1 1] w fun e w' =>
      e = .returned (.slice (some ⟨w.heap.size, 0, none⟩) (n + 1) (grownCap w (n + 1) c 29)) ∧
        w' = (((w.alloc (.cells (rowU w n c i xs) 29)).drew.setCells w.heap.size i [x]).drew).setCells w.heap.size (i + 1) (xs.drop i) := by
  obtain ⟨i0, hi0, hz0, hzs, hzb⟩ := info_parts Tryz.infoU64
  have hsz : (Tryz.prog.info? 29).map (·.size) = some 1 := by rw [hi0]; simp [hzs]
  have hgw : g < w.heap.size := World.block_lt_of_cell? _ _ (hcs 0 _ (List.getElem?_eq_getElem (by omega)))
  have hvw : vb < w.heap.size := World.block_lt_of_cell? _ _ hx
  have hap : ∀ ty, (Builtin.append_ #[69, 3] ty #[.slice (some ⟨g, 0, none⟩) i c, .int .i64 ((n : Int) + 1 - (i : Int))]).run Tryz.prog w =
      .ok (.slice (some ⟨w.heap.size, 0, none⟩) (n + 1) (grownCap w (n + 1) c 29)) (w.drew.alloc (.cells (rowU w n c i xs) 29)) := fun ty => by
    have hold : (Builtin.firstCells i0.size i (.slice (some ⟨g, 0, none⟩) i c)).run Tryz.prog w.drew = .ok (xs.take i).toArray w.drew := by
      rw [hzs]
      refine run_firstCells_some w.drew 1 i ⟨g, 0, none⟩ i c (xs.take i) (by rw [List.length_take]; omega) (fun j v hj => ?_)
      rw [List.getElem?_take] at hj
      split at hj
      · rw [add_zero_lit, Nat.zero_add]; exact hcs j v hj
      · cases hj
    have h := run_append_grow_zeros w 69 3 ty 29 i0 _ .i64 .i64 Tryz.underlying69 Tryz.underlying3 hi0 hz0 (some ⟨g, 0, none⟩) i c (xs.take i) hold (n + 1 - i) (by omega) (by omega) (by omega) (by omega) (by rw [hzb]; omega) (by rw [hzb, show i + (n + 1 - i) = n + 1 by omega]; exact growslice_fits hroom (by omega))
    rw [show i + (n + 1 - i) = n + 1 by omega] at h
    rw [show (n : Int) + 1 - (i : Int) = ((n + 1 - i : Nat) : Int) by omega]
    exact h
  have hG := grownCap_ge w (n + 1) c 29
  have hG63 : grownCap w (n + 1) c 29 ≤ 9223372036854775807 := by
    have := grownCap_le_maxLen w (n + 1) c 29 (by unfold maxLen; omega)
    unfold maxLen at this; omega
  have hRl : n + 1 ≤ (rowU w n c i xs).size := by simp [rowU, Builtin.zeroCells, Value.cells]; omega
  generalize hR : rowU w n c i xs = R at hap hRl ⊢
  generalize grownCap w (n + 1) c 29 = G at hap hG hG63 ⊢
  have hN : ∀ j, j < n + 1 → ((w.drew.alloc (.cells R 29)).cell? ⟨w.heap.size, j, none⟩).isSome = true := fun j hj => by
    rw [World.cell?_alloc_at (w := w.drew) R _ w.heap.size j rfl, Array.getElem?_eq_getElem (by omega)]; rfl
  have hNf : ∀ j, (w.drew.alloc (.cells R 29)).frozen? ⟨w.heap.size, j, none⟩ = false := fun j => World.frozen?_alloc_at (w := w.drew) R _ w.heap.size j rfl
  have hdl : (xs.drop i).length = n - i := by rw [List.length_drop, hl]
  have hcpA : ∀ (W : World), (∀ y, W.cell? y = (w.drew.alloc (.cells R 29)).cell? y) → (∀ y, W.frozen? y = (w.drew.alloc (.cells R 29)).frozen? y) → ∀ ty dc, (Builtin.copy_ #[69, 69] ty #[.slice (some ⟨w.heap.size, i, none⟩) (n + 1 - i) dc, .slice (some ⟨vb, 0, none⟩) 1 1]).run Tryz.prog W = .ok (goInt [x].length) (W.setCells w.heap.size i [x]) := fun W hWc hWf ty dc =>
    run_copy_cells W _ _ ty 29 w.heap.size i (n + 1 - i) dc ⟨vb, 0, none⟩ 1 1 [x] Tryz.underlying69 hsz (by simp only [Nat.min_def, List.length_cons, List.length_nil]; split <;> omega)
      (fun j u hj => by
        obtain ⟨rfl, rfl⟩ : j = 0 ∧ x = u := by match j, hj with | 0, h => simpa using h
        rw [Addr.add_lit, hWc, World.cell?_alloc_past (w := w.drew) _ vb _ hvw]; exact hx)
      (fun j hj => by rw [hWc]; exact hN _ (by simp at hj; omega)) (fun j hj => by rw [hWf]; exact hNf _) (by simpa using h1x)
  have hcpB : ∀ (W : World), (∀ y, W.cell? y = ((w.drew.alloc (.cells R 29)).setCells w.heap.size i [x]).cell? y) → (∀ y, W.frozen? y = ((w.drew.alloc (.cells R 29)).setCells w.heap.size i [x]).frozen? y) → ∀ ty dc sc,
      (Builtin.copy_ #[69, 69] ty #[.slice (some ⟨w.heap.size, i + 1, none⟩) (n - i) dc, .slice (some ⟨g, i, none⟩) (n - i) sc]).run Tryz.prog W = .ok (goInt (xs.drop i).length) (W.setCells w.heap.size (i + 1) (xs.drop i)) := fun W hWc hWf ty dc sc =>
    run_copy_cells W _ _ ty 29 w.heap.size (i + 1) (n - i) dc ⟨g, i, none⟩ (n - i) sc (xs.drop i) Tryz.underlying69 hsz (by rw [hdl]; simp only [Nat.min_def]; split <;> omega)
      (fun j u hj => by
        rw [Addr.add_lit, hWc, World.cell?_setCells_out _ _ _ _ _ (fun h _ => absurd h (by show g ≠ w.heap.size; omega)), World.cell?_alloc_past (w := w.drew) _ g _ hgw]
        exact hcs (i + j) u (by rwa [List.getElem?_drop] at hj))
      (fun j hj => by rw [hWc]; exact isSome_setCells w.heap.size [x] i _ (fun t ht => hN _ (by simp at ht; omega)) _ (hN _ (by omega)))
      (fun j hj => by rw [hWf, World.frozen?_setCells]; exact hNf _) (fun u hu => h1c u (List.mem_of_mem_drop hu))
  have hE1 : ∀ y, ((w.alloc (.cells R 29)).drew).cell? y = (w.drew.alloc (.cells R 29)).cell? y := fun y => rfl
  have hE2 : ∀ y, ((w.alloc (.cells R 29)).drew).frozen? y = (w.drew.alloc (.cells R 29)).frozen? y := fun y => rfl
  have hF1 : ∀ y, (((w.alloc (.cells R 29)).drew.setCells w.heap.size i [x]).drew).cell? y = ((w.drew.alloc (.cells R 29)).setCells w.heap.size i [x]).cell? y := fun y => rfl
  have hF2 : ∀ y, (((w.alloc (.cells R 29)).drew.setCells w.heap.size i [x]).drew).frozen? y = ((w.drew.alloc (.cells R 29)).setCells w.heap.size i [x]).frozen? y := fun y => rfl
  have k1 : ¬ ((i : Int) = (n : Int)) := by omega
  have k2 : (i : Int) ≤ n := by omega
  have k3 : ¬ (G = i + 1) := by omega
  have k4 : ¬ (G = i) := by omega
  have k5 : (c : Int) < (n : Int) + 1 := by omega
  have k6 : IntKind.i64.wrap ((i : Int) + 1) = (i : Int) + 1 := by rw [IntKind.wrap_i64]; omega
  have k7 : (0 : Int) ≤ (i : Int) + 1 := by omega
  have k8 : ((i : Int) + 1).toNat = i + 1 := by omega
  have k9 : ¬ (c = i) := by omega
  have mixed : Tryz.prog.follows Departure.mixedOrders = true := by kernel_rfl
  clear hcs hx h1c h1x hN hNf hR hRl hi0 hz0 hzs hzb hsz hdl
  go_enter Tryz.func89, Tryz.ntmps89
  go_wp2_with (first
    | (at_builtin; refine wpList_append_run _ rfl _ _ _ _ rfl _ _ rfl rfl _ _ (hap _) ?_)
    | (at_builtin; refine wpList_copy_runI _ rfl _ _ 69 69 rfl _ _ rfl rfl (hcpA _ hE1 hE2 _ _) ?_))
  go_region_law_o (refine step_copy_runI rfl _ _ 69 69 rfl (.slice (some ⟨w.heap.size, i + 1, none⟩) (n - i) (G - (i + 1))) (.slice (some ⟨g, i, none⟩) (n - i) (c - i)) (by simp [Act.eval, Act.put]) (by simp [Act.eval, Act.put]) (hcpB _ hF1 hF2 3 (G - (i + 1)) (c - i)) ?_)
  go_wp2
  go_ret
  exact ⟨rfl, rfl⟩

theorem insV_any (base n i vb : Nat) (v x : Value) (xs : List Value) (w : World) (hr : w.ownsRow base 29 1 v n xs) (hi : i ≤ n) (hvb : w.heap[vb]? = some (.cells #[x] 29 (0, 0))) (hne : some vb ≠ v.ownBlock)
    (hbase : base ≤ w.heap.size) (hlen : n < 1000000) (h1c : ∀ u ∈ xs, u.oneCell' = true) (h1x : x.oneCell' = true) :
    Calls Tryz.prog 89 #[v, .int .i64 i, .slice (some ⟨vb, 0, none⟩) 1 1] w fun e w' => ∃ v', e = .returned v' ∧ Inserted w w' base 29 v v' n i xs x := by
  by_cases hin : i = n
  · exact insU_any base n i vb v x xs w hr hin hvb hne hbase hlen h1c h1x
  · obtain ⟨-, hsa⟩ := one_facts hvb
    have hfv : ∀ j, w.frozen? ⟨vb, j, none⟩ = false := fun j => by simp [World.frozen?, hvb]
    have hx : w.cell? ⟨vb, 0, none⟩ = some x := by rw [heap_cell hvb 0]; simp
    rcases hr.2 with ⟨rfl, rfl⟩ | ⟨g, cap, cur, rfl, _⟩
    · omega
    · obtain ⟨hl, hn, hm, hcs, hsp, hfz, hsh⟩ := row_facts hr
      have hm' : cap ≤ 9223372036854775807 := by simpa [maxLen] using hm
      simp only [Nat.zero_add] at hcs hsp hfz
      by_cases hroom : n + 1 ≤ cap
      · refine (insU_shift g n cap i vb x xs w (by omega) hroom hm' (fun e => hne (by simp [Value.ownBlock, e])) hl hcs hsp hfz hx h1c h1x hsa hsh hfv).mono ?_
        rintro e w' ⟨rfl, rfl⟩
        exact ⟨_, rfl, own_shift hr hi hroom⟩
      · refine (insU_grow g n cap i vb x xs w (by omega) hn (by omega) hlen hl hcs hx h1c h1x).mono ?_
        rintro e w' ⟨rfl, rfl⟩
        exact ⟨_, rfl, own_grow hl (by omega) rfl hbase (by simp [maxLen]; omega)⟩

end Go.Proofs.YtcjblafohfiiaabGreat
