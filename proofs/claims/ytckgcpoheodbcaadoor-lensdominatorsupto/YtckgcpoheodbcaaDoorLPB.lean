/-
  Shortest paths: the ways of a graph that may be; numbers in a block, negative ones too; lists of one's own as they are read.
-/
import Derived.Test.YtckgcpoheodbcaaDoorPLs
import Derived.Test.YtckgcpoheodbcaaDoorLPA
set_option linter.unusedVariables false
set_option maxRecDepth 20000
namespace Go.Proofs.YtckgcpoheodbcaaDoor
open Go.RowKit Go.Shelf Go.Proofs.YtckgcpoheodbcaaDoor.Lp

/-- The document's ways. -/
def wy17 (g : Im.Gr) : Nat → List Nat
  | 0 => (rtl g).map Int.toNat
  | i + 1 => match g.obs[i]? with
    | some o => (stg o).map Int.toNat
    | none => []

/-- The program's. -/
def rw17 (g : Im.Gr) : Nat → List Int
  | 0 => (g.hs ++ g.qu ++ slotsF g.slots).filter (fun z => !decide (z < 1))
  | i + 1 => match g.obs[i]? with
    | some o => o.ps.drop (fst17 o.kind)
    | none => []

theorem inB_iff {lo hi z : Int} : inB lo hi z = true ↔ lo ≤ z ∧ z ≤ hi := by
  unfold inB
  rw [Bool.and_eq_true, decide_eq_true_iff, decide_eq_true_iff]

theorem rtl_in {g : Im.Gr} (h : MB g) {z : Int} (hz : z ∈ rtl g) : 1 ≤ z ∧ z ≤ g.obs.length := by
  unfold rtl at hz
  rw [List.mem_filter] at hz
  have h0 : 0 < z := of_decide_eq_true hz.2
  rcases List.mem_append.1 hz.1 with h1 | h1
  · rcases List.mem_append.1 h1 with h1 | h1
    · obtain ⟨t, ht, f, hf, hz'⟩ := (mem_slotsF _ _).1 h1
      have := inB_iff.1 ((h.s.ok t ht f hf).2 z hz')
      omega
    · have := inB_iff.1 (h.h.all z h1)
      omega
  · have := inB_iff.1 (h.f.que z h1)
    omega

theorem ps_in {g : Im.Gr} (h : MB g) {i : Nat} {o : Im.Ob} (ho : g.obs[i]? = some o) {z : Int} (hz : z ∈ o.ps) : 0 ≤ z ∧ z ≤ g.obs.length := inB_iff.1 (h.o.ptrs o (List.mem_of_getElem? ho) z hz)

theorem stg_in {g : Im.Gr} (h : MB g) {i : Nat} {o : Im.Ob} (ho : g.obs[i]? = some o) {z : Int} (hz : z ∈ stg o) : 1 ≤ z ∧ z ≤ g.obs.length := by
  unfold stg at hz
  rw [List.mem_filter] at hz
  have h0 : 0 < z := of_decide_eq_true hz.2
  have := ps_in h ho (List.mem_of_mem_drop hz.1)
  omega

theorem toNat_back (l : List Int) (h : ∀ z, z ∈ l → 0 ≤ z) : l = (l.map Int.toNat).map Int.ofNat := by
  rw [List.map_map]
  conv => lhs; rw [← List.map_id l]
  refine List.map_congr_left (fun z hz => ?_)
  show z = Int.ofNat z.toNat
  rw [Int.ofNat_eq_natCast, Int.toNat_of_nonneg (h z hz)]

theorem wy_root {g : Im.Gr} (h : MB g) : rtl g = (wy17 g 0).map Int.ofNat := toNat_back _ (fun z hz => by have := rtl_in h hz; omega)

theorem wy_obj {g : Im.Gr} (h : MB g) {i : Nat} {o : Im.Ob} (ho : g.obs[i]? = some o) : stg o = (wy17 g (i + 1)).map Int.ofNat := by
  have e : wy17 g (i + 1) = (stg o).map Int.toNat := by simp only [wy17, ho]
  rw [e]
  exact toNat_back _ (fun z hz => by have := stg_in h ho hz; omega)

theorem wy_in {g : Im.Gr} (h : MB g) : ∀ z y, y ∈ wy17 g z → 1 ≤ y ∧ y ≤ g.obs.length := by
  intro z y hy
  cases z with
  | zero =>
    obtain ⟨x, hx, rfl⟩ := List.mem_map.1 hy
    have := rtl_in h hx
    omega
  | succ i =>
    cases ho : g.obs[i]? with
    | none => simp [wy17, ho] at hy
    | some o =>
      simp only [wy17, ho] at hy
      obtain ⟨x, hx, rfl⟩ := List.mem_map.1 hy
      have := stg_in h ho hx
      omega

theorem rw_in {g : Im.Gr} (h : MB g) : ∀ (n : Nat) z, z ∈ rw17 g n → 0 ≤ z ∧ z ≤ g.obs.length := by
  intro n z hz
  cases n with
  | zero =>
    unfold rw17 at hz
    rw [List.mem_filter] at hz
    have h0 : 0 < z := by
      have h9 := hz.2
      simp only [Bool.not_eq_true', decide_eq_false_iff_not] at h9
      omega
    have := rtl_in h (z := z) (by
      unfold rtl
      rw [List.mem_filter]
      refine ⟨?_, decide_eq_true h0⟩
      have h1 := hz.1
      simp only [List.mem_append] at h1 ⊢
      rcases h1 with (h1 | h1) | h1
      · exact .inl (.inr h1)
      · exact .inr h1
      · exact .inl (.inl h1))
    omega
  | succ i =>
    cases ho : g.obs[i]? with
    | none => simp [rw17, ho] at hz
    | some o =>
      simp only [rw17, ho] at hz
      exact ps_in h ho (List.mem_of_mem_drop hz)

/-- Both lead to the same. -/
theorem wy_rw {g : Im.Gr} (h : MB g) (n y : Nat) : y ∈ wy17 g n ↔ (y : Int) ∈ rw17 g n ∧ y ≠ 0 := by
  cases n with
  | zero =>
    have e : y ∈ wy17 g 0 ↔ (y : Int) ∈ rtl g := by
      conv => rhs; rw [wy_root h]
      rw [List.mem_map]
      constructor
      · intro hy; exact ⟨y, hy, rfl⟩
      · rintro ⟨x, hx, e⟩
        have : x = y := Int.ofNat.inj e
        rwa [← this]
    rw [e]
    unfold rtl rw17
    rw [List.mem_filter, List.mem_filter]
    simp only [List.mem_append, decide_eq_true_eq, Bool.not_eq_true', decide_eq_false_iff_not]
    constructor
    · rintro ⟨(h1 | h1) | h1, h2⟩
      · exact ⟨⟨.inr h1, by omega⟩, by omega⟩
      · exact ⟨⟨.inl (.inl h1), by omega⟩, by omega⟩
      · exact ⟨⟨.inl (.inr h1), by omega⟩, by omega⟩
    · rintro ⟨⟨(h1 | h1) | h1, h2⟩, h3⟩
      · exact ⟨.inl (.inr h1), by omega⟩
      · exact ⟨.inr h1, by omega⟩
      · exact ⟨.inl (.inl h1), by omega⟩
  | succ i =>
    cases ho : g.obs[i]? with
    | none => simp [wy17, rw17, ho]
    | some o =>
      have e : y ∈ wy17 g (i + 1) ↔ (y : Int) ∈ stg o := by
        conv => rhs; rw [wy_obj h ho]
        rw [List.mem_map]
        constructor
        · intro hy; exact ⟨y, hy, rfl⟩
        · rintro ⟨x, hx, e⟩
          have : x = y := Int.ofNat.inj e
          rwa [← this]
      rw [e]
      unfold stg
      simp only [rw17, ho]
      rw [List.mem_filter]
      simp only [decide_eq_true_eq]
      constructor
      · rintro ⟨h1, h2⟩; exact ⟨h1, by omega⟩
      · rintro ⟨h1, h2⟩; exact ⟨h1, by omega⟩

/-- A first strong field is there. -/
theorem fst_le {g : Im.Gr} (h : MB g) {o : Im.Ob} (ho : o ∈ g.obs) : fst17 o.kind ≤ o.ps.length ∧ o.ps.length ≤ 4095 := by
  have h1 := h.o.head o ho
  unfold hd16 flt at h1
  unfold fst17
  split at h1
  · omega
  · split at h1
    · omega
    · split
      · omega
      · split <;> omega

/-- Numbers in a block of one's own, negative ones too. -/
structure Fz (w : World) (fb m : Nat) (fa : Nat → Int) : Prop where
  ex : ∃ cs, w.heap[fb]? = some (.cells cs 3 (0, 0)) ∧ cs.size = m ∧ ∀ x, x < m → cs[x]? = some (.int .i64 (fa x))

theorem Fz.lt {w : World} {fb m : Nat} {fa : Nat → Int} (h : Fz w fb m fa) : fb < w.heap.size := by
  obtain ⟨cs, h1, -⟩ := h.ex
  exact Kg.heap_lt h1

theorem Fz.cell {w : World} {fb m : Nat} {fa : Nat → Int} (h : Fz w fb m fa) {x : Nat} (hx : x < m) : w.cell? ⟨fb, x, none⟩ = some (.int .i64 (fa x)) := by
  obtain ⟨cs, h1, -, h3⟩ := h.ex
  exact (Kg.heap_cell h1 x).trans (h3 x hx)

theorem Fz.frozen {w : World} {fb m : Nat} {fa : Nat → Int} (h : Fz w fb m fa) (x : Nat) : w.frozen? ⟨fb, x, none⟩ = false := by
  obtain ⟨cs, h1, -⟩ := h.ex
  exact Kg.heap_frozen h1 x

theorem Fz.touch {w w' : World} {fb m : Nat} {fa : Nat → Int} {F : List Nat} (h : Fz w fb m fa) (ht : Kg.Touch F w w') (hF : fb ∉ F) : Fz w' fb m fa := by
  obtain ⟨cs, h1, h2, h3⟩ := h.ex
  exact ⟨cs, (ht.block _ (Kg.heap_lt h1) hF).trans h1, h2, h3⟩

theorem Fz.set {w : World} {fb m : Nat} {fa : Nat → Int} (h : Fz w fb m fa) {x : Nat} (hx : x < m) (v : Int) : Fz (w.setCell ⟨fb, x, none⟩ (.int .i64 v)) fb m (fun y => if y = x then v else fa y) := by
  obtain ⟨cs, h1, h2, h3⟩ := h.ex
  refine ⟨cs.setIfInBounds x (.int .i64 v), Kg.heap_set h1 x _, by simp [h2], fun y hy => ?_⟩
  rw [Array.getElem?_setIfInBounds]
  by_cases e : x = y
  · subst e
    rw [if_pos rfl, if_pos (by rw [h2]; exact hx), if_pos rfl]
  · rw [if_neg e, if_neg (fun h => e h.symm)]
    exact h3 y hy

theorem Fz.congr {w : World} {fb m : Nat} {fa fa' : Nat → Int} (h : Fz w fb m fa) (e : ∀ x, x < m → fa' x = fa x) : Fz w fb m fa' := by
  obtain ⟨cs, h1, h2, h3⟩ := h.ex
  exact ⟨cs, h1, h2, fun x hx => by rw [e x hx]; exact h3 x hx⟩

/-- A list of one's own, read in any world in which its block has not changed. -/
theorem Il.at_ {w w' : World} {base : Nat} {v : Value} {l : List Int} {F : List Nat} (h : Il w base v l) (ht : Kg.Touch F w w') (hF : ∀ k, k ∈ F → k < base) :
    ∃ a cap, v = .slice a l.length cap ∧ ∀ (f : Nat) z, l[f]? = some z → ∃ q, a = some ⟨q, 0, none⟩ ∧ base ≤ q ∧ q < w.heap.size ∧ w'.cell? ⟨q, f, none⟩ = some (.int .i64 z) := by
  have h' : w'.ownsRow base 3 1 v l.length (Kg.ints l) := Kg.row_keep2 h ht (fun k hk hkF => by
    have := (World.ownsRow.lt h k hk).1
    have := hF k hkF
    omega)
  obtain ⟨a, cap, e, -, hc⟩ := row_at (Kg.row_base h' (Nat.zero_le _)) (by decide)
  refine ⟨a, cap, e, fun f z hz => ?_⟩
  obtain ⟨q, h1, -, h3⟩ := hc f (.int .i64 z) (by rw [Kg.ints, List.getElem?_map, hz]; rfl)
  have h4 := World.ownsRow.lt h q (by rw [e, h1]; rfl)
  exact ⟨q, h1, h4.1, h4.2, h3⟩

theorem Il.lrd {w : World} {base : Nat} {v : Value} {l : List Int} (h : Il w base v l) : Lrd w.heap.size w v .i64 l := Lrd.of_row (Kg.row_base h (Nat.zero_le _))

end Go.Proofs.YtckgcpoheodbcaaDoor
