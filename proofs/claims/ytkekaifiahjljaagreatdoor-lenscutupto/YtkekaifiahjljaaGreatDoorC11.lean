import Derived.Test.YtkekaifiahjljaaGreatDoorC10
import Derived.Test.YtkekaifiahjljaaGreatDoorRows
set_option linter.unusedVariables false
set_option maxHeartbeats 8000000
set_option maxRecDepth 20000
namespace Go.Proofs.YtkekaifiahjljaaGreatDoor
open Go.RowKit Go.Shelf Go.Proofs.YtkekaifiahjljaaGreatDoor.Lp
structure Fw (w : World) (fb m : Nat) (fa : Nat → Nat) : Prop where
  ex : ∃ cs, w.heap[fb]? = some (.cells cs 3 (0, 0)) ∧ cs.size = m ∧ ∀ x, x < m → cs[x]? = some (.int .i64 (fa x : Nat))
theorem make_ints17 (m : Nat) (hm : m ≤ 1000000000001) : ∀ w, (Instr.makeSlice 24 (.int .i64 (m : Int)) (.int .i64 (m : Int))).run Tryz.prog w = .ok (.slice (some ⟨w.heap.size, 0, none⟩) m m) (w.alloc (.cells (madeCells #[.int .i64 0] m) 3)) := fun w => by
  obtain ⟨i0, hi0, hz0, hz1, hz2⟩ := info_p17 infoI17
  have := run_make (P := Tryz.prog) w 24 3 i0 (.int .i64 0) Tryz.underlying24 hi0 hz0 .i64 .i64 m m (by omega) (Int.le_refl _) (by rw [hz2]; omega) (by omega)
  rw [hz1, Nat.mul_one] at this
  exact this
theorem Fw.new (w : World) (m : Nat) : Fw (w.alloc (.cells (madeCells #[.int .i64 0] m) 3)) w.heap.size m (fun _ => 0) :=
  ⟨_, heap_alloc_new w _, by simp [madeCells], fun x hx => by simp [madeCells, hx, Nat.mod_one]⟩
end Go.Proofs.YtkekaifiahjljaaGreatDoor
namespace Go.Proofs.YtkekaifiahjljaaGreatDoor.Lp
structure NW (seq l new : List Nat) : Prop where
  pw : new.Pairwise (· < ·)
  mem : ∀ y, y ∈ new ↔ y ∈ l ∧ y ∉ seq
theorem NW.nil (seq : List Nat) : NW seq [] [] := ⟨List.Pairwise.nil, fun y => by simp⟩
theorem NW.skip {seq l new : List Nat} (h : NW seq l new) {x : Nat} (hx : x ∈ seq ∨ x ∈ new) : NW seq (l ++ [x]) new := by
  refine ⟨h.pw, fun y => ?_⟩
  rw [h.mem, List.mem_append]
  constructor
  · rintro ⟨a, b⟩; exact ⟨.inl a, b⟩
  · rintro ⟨a | a, b⟩
    · exact ⟨a, b⟩
    · have e : y = x := by simpa using a
      subst e
      rcases hx with hx | hx
      · exact absurd hx b
      · exact ⟨((h.mem y).1 hx).1, b⟩
theorem NW.add {seq l new : List Nat} (h : NW seq l new) {x : Nat} (hx : x ∉ seq) (hn : x ∉ new) (hs : ∀ y, y ∈ l → y ≤ x) : NW seq (l ++ [x]) (new ++ [x]) := by
  refine ⟨?_, fun y => ?_⟩
  · rw [List.pairwise_append]
    refine ⟨h.pw, List.pairwise_singleton _ _, fun a ha b hb => ?_⟩
    have e : b = x := by simpa using hb
    subst e
    have h1 := hs a ((h.mem a).1 ha).1
    rcases Nat.lt_or_eq_of_le h1 with h2 | h2
    · exact h2
    · exact absurd (h2 ▸ ha) hn
  · rw [List.mem_append, List.mem_append, h.mem]
    constructor
    · rintro (⟨a, b⟩ | a)
      · exact ⟨.inl a, b⟩
      · have e : y = x := by simpa using a
        subst e
        exact ⟨.inr a, hx⟩
    · rintro ⟨a | a, b⟩
      · exact .inl ⟨a, b⟩
      · exact .inr a
def byv (seq : List Nat) (by' : Nat → Nat) (y : Nat) : Int := if y ∈ seq then (by' y : Int) else -1
def byn (seq new : List Nat) (by' : Nat → Nat) (n y : Nat) : Int := if y ∈ new then (n : Int) else byv seq by' y
theorem byn_nil (seq : List Nat) (by' : Nat → Nat) (n : Nat) : byn seq [] by' n = byv seq by' := by
  funext y
  simp [byn]
theorem byn_end (seq new : List Nat) (by' : Nat → Nat) (n : Nat) : byv (seq ++ new) (fun y => if y ∈ new then n else by' y) = byn seq new by' n := by
  funext y
  unfold byv byn byv
  by_cases h : y ∈ new
  · simp [h]
  · simp [h]
theorem byn_add (seq new : List Nat) (by' : Nat → Nat) (n x : Nat) : (fun y => if y = x then (n : Int) else byn seq new by' n y) = byn seq (new ++ [x]) by' n := by
  funext y
  unfold byn
  by_cases h : y = x
  · simp [h]
  · simp [h]
theorem byn_neg {seq new : List Nat} {by' : Nat → Nat} {n x : Nat} : byn seq new by' n x = -1 ↔ x ∉ seq ∧ x ∉ new := by
  unfold byn byv
  by_cases h : x ∈ new
  · rw [if_pos h]; exact ⟨fun e => by omega, fun e => absurd h e.2⟩
  · rw [if_neg h]
    by_cases h2 : x ∈ seq
    · rw [if_pos h2]; exact ⟨fun e => by omega, fun e => absurd h2 e.1⟩
    · rw [if_neg h2]; exact ⟨fun _ => ⟨h2, h⟩, fun _ => rfl⟩
theorem byv_neg {seq : List Nat} {by' : Nat → Nat} {x : Nat} : byv seq by' x = -1 ↔ x ∉ seq := by
  unfold byv
  by_cases h2 : x ∈ seq
  · rw [if_pos h2]; exact ⟨fun e => by omega, fun e => absurd h2 e⟩
  · rw [if_neg h2]; exact ⟨fun _ => h2, fun _ => rfl⟩
theorem byv_in {seq : List Nat} {by' : Nat → Nat} {x : Nat} (h : x ∈ seq) : byv seq by' x = (by' x : Int) := if_pos h
variable {W : Nat → List Nat} {seq : List Nat} {k : Nat} {by' dep pos : Nat → Nat}
theorem Bt.nodup (h : Bt W seq k by' dep pos) : seq.Nodup := by
  unfold List.Nodup
  rw [List.pairwise_iff_getElem]
  intro i j hi hj hij e
  have h1 := h.ps j _ (List.getElem?_eq_getElem hj)
  have h2 := h.ps i _ (List.getElem?_eq_getElem hi)
  rw [e] at h2
  omega
theorem Bt.len (h : Bt W seq k by' dep pos) {m : Nat} (hm : ∀ y, y ∈ seq → y < m) : seq.length ≤ m := by
  have := nodup_len seq (List.range m) h.nodup (fun y hy => List.mem_range.2 (hm y hy))
  rwa [List.length_range] at this
theorem Chn.zero {by' : Nat → Nat} {l : List Nat} (h : Chn by' 0 l) : l = [] := by
  cases h with
  | nil => rfl
  | snoc h0 => exact absurd rfl h0
theorem Chn.last {by' : Nat → Nat} {t : Nat} {l : List Nat} (h : Chn by' t l) (h0 : t ≠ 0) : ∃ l', l = l' ++ [t] ∧ Chn by' (by' t) l' := by
  cases h with
  | nil => exact absurd rfl h0
  | snoc _ h => exact ⟨_, rfl, h⟩
theorem Chn.len (h : Bt W seq k by' dep pos) : ∀ (n t : Nat) (l : List Nat), pos t = n → t ∈ seq → Chn by' t l → l.length ≤ n := by
  intro n
  induction n using Nat.strongRecOn with
  | _ n ih =>
    intro t l hn ht hl
    by_cases e : t = 0
    · subst e
      rw [hl.zero]; exact Nat.zero_le _
    · obtain ⟨l', rfl, hl'⟩ := hl.last e
      have p := h.pr t ht e
      have := ih (pos (by' t)) (by omega) (by' t) l' rfl p.1 hl'
      rw [List.length_append]
      simp only [List.length_cons, List.length_nil]
      omega
theorem Gd.path {t x : Nat} {l : List Nat} (h : Gd W t x l) (hx : x ≠ t) : ∃ e, Pth W t e x := by
  cases h with
  | nil => exact absurd rfl hx
  | @cons _ y d _ _ hy hd => exact ⟨d + 1, show ∃ z, z ∈ W x ∧ Pth W t d z from ⟨y, hy, hd.1⟩⟩
theorem Gd.ne {t x : Nat} {l : List Nat} (h : Gd W t x l) (hx : x ≠ t) : l ≠ [] := by
  cases h with
  | nil => exact absurd rfl hx
  | cons => exact List.cons_ne_nil _ _
def Row17 (W : Nat → List Nat) (t : Nat) (l : List Nat) : Prop := (l = [] ∧ ∀ e, ¬ Pth W t e 0) ∨ (l ≠ [] ∧ Gd W t 0 l)
theorem Row17.uniq {t : Nat} {l l' : List Nat} (h : Row17 W t l) (h' : Row17 W t l') (ht : t ≠ 0) : l = l' := by
  rcases h with ⟨h1, h2⟩ | ⟨h1, h2⟩
  · rcases h' with ⟨h3, -⟩ | ⟨-, h4⟩
    · rw [h1, h3]
    · obtain ⟨e, he⟩ := h4.path (fun e => ht e.symm)
      exact absurd he (h2 e)
  · rcases h' with ⟨-, h4⟩ | ⟨-, h4⟩
    · obtain ⟨e, he⟩ := h2.path (fun e => ht e.symm)
      exact absurd he (h4 e)
    · exact h2.uniq h4
end Go.Proofs.YtkekaifiahjljaaGreatDoor.Lp
namespace Go.Proofs.YtkekaifiahjljaaGreatDoor
open Go.RowKit Go.Shelf Go.Proofs.YtkekaifiahjljaaGreatDoor.Lp
def wy17 (g : Im.Gr) : Nat → List Nat
  | 0 => (rtl g).map Int.toNat
  | i + 1 => match g.obs[i]? with
    | some o => (stg o).map Int.toNat
    | none => []
def rw17 (g : Im.Gr) : Nat → List Int
  | 0 => (g.hs ++ g.qu ++ slotsF g.slots).filter (fun z => !decide (z < 1))
  | i + 1 => match g.obs[i]? with
    | some o => o.ps.drop (fst17 o.kind)
    | none => []
theorem inB_iff {lo hi z : Int} : inB lo hi z = true ↔ lo ≤ z ∧ z ≤ hi := by
  unfold inB
  rw [Bool.and_eq_true, decide_eq_true_iff, decide_eq_true_iff]
theorem rtl_in {g : Im.Gr} (h : MB g) {z : Int} (hz : z ∈ rtl g) : 1 ≤ z ∧ z ≤ g.obs.length := by
  unfold rtl at hz
  rw [List.mem_filter] at hz
  have h0 : 0 < z := of_decide_eq_true hz.2
  rcases List.mem_append.1 hz.1 with h1 | h1
  · rcases List.mem_append.1 h1 with h1 | h1
    · obtain ⟨t, ht, f, hf, hz'⟩ := (mem_slotsF _ _).1 h1
      have := inB_iff.1 ((h.s.ok t ht f hf).2 z hz')
      omega
    · have := inB_iff.1 (h.h.all z h1)
      omega
  · have := inB_iff.1 (h.f.que z h1)
    omega
theorem ps_in {g : Im.Gr} (h : MB g) {i : Nat} {o : Im.Ob} (ho : g.obs[i]? = some o) {z : Int} (hz : z ∈ o.ps) : 0 ≤ z ∧ z ≤ g.obs.length := inB_iff.1 (h.o.ptrs o (List.mem_of_getElem? ho) z hz)
theorem stg_in {g : Im.Gr} (h : MB g) {i : Nat} {o : Im.Ob} (ho : g.obs[i]? = some o) {z : Int} (hz : z ∈ stg o) : 1 ≤ z ∧ z ≤ g.obs.length := by
  unfold stg at hz
  rw [List.mem_filter] at hz
  have h0 : 0 < z := of_decide_eq_true hz.2
  have := ps_in h ho (List.mem_of_mem_drop hz.1)
  omega
theorem toNat_back (l : List Int) (h : ∀ z, z ∈ l → 0 ≤ z) : l = (l.map Int.toNat).map Int.ofNat := by
  rw [List.map_map]
  conv => lhs; rw [← List.map_id l]
  refine List.map_congr_left (fun z hz => ?_)
  show z = Int.ofNat z.toNat
  rw [Int.ofNat_eq_natCast, Int.toNat_of_nonneg (h z hz)]
theorem wy_root {g : Im.Gr} (h : MB g) : rtl g = (wy17 g 0).map Int.ofNat := toNat_back _ (fun z hz => by have := rtl_in h hz; omega)
theorem wy_obj {g : Im.Gr} (h : MB g) {i : Nat} {o : Im.Ob} (ho : g.obs[i]? = some o) : stg o = (wy17 g (i + 1)).map Int.ofNat := by
  have e : wy17 g (i + 1) = (stg o).map Int.toNat := by simp only [wy17, ho]
  rw [e]
  exact toNat_back _ (fun z hz => by have := stg_in h ho hz; omega)
theorem wy_in {g : Im.Gr} (h : MB g) : ∀ z y, y ∈ wy17 g z → 1 ≤ y ∧ y ≤ g.obs.length := by
  intro z y hy
  cases z with
  | zero =>
    obtain ⟨x, hx, rfl⟩ := List.mem_map.1 hy
    have := rtl_in h hx
    omega
  | succ i =>
    cases ho : g.obs[i]? with
    | none => simp [wy17, ho] at hy
    | some o =>
      simp only [wy17, ho] at hy
      obtain ⟨x, hx, rfl⟩ := List.mem_map.1 hy
      have := stg_in h ho hx
      omega
theorem rw_in {g : Im.Gr} (h : MB g) : ∀ (n : Nat) z, z ∈ rw17 g n → 0 ≤ z ∧ z ≤ g.obs.length := by
  intro n z hz
  cases n with
  | zero =>
    unfold rw17 at hz
    rw [List.mem_filter] at hz
    have h0 : 0 < z := by
      have h9 := hz.2
      simp only [Bool.not_eq_true', decide_eq_false_iff_not] at h9
      omega
    have := rtl_in h (z := z) (by
      unfold rtl
      rw [List.mem_filter]
      refine ⟨?_, decide_eq_true h0⟩
      have h1 := hz.1
      simp only [List.mem_append] at h1 ⊢
      rcases h1 with (h1 | h1) | h1
      · exact .inl (.inr h1)
      · exact .inr h1
      · exact .inl (.inl h1))
    omega
  | succ i =>
    cases ho : g.obs[i]? with
    | none => simp [rw17, ho] at hz
    | some o =>
      simp only [rw17, ho] at hz
      exact ps_in h ho (List.mem_of_mem_drop hz)
theorem wy_rw {g : Im.Gr} (h : MB g) (n y : Nat) : y ∈ wy17 g n ↔ (y : Int) ∈ rw17 g n ∧ y ≠ 0 := by
  cases n with
  | zero =>
    have e : y ∈ wy17 g 0 ↔ (y : Int) ∈ rtl g := by
      conv => rhs; rw [wy_root h]
      rw [List.mem_map]
      constructor
      · intro hy; exact ⟨y, hy, rfl⟩
      · rintro ⟨x, hx, e⟩
        have : x = y := Int.ofNat.inj e
        rwa [← this]
    rw [e]
    unfold rtl rw17
    rw [List.mem_filter, List.mem_filter]
    simp only [List.mem_append, decide_eq_true_eq, Bool.not_eq_true', decide_eq_false_iff_not]
    constructor
    · rintro ⟨(h1 | h1) | h1, h2⟩
      · exact ⟨⟨.inr h1, by omega⟩, by omega⟩
      · exact ⟨⟨.inl (.inl h1), by omega⟩, by omega⟩
      · exact ⟨⟨.inl (.inr h1), by omega⟩, by omega⟩
    · rintro ⟨⟨(h1 | h1) | h1, h2⟩, h3⟩
      · exact ⟨.inl (.inr h1), by omega⟩
      · exact ⟨.inr h1, by omega⟩
      · exact ⟨.inl (.inl h1), by omega⟩
  | succ i =>
    cases ho : g.obs[i]? with
    | none => simp [wy17, rw17, ho]
    | some o =>
      have e : y ∈ wy17 g (i + 1) ↔ (y : Int) ∈ stg o := by
        conv => rhs; rw [wy_obj h ho]
        rw [List.mem_map]
        constructor
        · intro hy; exact ⟨y, hy, rfl⟩
        · rintro ⟨x, hx, e⟩
          have : x = y := Int.ofNat.inj e
          rwa [← this]
      rw [e]
      unfold stg
      simp only [rw17, ho]
      rw [List.mem_filter]
      simp only [decide_eq_true_eq]
      constructor
      · rintro ⟨h1, h2⟩; exact ⟨h1, by omega⟩
      · rintro ⟨h1, h2⟩; exact ⟨h1, by omega⟩
theorem fst_le {g : Im.Gr} (h : MB g) {o : Im.Ob} (ho : o ∈ g.obs) : fst17 o.kind ≤ o.ps.length ∧ o.ps.length ≤ 4095 := by
  have h1 := h.o.head o ho
  unfold hd16 flt at h1
  unfold fst17
  split at h1
  · omega
  · split at h1
    · omega
    · split
      · omega
      · split <;> omega
structure Fz (w : World) (fb m : Nat) (fa : Nat → Int) : Prop where
  ex : ∃ cs, w.heap[fb]? = some (.cells cs 3 (0, 0)) ∧ cs.size = m ∧ ∀ x, x < m → cs[x]? = some (.int .i64 (fa x))
theorem Fz.lt {w : World} {fb m : Nat} {fa : Nat → Int} (h : Fz w fb m fa) : fb < w.heap.size := by
  obtain ⟨cs, h1, -⟩ := h.ex
  exact Kg.heap_lt h1
theorem Fz.cell {w : World} {fb m : Nat} {fa : Nat → Int} (h : Fz w fb m fa) {x : Nat} (hx : x < m) : w.cell? ⟨fb, x, none⟩ = some (.int .i64 (fa x)) := by
  obtain ⟨cs, h1, -, h3⟩ := h.ex
  exact (Kg.heap_cell h1 x).trans (h3 x hx)
theorem Fz.frozen {w : World} {fb m : Nat} {fa : Nat → Int} (h : Fz w fb m fa) (x : Nat) : w.frozen? ⟨fb, x, none⟩ = false := by
  obtain ⟨cs, h1, -⟩ := h.ex
  exact Kg.heap_frozen h1 x
theorem Fz.touch {w w' : World} {fb m : Nat} {fa : Nat → Int} {F : List Nat} (h : Fz w fb m fa) (ht : Kg.Touch F w w') (hF : fb ∉ F) : Fz w' fb m fa := by
  obtain ⟨cs, h1, h2, h3⟩ := h.ex
  exact ⟨cs, (ht.block _ (Kg.heap_lt h1) hF).trans h1, h2, h3⟩
theorem Fz.set {w : World} {fb m : Nat} {fa : Nat → Int} (h : Fz w fb m fa) {x : Nat} (hx : x < m) (v : Int) : Fz (w.setCell ⟨fb, x, none⟩ (.int .i64 v)) fb m (fun y => if y = x then v else fa y) := by
  obtain ⟨cs, h1, h2, h3⟩ := h.ex
  refine ⟨cs.setIfInBounds x (.int .i64 v), Kg.heap_set h1 x _, by simp [h2], fun y hy => ?_⟩
  rw [Array.getElem?_setIfInBounds]
  by_cases e : x = y
  · subst e
    rw [if_pos rfl, if_pos (by rw [h2]; exact hx), if_pos rfl]
  · rw [if_neg e, if_neg (fun h => e h.symm)]
    exact h3 y hy
theorem Fz.congr {w : World} {fb m : Nat} {fa fa' : Nat → Int} (h : Fz w fb m fa) (e : ∀ x, x < m → fa' x = fa x) : Fz w fb m fa' := by
  obtain ⟨cs, h1, h2, h3⟩ := h.ex
  exact ⟨cs, h1, h2, fun x hx => by rw [e x hx]; exact h3 x hx⟩
theorem Il.at_ {w w' : World} {base : Nat} {v : Value} {l : List Int} {F : List Nat} (h : Il w base v l) (ht : Kg.Touch F w w') (hF : ∀ k, k ∈ F → k < base) :
    ∃ a cap, v = .slice a l.length cap ∧ ∀ (f : Nat) z, l[f]? = some z → ∃ q, a = some ⟨q, 0, none⟩ ∧ base ≤ q ∧ q < w.heap.size ∧ w'.cell? ⟨q, f, none⟩ = some (.int .i64 z) := by
  have h' : w'.ownsRow base 3 1 v l.length (Kg.ints l) := Kg.row_keep2 h ht (fun k hk hkF => by
    have := (World.ownsRow.lt h k hk).1
    have := hF k hkF
    omega)
  obtain ⟨a, cap, e, -, hc⟩ := row_at (Kg.row_base h' (Nat.zero_le _)) (by decide)
  refine ⟨a, cap, e, fun f z hz => ?_⟩
  obtain ⟨q, h1, -, h3⟩ := hc f (.int .i64 z) (by rw [Kg.ints, List.getElem?_map, hz]; rfl)
  have h4 := World.ownsRow.lt h q (by rw [e, h1]; rfl)
  exact ⟨q, h1, h4.1, h4.2, h3⟩
theorem Il.lrd {w : World} {base : Nat} {v : Value} {l : List Int} (h : Il w base v l) : Lrd w.heap.size w v .i64 l := Lrd.of_row (Kg.row_base h (Nat.zero_le _))
end Go.Proofs.YtkekaifiahjljaaGreatDoor
namespace Go.Proofs.YtkekaifiahjljaaGreatDoor.Lt
inductive Anc (par : Nat → Nat) : Nat → Nat → Prop
  | refl (v : Nat) : Anc par v v
  | up {u v : Nat} : v ≠ 0 → Anc par u (par v) → Anc par u v
structure Dt (E : Nat → Nat → Prop) (par : Nat → Nat) (p : Nat) : Prop where
  pl : ∀ v, v ≠ 0 → v < p → par v < v
  pe : ∀ v, v ≠ 0 → v < p → E (par v) v
  fw : ∀ u v, E u v → u < v → Anc par u v
  iv : ∀ u y v, v < p → Anc par u v → u ≤ y → y ≤ v → Anc par u y
  el : ∀ u v, E u v → u < p ∧ v < p
inductive Sp (E : Nat → Nat → Prop) (w : Nat) : Nat → Prop
  | last {v : Nat} : E v w → Sp E w v
  | step {v x : Nat} : E v x → w < x → Sp E w x → Sp E w v
inductive Av (E : Nat → Nat → Prop) (d : Nat) : Nat → Prop
  | root : d ≠ 0 → Av E d 0
  | step {u v : Nat} : Av E d u → E u v → v ≠ d → Av E d v
theorem Anc.trans {par : Nat → Nat} {a b c : Nat} (h : Anc par a b) (k : Anc par b c) : Anc par a c := by
  induction k with
  | refl => exact h
  | up h0 _ ih => exact .up h0 ih
theorem Anc.par_ {par : Nat → Nat} {a b : Nat} (h : Anc par a b) (hne : a ≠ b) : b ≠ 0 ∧ Anc par a (par b) := by
  cases h with
  | refl => exact absurd rfl hne
  | up h0 h => exact ⟨h0, h⟩
section
variable {E : Nat → Nat → Prop} {par : Nat → Nat} {p : Nat} (D : Dt E par p)
include D
theorem Dt.le {u v : Nat} (hv : v < p) (h : Anc par u v) : u ≤ v := by
  induction h with
  | refl => exact Nat.le_refl _
  | @up v h0 _ ih =>
    have := D.pl v h0 hv
    have := ih (by omega)
    omega
theorem Dt.lt {u v : Nat} (hv : v < p) (h : Anc par u v) (hne : u ≠ v) : u < v := by
  have := D.le hv h
  omega
theorem Dt.chain {a b v : Nat} (hv : v < p) (ha : Anc par a v) (hb : Anc par b v) (h : a ≤ b) : Anc par a b := D.iv a b v hv ha h (D.le hv hb)
theorem Dt.top {v : Nat} (hv : v < p) : Anc par 0 v := by
  induction v using Nat.strongRecOn with
  | _ v ih =>
    by_cases h0 : v = 0
    · rw [h0]; exact .refl 0
    · have := D.pl v h0 hv
      exact .up h0 (ih _ this (by omega))
theorem Dt.down {d y v : Nat} (hv : v < p) (h : Av E d y) (ha : Anc par y v) (hn : ∀ z, Anc par y z → Anc par z v → z ≠ y → z ≠ d) : Av E d v := by
  induction ha with
  | refl => exact h
  | @up v h0 ha ih =>
    have hp := D.pl v h0 hv
    have h1 := ih (by omega) (fun z h1 h2 => hn z h1 (.up h0 h2))
    refine .step h1 (D.pe v h0 hv) (hn v (.up h0 ha) (.refl v) (fun e => ?_))
    have := D.le (by omega) ha
    omega
theorem Dt.over {d v : Nat} (hv : v < p) (h : v < d) : Av E d v :=
  D.down hv (.root (by omega)) (D.top hv) (fun z _ h2 _ => by have := D.le hv h2; omega)
omit D in
theorem along {d w v : Nat} (h : Av E d v) (hs : Sp E w v) (hd : d < w) : Av E d w := by
  induction hs with
  | last e => exact .step h e (by omega)
  | step e hx _ ih => exact ih (.step h e (by omega))
theorem Dt.sp_anc {w v : Nat} (h : Sp E w v) (hl : v < w) : Anc par v w := by
  cases h with
  | last e => exact D.fw _ _ e hl
  | @step _ x e hx h =>
    have h1 := D.fw v x e (by omega)
    exact D.iv v w x (D.el _ _ e).2 h1 (by omega) (by omega)
inductive Bf (E : Nat → Nat → Prop) (i : Nat) (T : Nat → Prop) : Nat → Prop
  | base {x v : Nat} : x < i → E x v → Bf E i T v
  | step {u v : Nat} : Bf E i T u → i < u → ¬ T u → E u v → Bf E i T v
theorem Dt.bf {i w y : Nat} (hw : w < p) (hT : Anc par i y ∧ y ≠ i ∧ Anc par y w) : ∀ u, Bf E i (fun z => Anc par i z ∧ z ≠ i ∧ Anc par z w) u → (u = y ∨ (y < u ∧ Sp E y u)) → ∃ x, x < i ∧ Sp E y x := by
  have hyw := D.le hw hT.2.2
  intro u hu
  induction hu with
  | @base x v hx e =>
    rintro (rfl | ⟨h1, h2⟩)
    · exact ⟨x, hx, .last e⟩
    · exact ⟨x, hx, .step e h1 h2⟩
  | @step u v hu hi hn e ih =>
    intro h
    have hny : u ≠ y := fun h => hn (h ▸ hT)
    have hvp := (D.el _ _ e).2
    have key : y < u := by
      rcases Nat.lt_or_ge y u with h1 | h1
      · exact h1
      · exfalso
        have h2 : u < y := by omega
        have h3 : Anc par u y := by
          rcases h with rfl | ⟨h4, -⟩
          · exact D.fw _ _ e h2
          · exact D.iv u y v hvp (D.fw _ _ e (by omega)) (by omega) (by omega)
        exact hn ⟨D.iv i u y (by omega) hT.1 (by omega) (by omega), by omega, h3.trans hT.2.2⟩
    refine ih (.inr ⟨key, ?_⟩)
    rcases h with rfl | ⟨h4, h5⟩
    · exact .last e
    · exact .step e h4 h5
theorem Dt.core {i w : Nat} (hw : w < p) (hi : i ≠ 0) (ha : Anc par i w) (hne : i ≠ w) (h : Av E i w) : ∃ y x, Anc par i y ∧ y ≠ i ∧ Anc par y w ∧ Av E i y ∧ x < i ∧ Sp E y x := by
  obtain ⟨T, hT⟩ : ∃ T : Nat → Prop, T = fun z => Anc par i z ∧ z ≠ i ∧ Anc par z w := ⟨_, rfl⟩
  have key : ∀ v, Av E i v → (∃ y, T y ∧ Av E i y ∧ Bf E i T y) ∨ v < i ∨ (i < v ∧ ¬ T v ∧ Bf E i T v) := by
    intro v hv
    induction hv with
    | root h0 => exact .inr (.inl (by omega))
    | @step u v hu e hne ih =>
      have hAv : Av E i v := .step hu e hne
      rcases ih with h1 | h1 | ⟨h1, h2, h3⟩
      · exact .inl h1
      · rcases Nat.lt_or_ge v i with h4 | h4
        · exact .inr (.inl h4)
        · by_cases hTv : T v
          · exact .inl ⟨v, hTv, hAv, .base h1 e⟩
          · exact .inr (.inr ⟨by omega, hTv, .base h1 e⟩)
      · rcases Nat.lt_or_ge v i with h4 | h4
        · exact .inr (.inl h4)
        · by_cases hTv : T v
          · exact .inl ⟨v, hTv, hAv, .step h3 h1 h2 e⟩
          · exact .inr (.inr ⟨by omega, hTv, .step h3 h1 h2 e⟩)
  have hTw : T w := by rw [hT]; exact ⟨ha, fun e => hne e.symm, .refl w⟩
  rcases key w h with ⟨y, h1, h2, h3⟩ | h1 | ⟨-, h1, -⟩
  · rw [hT] at h1 h3
    obtain ⟨x, hx, hs⟩ := D.bf hw h1 y h3 (.inl rfl)
    exact ⟨y, x, h1.1, h1.2.1, h1.2.2, h2, hx, hs⟩
  · have := D.le hw ha; omega
  · exact absurd hTw h1
structure Sem (E : Nat → Nat → Prop) (p : Nat) (S : Nat → Nat) : Prop where
  sp : ∀ w, w ≠ 0 → w < p → Sp E w (S w)
  mn : ∀ w, w ≠ 0 → w < p → ∀ x, Sp E w x → S w ≤ x
omit D in
def Idm (par : Nat → Nat) (p : Nat) (S I : Nat → Nat) : Prop := ∀ w, w ≠ 0 → w < p → ∃ u, Anc par (S w) u ∧ u ≠ S w ∧ Anc par u w ∧ (∀ y, Anc par (S w) y → y ≠ S w → Anc par y w → S u ≤ S y) ∧ ((S u = S w ∧ I w = S w) ∨ (S u < S w ∧ u ≠ w ∧ I w = I u))
theorem Dt.sem_anc {S : Nat → Nat} (H : Sem E p S) {w : Nat} (h0 : w ≠ 0) (hw : w < p) : S w < w ∧ Anc par (S w) w := by
  have h1 := H.mn w h0 hw _ (.last (D.pe w h0 hw))
  have h2 := D.pl w h0 hw
  exact ⟨by omega, D.sp_anc (H.sp w h0 hw) (by omega)⟩
theorem Dt.idom {S I : Nat → Nat} (H : Sem E p S) (K : Idm par p S I) : ∀ w, w ≠ 0 → w < p → Anc par (I w) (S w) ∧ (I w ≠ 0 → ¬ Av E (I w) w) ∧ (∀ d, d ≠ 0 → d ≠ I w → d ≠ w → Av E d (I w) → Av E d w) := by
  intro w
  induction w using Nat.strongRecOn with
  | _ w ih =>
    intro h0 hw
    obtain ⟨hsl, hsa⟩ := D.sem_anc H h0 hw
    obtain ⟨u, u1, u2, u3, u4, u5⟩ := K w h0 hw
    have huw := D.le hw u3
    have hul : S w < u := D.lt (by omega) u1 (fun e => u2 e.symm)
    rcases u5 with ⟨e1, e2⟩ | ⟨e1, hune, e2⟩
    · rw [e2]
      refine ⟨.refl _, fun hs hav => ?_, fun d hd1 hd2 hd3 hav => ?_⟩
      · obtain ⟨y, x, h1, h2, h3, -, h5, h6⟩ := D.core hw hs hsa (by omega) hav
        have h7 := u4 y h1 h2 h3
        have h8 := D.le hw h3
        have h9 := H.mn y (fun e => by have := D.le (by omega) h1; omega) (by omega) x h6
        omega
      · rcases Nat.lt_or_ge d w with h1 | h1
        · exact along hav (H.sp w h0 hw) h1
        · exact D.over hw (by omega)
    · have hu0 : u ≠ 0 := by omega
      have hup : u < p := by omega
      obtain ⟨i1, i2, i3⟩ := ih u (by omega) hu0 hup
      obtain ⟨usl, usa⟩ := D.sem_anc H hu0 hup
      rw [e2]
      have hiS : I u ≤ S u := D.le (by omega) i1
      have hiw : Anc par (I u) w := (i1.trans usa).trans u3
      refine ⟨i1.trans (D.chain hw (usa.trans u3) hsa (by omega)), fun hi hav => ?_, fun d hd1 hd2 hd3 hav => ?_⟩
      · obtain ⟨y, x, h1, h2, h3, h4, h5, h6⟩ := D.core hw hi hiw (by omega) hav
        have hyw := D.le hw h3
        have hiy : I u < y := D.lt (by omega) h1 (fun e => h2 e.symm)
        have h9 := H.mn y (by omega) (by omega) x h6
        rcases Nat.lt_or_ge (S w) y with h7 | h7
        · have h8 := u4 y (D.chain hw hsa h3 (by omega)) (by omega) h3
          omega
        · have h8 : Anc par y u := (D.chain hw h3 hsa h7).trans u1
          exact i2 hi (D.down hup h4 h8 (fun z h10 h11 h12 => by have := D.le (by have := D.le hup h11; omega) h10; omega))
      · by_cases hdT : Anc par (S w) d ∧ d ≠ S w ∧ Anc par d w
        · have h1 : S w < d := D.lt (by have := D.le hw hdT.2.2; omega) hdT.1 (fun e => hdT.2.1 e.symm)
          have h2 := D.lt hw hdT.2.2 hd3
          exact along (D.over (d := d) (v := S w) (by omega) h1) (H.sp w h0 hw) h2
        · have hdu : d ≠ u := fun e => hdT (e ▸ ⟨u1, u2, u3⟩)
          have h1 := i3 d hd1 hd2 hdu hav
          refine D.down hw h1 u3 (fun z h2 h3 h4 e => hdT (e ▸ ⟨u1.trans h2, fun h5 => ?_, h3⟩))
          have := D.le (by have := D.le hw h3; omega) h2
          omega
end
end Go.Proofs.YtkekaifiahjljaaGreatDoor.Lt
