import Derived.Test.YtkekaifiahjljaaGreatDoorT28
import Derived.Test.YtkekaifiahjljaaGreatDoorT15
import Derived.Test.YtkekaifiahjljaaGreatDoorT11
import Derived.Test.YtkekaifiahjljaaGreatDoorT06
import Derived.Test.YtkekaifiahjljaaGreatDoorT27
set_option linter.unusedVariables false
set_option maxHeartbeats 8000000
set_option maxRecDepth 20000
namespace Go.Proofs.YtkekaifiahjljaaGreatDoor
open Go.RowKit Go.Shelf Go.Proofs.YtkekaifiahjljaaGreatDoor.Lt Go.Proofs.YtkekaifiahjljaaGreatDoor.Lp
def gEx : Im.Gr := { next := 7, obs := [⟨1, 1, 0, [2, 3], []⟩, ⟨2, 1, 0, [4], []⟩, ⟨3, 1, 0, [4, 5], []⟩, ⟨4, 1, 0, [], []⟩, ⟨5, 3, 0, [2, 6], []⟩, ⟨6, 1, 0, [], []⟩], slots := [ [ [1] ] ], hs := [], rg := [], qu := [] }
theorem wyEx : ∀ x, wy17 gEx x = if x = 0 then [1] else if x = 1 then [2, 3] else if x = 2 then [4] else if x = 3 then [4, 5] else [] := fun x => by
  match x with
  | 0 => rfl
  | 1 => rfl
  | 2 => rfl
  | 3 => rfl
  | 4 => rfl
  | 5 => rfl
  | 6 => rfl
  | n + 7 =>
    rw [if_neg (by omega), if_neg (by omega), if_neg (by omega), if_neg (by omega)]
    rfl
theorem peEx : pe17 gEx = [(5, 2, 6)] := by decide
theorem rv_cl {W : Nat → List Nat} {d : Nat} {S : Nat → Prop} (h0 : ∀ y, y ∈ W 0 → y ≠ d → S y) (hc : ∀ u, S u → ∀ y, y ∈ W u → y ≠ d → S y) {x : Nat} (h : Rv W d x) : S x := by
  induction h with
  | root h1 h2 => exact h0 _ h1 h2
  | step _ h1 h2 ih => exact hc _ ih _ h1 h2
theorem re_cl {W : Nat → List Nat} {P : List (Nat × Nat × Nat)} {d : Nat} {S : Nat → Prop} (h0 : ∀ y, y ∈ W 0 → y ≠ d → S y) (hc : ∀ u, S u → ∀ y, y ∈ W u → y ≠ d → S y) (he : ∀ i k v, (i, k, v) ∈ P → S i → S k → v ≠ d → S v) {x : Nat} (h : Re W P d x) : S x := by
  induction h with
  | root h1 h2 => exact h0 _ h1 h2
  | step _ h1 h2 ih => exact hc _ ih _ h1 h2
  | eph h1 _ _ h2 ih1 ih2 => exact he _ _ _ h1 ih1 ih2 h2
theorem ex_mem {x y : Nat} : y ∈ wy17 gEx x ↔ (x = 0 ∧ y = 1) ∨ (x = 1 ∧ (y = 2 ∨ y = 3)) ∨ (x = 2 ∧ y = 4) ∨ (x = 3 ∧ (y = 4 ∨ y = 5)) := by
  rw [wyEx]
  by_cases h0 : x = 0
  · subst h0; simp
  · rw [if_neg h0]
    by_cases h1 : x = 1
    · subst h1; simp
    · rw [if_neg h1]
      by_cases h2 : x = 2
      · subst h2; simp
      · rw [if_neg h2]
        by_cases h3 : x = 3
        · subst h3; simp
        · rw [if_neg h3]
          simp only [List.not_mem_nil, false_iff]
          omega
def exS (d x : Nat) : Prop := d ≠ 1 ∧ x ≠ d ∧ (x = 1 ∨ x = 2 ∨ x = 3 ∨ (x = 4 ∧ (d ≠ 2 ∨ d ≠ 3)) ∨ (x = 5 ∧ d ≠ 3))
theorem ex_rv {d x : Nat} : Rv (wy17 gEx) d x ↔ exS d x := by
  constructor
  · intro h
    refine rv_cl (S := exS d) (fun y hy hd => ?_) (fun u hu y hy hd => ?_) h
    · rw [ex_mem] at hy
      unfold exS
      omega
    · rw [ex_mem] at hy
      unfold exS at hu ⊢
      omega
  · rintro ⟨h1, h2, h3⟩
    have r1 : Rv (wy17 gEx) d 1 := .root (ex_mem.2 (by omega)) (by omega)
    have r2 : 2 ≠ d → Rv (wy17 gEx) d 2 := fun h => .step r1 (ex_mem.2 (by omega)) h
    have r3 : 3 ≠ d → Rv (wy17 gEx) d 3 := fun h => .step r1 (ex_mem.2 (by omega)) h
    rcases h3 with rfl | rfl | rfl | ⟨rfl, h4⟩ | ⟨rfl, h4⟩
    · exact r1
    · exact r2 h2
    · exact r3 h2
    · by_cases h5 : d = 2
      · exact .step (r3 (by omega)) (ex_mem.2 (by omega)) h2
      · exact .step (r2 (by omega)) (ex_mem.2 (by omega)) h2
    · exact .step (r3 (by omega)) (ex_mem.2 (by omega)) h2
theorem ex_ov {d x : Nat} : Ov (wy17 gEx) d x ↔ (d = 1 ∧ (x = 2 ∨ x = 3 ∨ x = 4 ∨ x = 5)) ∨ (d = 3 ∧ x = 5) := by
  unfold Ov
  rw [ex_rv, ex_rv, ex_rv]
  unfold exS
  omega
theorem ex_ids {b x : Nat} (h : (x = 1 ∧ b = 0) ∨ (x = 2 ∧ b = 1) ∨ (x = 3 ∧ b = 1) ∨ (x = 4 ∧ b = 1) ∨ (x = 5 ∧ b = 3)) : Ids (wy17 gEx) b x := by
  unfold Ids
  simp only [ex_ov]
  refine ⟨?_, fun d hd => ?_⟩
  · omega
  · omega
theorem ex_dm : Dm17 gEx [0, 1, 1, 1, 3, -1] := by
  refine ⟨rfl, fun i z hz => ?_⟩
  match i with
  | 0 => cases hz; exact .inl ⟨ex_rv.2 (by unfold exS; omega), 0, rfl, ex_ids (by omega)⟩
  | 1 => cases hz; exact .inl ⟨ex_rv.2 (by unfold exS; omega), 1, rfl, ex_ids (by omega)⟩
  | 2 => cases hz; exact .inl ⟨ex_rv.2 (by unfold exS; omega), 1, rfl, ex_ids (by omega)⟩
  | 3 => cases hz; exact .inl ⟨ex_rv.2 (by unfold exS; omega), 1, rfl, ex_ids (by omega)⟩
  | 4 => cases hz; exact .inl ⟨ex_rv.2 (by unfold exS; omega), 3, rfl, ex_ids (by omega)⟩
  | 5 => cases hz; exact .inr ⟨fun h => by have := ex_rv.1 h; unfold exS at this; omega, rfl⟩
  | n + 6 => simp at hz
def exT (d x : Nat) : Prop := exS d x ∨ (x = 6 ∧ d ≠ 1 ∧ d ≠ 2 ∧ d ≠ 3 ∧ d ≠ 5 ∧ d ≠ 6)
theorem ex_re {d x : Nat} : Re (wy17 gEx) (pe17 gEx) d x ↔ exT d x := by
  constructor
  · intro h
    refine re_cl (S := exT d) (fun y hy hd => ?_) (fun u hu y hy hd => ?_) (fun i k v hp hi hk hd => ?_) h
    · rw [ex_mem] at hy
      unfold exT exS
      omega
    · rw [ex_mem] at hy
      unfold exT exS at hu ⊢
      omega
    · rw [peEx] at hp
      simp only [List.mem_singleton, Prod.mk.injEq] at hp
      unfold exT exS at hi hk ⊢
      omega
  · have key : ∀ y, exS d y → Re (wy17 gEx) (pe17 gEx) d y := fun y hy => by
      have h := ex_rv.2 hy
      induction h with
      | root h1 h2 => exact .root h1 h2
      | step h0 h1 h2 ih => exact .step (ih (ex_rv.1 h0)) h1 h2
    rintro (h | ⟨rfl, h⟩)
    · exact key x h
    · exact .eph (i := 5) (k := 2) (by rw [peEx]; simp) (key 5 (by unfold exS; omega)) (key 2 (by unfold exS; omega)) (by omega)
theorem ex_rs (d : Nat) (ins : Nat → Bool) (h : ∀ x, ins x = true ↔ exT d x) : rs (wd17 gEx) (wy17 gEx) (pe17 gEx) 6 d = smb (wd17 gEx) ins 6 := by
  unfold rs
  rw [smb_sm (p := Re (wy17 gEx) (pe17 gEx) d) (fun x => by rw [h, ex_re])]
def exI (d x : Nat) : Bool := decide ((d ≠ 1 ∧ x ≠ d ∧ (x = 1 ∨ x = 2 ∨ x = 3 ∨ (x = 4 ∧ (d ≠ 2 ∨ d ≠ 3)) ∨ (x = 5 ∧ d ≠ 3))) ∨ (x = 6 ∧ d ≠ 1 ∧ d ≠ 2 ∧ d ≠ 3 ∧ d ≠ 5 ∧ d ≠ 6))
theorem exI_iff (d x : Nat) : exI d x = true ↔ exT d x := by
  unfold exI exT exS
  rw [decide_eq_true_iff]
theorem ex_words : rs (wd17 gEx) (wy17 gEx) (pe17 gEx) 6 0 = 19 ∧ rs (wd17 gEx) (wy17 gEx) (pe17 gEx) 6 1 = 0 ∧ rs (wd17 gEx) (wy17 gEx) (pe17 gEx) 6 2 = 14 ∧ rs (wd17 gEx) (wy17 gEx) (pe17 gEx) 6 3 = 9 ∧ rs (wd17 gEx) (wy17 gEx) (pe17 gEx) 6 4 = 17 ∧ rs (wd17 gEx) (wy17 gEx) (pe17 gEx) 6 5 = 13 ∧ rs (wd17 gEx) (wy17 gEx) (pe17 gEx) 6 6 = 17 := by
  refine ⟨?_, ?_, ?_, ?_, ?_, ?_, ?_⟩ <;> rw [ex_rs _ _ (exI_iff _)] <;> decide
theorem ex_dr : Dr17 gEx [19, 5, 10, 2, 6, 2] := by
  refine ⟨rfl, fun i z hz => ?_⟩
  obtain ⟨h0, h1, h2, h3, h4, h5, h6⟩ := ex_words
  have hl : gEx.obs.length = 6 := rfl
  rw [hl, h0]
  match i with
  | 0 => cases hz; exact .inl ⟨ex_re.2 (by unfold exT exS; omega), by rw [h1]; rfl⟩
  | 1 => cases hz; exact .inl ⟨ex_re.2 (by unfold exT exS; omega), by rw [h2]; rfl⟩
  | 2 => cases hz; exact .inl ⟨ex_re.2 (by unfold exT exS; omega), by rw [h3]; rfl⟩
  | 3 => cases hz; exact .inl ⟨ex_re.2 (by unfold exT exS; omega), by rw [h4]; rfl⟩
  | 4 => cases hz; exact .inl ⟨ex_re.2 (by unfold exT exS; omega), by rw [h5]; rfl⟩
  | 5 => cases hz; exact .inl ⟨ex_re.2 (by unfold exT exS; omega), by rw [h6]; rfl⟩
  | n + 6 => simp at hz
theorem ex_pth5 (e x : Nat) : Pth (wy17 gEx) 5 e x → (x = 5 ∧ e = 0) ∨ (x = 3 ∧ e = 1) ∨ (x = 1 ∧ e = 2) ∨ (x = 0 ∧ e = 3) := by
  induction e generalizing x with
  | zero => intro h; exact .inl ⟨h, rfl⟩
  | succ e ih =>
    rintro ⟨y, hy, hp⟩
    have := ih y hp
    rw [ex_mem] at hy
    omega
theorem ex_dis {x e : Nat} (hp : Pth (wy17 gEx) 5 e x) : Dis (wy17 gEx) 5 x e := ⟨hp, fun e' h' => by
  have h1 := ex_pth5 e x hp
  have h2 := ex_pth5 e' x h'
  omega⟩
theorem ex_row : Row17 (wy17 gEx) 5 [1, 3, 5] := by
  have p5 : Pth (wy17 gEx) 5 0 5 := rfl
  have p3 : Pth (wy17 gEx) 5 1 3 := ⟨5, ex_mem.2 (by omega), p5⟩
  have p1 : Pth (wy17 gEx) 5 2 1 := ⟨3, ex_mem.2 (by omega), p3⟩
  have key : ∀ {x y e z e' : Nat}, y ∈ wy17 gEx x → Pth (wy17 gEx) 5 e y → z ∈ wy17 gEx x → Dis (wy17 gEx) 5 z e' → e ≤ e' ∧ (e' = e → y ≤ z) := fun {x y e z e'} hy hp hz hd => by
    have h1 := ex_pth5 _ _ hp
    have h2 := ex_pth5 _ _ hd.1
    rw [ex_mem] at hy hz
    omega
  refine .inr ⟨by simp, ?_⟩
  refine .cons (y := 1) (by omega) (ex_mem.2 (by omega)) (ex_dis p1) (fun z e' hz hd => key (x := 0) (ex_mem.2 (by omega)) p1 hz hd) ?_
  refine .cons (y := 3) (by omega) (ex_mem.2 (by omega)) (ex_dis p3) (fun z e' hz hd => key (x := 1) (ex_mem.2 (by omega)) p3 hz hd) ?_
  exact .cons (y := 5) (by omega) (ex_mem.2 (by omega)) (ex_dis p5) (fun z e' hz hd => key (x := 3) (ex_mem.2 (by omega)) p5 hz hd) .nil
theorem ex_mb : MB gEx := by
  refine ⟨⟨?_, ?_, ?_, ?_, ?_⟩, ⟨?_, ?_, ?_, ?_⟩, ⟨?_, ?_⟩, ⟨?_, ?_, ?_, ?_⟩, ?_⟩
  · unfold gEx; simp [Im.Rise]
  · intro o ho
    simp only [gEx, List.mem_cons, List.not_mem_nil, or_false] at ho
    rcases ho with rfl | rfl | rfl | rfl | rfl | rfl <;> (unfold hd16; decide)
  · intro o ho z hz
    simp only [gEx, List.mem_cons, List.not_mem_nil, or_false] at ho
    rw [inB_iff]
    rcases ho with rfl | rfl | rfl | rfl | rfl | rfl <;> simp at hz <;> (simp [gEx]; omega)
  · decide
  · decide
  · intro t ht
    simp only [gEx, List.mem_singleton] at ht
    subst ht
    decide
  · intro t ht
    simp only [gEx, List.mem_singleton] at ht
    subst ht
    intro f hf
    simp only [List.mem_singleton] at hf
    subst hf
    exact ⟨by decide, fun z hz => by simp at hz; rw [inB_iff, hz]; decide⟩
  · decide
  · decide
  · decide
  · intro z hz; simp [gEx] at hz
  · decide
  · intro z hz; simp [gEx] at hz
  · exact List.nodup_nil
  · intro z hz; simp [gEx] at hz
  · have k1 : Im.Known gEx 1 := .slot [ [1] ] [1] 1 (by simp [gEx]) (by simp) (by simp) (by omega)
    have k2 : Im.Known gEx 2 := .ptr 1 2 ⟨1, 1, 0, [2, 3], []⟩ k1 rfl (by simp) (by omega)
    have k3 : Im.Known gEx 3 := .ptr 1 3 ⟨1, 1, 0, [2, 3], []⟩ k1 rfl (by simp) (by omega)
    have k4 : Im.Known gEx 4 := .ptr 2 4 ⟨2, 1, 0, [4], []⟩ k2 rfl (by simp) (by omega)
    have k5 : Im.Known gEx 5 := .ptr 3 5 ⟨3, 1, 0, [4, 5], []⟩ k3 rfl (by simp) (by omega)
    have k6 : Im.Known gEx 6 := .ptr 5 6 ⟨5, 3, 0, [2, 6], []⟩ k5 rfl (by simp) (by omega)
    intro n h1 h2
    have hl : gEx.obs.length = 6 := rfl
    rw [hl] at h2
    match n with
    | 0 => omega
    | 1 => exact k1
    | 2 => exact k2
    | 3 => exact k3
    | 4 => exact k4
    | 5 => exact k5
    | 6 => exact k6
    | n + 7 => omega
end Go.Proofs.YtkekaifiahjljaaGreatDoor
namespace Go.Proofs.YtkekaifiahjljaaGreatDoor
open Go.RowKit Go.Shelf Go.Proofs.YtkekaifiahjljaaGreatDoor.Lt
theorem heap_chain : ∀ (l : List Obj) (w : World), (l.foldl (fun w o => w.alloc o) w).heap.size = w.heap.size + l.length ∧ Below w.heap.size w (l.foldl (fun w o => w.alloc o) w) ∧ ∀ (i : Nat) o, l[i]? = some o → (l.foldl (fun w o => w.alloc o) w).heap[w.heap.size + i]? = some o
  | [], w => ⟨rfl, Below.refl _ _, fun i o h => by simp at h⟩
  | o :: l, w => by
    have h0 : (w.alloc o).heap.size = w.heap.size + 1 := by simp
    obtain ⟨h1, h2, h3⟩ := heap_chain l (w.alloc o)
    have hb : Below w.heap.size w (w.alloc o) := Below.alloc (Below.refl _ _) (Nat.le_refl _) _
    rw [List.foldl_cons]
    refine ⟨by rw [h1, h0, List.length_cons]; omega, hb.trans (h2.mono hb.size), fun i o' hi => ?_⟩
    cases i with
    | zero =>
      simp only [List.getElem?_cons_zero, Option.some.injEq] at hi
      subst hi
      have h4 : (w.alloc o).heap[w.heap.size]? = some o := by
        show (w.heap.push o)[w.heap.size]? = some o
        exact Array.getElem?_push_size
      exact (h2.block _ (by omega)).trans h4
    | succ i =>
      simp only [List.getElem?_cons_succ] at hi
      have := h3 i o' hi
      rw [h0] at this
      rw [show w.heap.size + (i + 1) = w.heap.size + 1 + i by omega]
      exact this
def exBlocks (B : Nat) : List Obj := [
  .cells (gcs (.slice (some ⟨B + 5, 0, none⟩) 6 6) (.slice (some ⟨B + 8, 0, none⟩) 1 1) (.slice none 0 0) (.slice none 0 0) (.slice none 0 0) 7) 27,
  .cells #[.int .i64 2, .int .i64 3] 3,
  .cells #[.int .i64 4] 3,
  .cells #[.int .i64 4, .int .i64 5] 3,
  .cells #[.int .i64 2, .int .i64 6] 3,
  .cells #[.int .u64 1, .int .i64 1, .int .i64 0, .slice (some ⟨B + 1, 0, none⟩) 2 2, .slice none 0 0, .int .u64 2, .int .i64 1, .int .i64 0, .slice (some ⟨B + 2, 0, none⟩) 1 1, .slice none 0 0, .int .u64 3, .int .i64 1, .int .i64 0, .slice (some ⟨B + 3, 0, none⟩) 2 2, .slice none 0 0, .int .u64 4, .int .i64 1, .int .i64 0, .slice none 0 0, .slice none 0 0, .int .u64 5, .int .i64 3, .int .i64 0, .slice (some ⟨B + 4, 0, none⟩) 2 2, .slice none 0 0, .int .u64 6, .int .i64 1, .int .i64 0, .slice none 0 0, .slice none 0 0] 39,
  .cells #[.int .i64 1] 3,
  .cells #[.slice (some ⟨B + 6, 0, none⟩) 1 1] 24,
  .cells #[.slice (some ⟨B + 7, 0, none⟩) 1 1] 48]
def exOs (B : Nat) : List OL := [⟨⟨1, 1, 0, [2, 3], []⟩, .slice (some ⟨B + 1, 0, none⟩) 2 2, .slice none 0 0⟩, ⟨⟨2, 1, 0, [4], []⟩, .slice (some ⟨B + 2, 0, none⟩) 1 1, .slice none 0 0⟩, ⟨⟨3, 1, 0, [4, 5], []⟩, .slice (some ⟨B + 3, 0, none⟩) 2 2, .slice none 0 0⟩, ⟨⟨4, 1, 0, [], []⟩, .slice none 0 0, .slice none 0 0⟩, ⟨⟨5, 3, 0, [2, 6], []⟩, .slice (some ⟨B + 4, 0, none⟩) 2 2, .slice none 0 0⟩, ⟨⟨6, 1, 0, [], []⟩, .slice none 0 0, .slice none 0 0⟩]
def exTs (B : Nat) : List (Value × List (Value × List Int)) := [(.slice (some ⟨B + 7, 0, none⟩) 1 1, [(.slice (some ⟨B + 6, 0, none⟩) 1 1, [1])])]
theorem ex_lrd {w : World} {n0 b : Nat} {cs : Array Value} {t : TypeId} {k : IntKind} (h : w.heap[b]? = some (.cells cs t (0, 0))) (hb : b < n0) (l : List Int) (hc : cs = (l.map (Value.int k)).toArray) : Lrd n0 w (.slice (some ⟨b, 0, none⟩) l.length l.length) k l := by
  refine ⟨_, _, rfl, Nat.le_refl _, fun f z hz => ⟨b, 0, rfl, hb, ?_⟩⟩
  rw [Kg.heap_cell h, hc, Nat.zero_add, List.getElem?_toArray, List.getElem?_map, hz]
  rfl
theorem lrd_none (n0 : Nat) (w : World) (k : IntKind) : Lrd n0 w (.slice none 0 0) k [] := ⟨none, 0, rfl, Nat.le_refl _, fun f z hz => by simp at hz⟩
theorem ex_grd (w W : World) (hs : W.heap.size = w.heap.size + 9) (h : ∀ (i : Nat) o, (exBlocks w.heap.size)[i]? = some o → W.heap[w.heap.size + i]? = some o) : Grd W.heap.size W (.slice (some ⟨w.heap.size + 5, 0, none⟩) 6 6) (.slice (some ⟨w.heap.size + 8, 0, none⟩) 1 1) (.slice none 0 0) (.slice none 0 0) (.slice none 0 0) (exOs w.heap.size) (exTs w.heap.size) gEx := by
  have h1 := h 1 _ rfl
  have h2 := h 2 _ rfl
  have h3 := h 3 _ rfl
  have h4 := h 4 _ rfl
  have h5 := h 5 _ rfl
  have h6 := h 6 _ rfl
  have h7 := h 7 _ rfl
  have h8 := h 8 _ rfl
  generalize w.heap.size = B at *
  refine ⟨⟨some ⟨B + 5, 0, none⟩, 6, rfl, fun i x hx => ?_⟩, ⟨some ⟨B + 8, 0, none⟩, 1, rfl, fun i x hx => ?_⟩, lrd_none _ _ _, lrd_none _ _ _, lrd_none _ _ _, rfl, rfl, by decide, fun o ho => ?_⟩
  · have hc := fun (j : Nat) => Kg.heap_cell h5 j
    match i with
    | 0 => cases hx; exact ⟨ex_lrd h1 (by omega) [2, 3] rfl, lrd_none _ _ _, B + 5, 0, rfl, by omega, fun j hj => by rw [hc]; match j with | 0 => rfl | 1 => rfl | 2 => rfl | 3 => rfl | 4 => rfl | n + 5 => omega⟩
    | 1 => cases hx; exact ⟨ex_lrd h2 (by omega) [4] rfl, lrd_none _ _ _, B + 5, 0, rfl, by omega, fun j hj => by rw [hc]; match j with | 0 => rfl | 1 => rfl | 2 => rfl | 3 => rfl | 4 => rfl | n + 5 => omega⟩
    | 2 => cases hx; exact ⟨ex_lrd h3 (by omega) [4, 5] rfl, lrd_none _ _ _, B + 5, 0, rfl, by omega, fun j hj => by rw [hc]; match j with | 0 => rfl | 1 => rfl | 2 => rfl | 3 => rfl | 4 => rfl | n + 5 => omega⟩
    | 3 => cases hx; exact ⟨lrd_none _ _ _, lrd_none _ _ _, B + 5, 0, rfl, by omega, fun j hj => by rw [hc]; match j with | 0 => rfl | 1 => rfl | 2 => rfl | 3 => rfl | 4 => rfl | n + 5 => omega⟩
    | 4 => cases hx; exact ⟨ex_lrd h4 (by omega) [2, 6] rfl, lrd_none _ _ _, B + 5, 0, rfl, by omega, fun j hj => by rw [hc]; match j with | 0 => rfl | 1 => rfl | 2 => rfl | 3 => rfl | 4 => rfl | n + 5 => omega⟩
    | 5 => cases hx; exact ⟨lrd_none _ _ _, lrd_none _ _ _, B + 5, 0, rfl, by omega, fun j hj => by rw [hc]; match j with | 0 => rfl | 1 => rfl | 2 => rfl | 3 => rfl | 4 => rfl | n + 5 => omega⟩
    | n + 6 => simp [exOs] at hx
  · match i with
    | 0 =>
      cases hx
      refine ⟨⟨some ⟨B + 7, 0, none⟩, 1, rfl, fun i x hx => ?_⟩, B + 8, 0, rfl, by omega, ?_⟩
      · match i with
        | 0 => cases hx; exact ⟨ex_lrd h6 (by omega) [1] rfl, B + 7, 0, rfl, by omega, by rw [Kg.heap_cell h7]; rfl⟩
        | n + 1 => simp at hx
      · rw [Kg.heap_cell h8]; rfl
    | n + 1 => simp [exTs] at hx
  · simp only [gEx, List.mem_cons, List.not_mem_nil, or_false] at ho
    rcases ho with rfl | rfl | rfl | rfl | rfl | rfl <;> (unfold InI; decide)
theorem example17_any (w : World) :
    Calls Tryz.prog 24 #[] w fun e w' => e = .returned (.agg (gcs (.slice (some ⟨w.heap.size + 5, 0, none⟩) 6 6) (.slice (some ⟨w.heap.size + 8, 0, none⟩) 1 1) (.slice none 0 0) (.slice none 0 0) (.slice none 0 0) gEx.next)) ∧ Grd w'.heap.size w' (.slice (some ⟨w.heap.size + 5, 0, none⟩) 6 6) (.slice (some ⟨w.heap.size + 8, 0, none⟩) 1 1) (.slice none 0 0) (.slice none 0 0) (.slice none 0 0) (exOs w.heap.size) (exTs w.heap.size) gEx ∧ Below w.heap.size w w' := by
  obtain ⟨s1, s2, s3⟩ := heap_chain (exBlocks w.heap.size) w
  have HH : Hid (((exBlocks w.heap.size).foldl (fun w o => w.alloc o) w).heap.size = w.heap.size + 9 ∧ Below w.heap.size w ((exBlocks w.heap.size).foldl (fun w o => w.alloc o) w) ∧ ∀ (i : Nat) o, (exBlocks w.heap.size)[i]? = some o → ((exBlocks w.heap.size).foldl (fun w o => w.alloc o) w).heap[w.heap.size + i]? = some o) := ⟨s1, s2, s3⟩
  clear s1 s2 s3
  go_enter Tryz.func24, Tryz.ntmps24
  go_wp2
  change bodyPost _ _ _ _ _ ((exBlocks w.heap.size).foldl (fun w o => w.alloc o) w)
  generalize (exBlocks w.heap.size).foldl (fun w o => w.alloc o) w = W at *
  have hg := ex_grd w W HH.out.1 HH.out.2.2
  have hc := fun j => Kg.heap_cell (HH.out.2.2 0 _ rfl) j
  rw [Nat.add_zero] at hc
  have c0 := hc 0
  have c1 := hc 1
  have c2 := hc 2
  have c3 := hc 3
  have c4 := hc 4
  have c5 := hc 5
  clear hc
  refine bodyPost_ret (v := .agg (gcs (.slice (some ⟨w.heap.size + 5, 0, none⟩) 6 6) (.slice (some ⟨w.heap.size + 8, 0, none⟩) 1 1) (.slice none 0 0) (.slice none 0 0) (.slice none 0 0) gEx.next)) ?_ rfl ⟨rfl, hg, HH.out.2.1⟩
  unfold results
  go_simp
  rfl
end Go.Proofs.YtkekaifiahjljaaGreatDoor
namespace Go.Proofs.YtkekaifiahjljaaGreatDoor
open Go.RowKit Go.Shelf
def osum (l : List OL) : Nat := (l.map (fun x => x.o.ps.length + x.o.rs.length)).sum
def tsum (l : List (Value × List (Value × List Int))) : Nat := (l.map (fun x => x.2.length + fsum (x.2.map (·.2)))).sum
def szs (os : List OL) (ts : List (Value × List (Value × List Int))) (g : Im.Gr) : Nat := os.length + ts.length + g.hs.length + g.rg.length + g.qu.length
theorem list_choice {α : Type} (P : Nat → α → Prop) : ∀ n, (∀ i, i < n → ∃ x, P i x) → ∃ L : List α, L.length = n ∧ ∀ (i : Nat) x, L[i]? = some x → P i x
  | 0, _ => ⟨[], rfl, fun i x h => by simp at h⟩
  | n + 1, h => by
    obtain ⟨L, hl, hL⟩ := list_choice P n (fun i hi => h i (by omega))
    obtain ⟨x, hx⟩ := h n (Nat.lt_succ_self _)
    refine ⟨L ++ [x], by rw [List.length_append, hl]; rfl, fun i y hy => ?_⟩
    by_cases e : i < n
    · rw [List.getElem?_append_left (by omega)] at hy
      exact hL i y hy
    · have hi := (List.getElem?_eq_some_iff.1 hy).1
      rw [List.length_append, hl] at hi
      simp at hi
      have e2 : i = n := by omega
      subst e2
      rw [List.getElem?_append_right (by omega), hl, Nat.sub_self] at hy
      simp at hy
      rw [← hy]
      exact hx
def obR (o : Im.Ob) : Prop := o.ser < 18446744073709551616 ∧ InI o.kind ∧ InI o.site ∧ ∀ n, n ∈ o.rs → n < 18446744073709551616
def gsz (os : List OL) (ts : List (Value × List (Value × List Int))) (g : Im.Gr) : Nat := szs os ts g + osum os + tsum ts
theorem sum_mem {α : Type} (f : α → Nat) : ∀ (l : List α) x, x ∈ l → f x ≤ (l.map f).sum
  | y :: l, x, h => by
    rw [List.map_cons, List.sum_cons]
    rcases List.mem_cons.1 h with rfl | h
    · omega
    · have := sum_mem f l x h
      omega
section
variable {os : List OL} {ts : List (Value × List (Value × List Int))} {g : Im.Gr}
theorem sln_of (h : gsz os ts g ≤ 1048576) : Sln ts := by
  have ht : ∀ x, x ∈ ts → x.2.length + fsum (x.2.map (·.2)) ≤ tsum ts := sum_mem (fun x : Value × List (Value × List Int) => x.2.length + fsum (x.2.map (·.2))) ts
  unfold gsz szs at h
  exact ⟨by omega, fun x hx => by have := ht x hx; omega⟩
end
section
variable {os : List OL} {ts : List (Value × List (Value × List Int))} {g : Im.Gr}
theorem wsum_le : ∀ (obs : List Im.Ob) n, Im.wsum obs (fun _ => false) n ≤ ((obs.take n).map (·.ps.length)).sum
  | obs, 0 => Nat.zero_le _
  | obs, n + 1 => by
    have ih := wsum_le obs n
    unfold Im.wsum
    cases ho : obs[n]? with
    | none =>
      have hl : obs.length ≤ n := by
        rcases Nat.lt_or_ge n obs.length with h1 | h1
        · rw [List.getElem?_eq_getElem h1] at ho; cases ho
        · exact h1
      rw [List.take_of_length_le (by omega)]
      rw [List.take_of_length_le (by omega)] at ih
      simp only [Bool.false_eq_true, if_false, Option.map_none, Option.getD_none, Nat.add_zero]
      exact ih
    | some o =>
      rw [take_snocL ho, List.map_append, List.sum_append]
      simp only [Bool.false_eq_true, if_false, Option.map_some, Option.getD_some, List.map_cons, List.map_nil, List.sum_cons, List.sum_nil, Nat.add_zero]
      omega
theorem big19_of (h : gsz os ts g ≤ 1048576) (eo : g.obs = os.map (·.o)) (es : g.slots = ts.map (fun t => t.2.map (·.2))) : Big19 os ts g := by
  have h1 : Im.wsum g.obs (fun _ => false) g.obs.length ≤ osum os := by
    refine Nat.le_trans (wsum_le _ _) ?_
    rw [List.take_length, eo, List.map_map]
    clear h eo
    induction os with
    | nil => exact Nat.le_refl _
    | cons x r ih =>
      simp only [osum, List.map_cons, List.sum_cons, Function.comp] at ih ⊢
      omega
  have h2 : (slotsF g.slots).length ≤ tsum ts := by
    rw [es]
    clear h es h1 eo
    induction ts with
    | nil => exact Nat.le_refl _
    | cons x r ih =>
      simp only [slotsF, tsum, List.map_cons, List.flatten_cons, List.sum_cons, List.length_append] at ih ⊢
      have h3 : (x.2.map (·.2)).flatten.length = fsum (x.2.map (·.2)) := by simp [fsum, List.length_flatten]
      omega
  have h3 : (ents g).length = g.hs.length + (g.rg.length + g.qu.length) + (slotsF g.slots).length := by
    simp only [ents, List.length_append]
  have hs := sln_of h
  have h4 : (os.map (·.o.ps.length)).sum ≤ osum os := by
    clear h eo es h1 h2 h3 hs
    induction os with
    | nil => exact Nat.le_refl _
    | cons x r ih =>
      simp only [osum, List.map_cons, List.sum_cons] at ih ⊢
      omega
  have h5 : ∀ x, x ∈ os → x.o.ps.length + x.o.rs.length ≤ osum os := by
    clear h eo es h1 h2 h3 hs h4
    induction os with
    | nil => intro x hx; cases hx
    | cons y r ih =>
      intro x hx
      simp only [osum, List.map_cons, List.sum_cons] at ih ⊢
      rcases List.mem_cons.1 hx with rfl | h6
      · omega
      · have := ih x h6
        omega
  unfold gsz szs at h
  exact ⟨⟨hs, by omega, by omega, by omega, by omega, by omega⟩, hs, by omega, by omega, by omega, fun x hx => by have := h5 x hx; omega⟩
end
end Go.Proofs.YtkekaifiahjljaaGreatDoor
namespace Go.Proofs.YtkekaifiahjljaaGreatDoor
open Go.RowKit Go.Shelf Go.Proofs.YtkekaifiahjljaaGreatDoor.Lp
end Go.Proofs.YtkekaifiahjljaaGreatDoor
