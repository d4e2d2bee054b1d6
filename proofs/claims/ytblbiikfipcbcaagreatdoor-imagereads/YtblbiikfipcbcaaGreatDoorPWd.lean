import Derived.Test.YtblbiikfipcbcaaGreatDoorPWb
import Derived.Test.YtblbiikfipcbcaaGreatDoorPIx
import Derived.Test.YtblbiikfipcbcaaGreatDoorPWc
/-
  Images: what may be can be written.
-/
set_option linter.unusedVariables false
set_option maxRecDepth 20000
namespace Go.Proofs.YtblbiikfipcbcaaGreatDoor
open Go.RowKit Go.Shelf

theorem rise_lastW : ∀ (l : List Im.Ob) (last i : Nat) (o : Im.Ob), Im.Rise last l → l[i]? = some o → (match i with | 0 => last | k + 1 => ((l[k]?).map (·.ser)).getD 0) < o.ser := by
  intro l
  induction l with
  | nil => intro last i o _ h; simp at h
  | cons a r ih =>
    intro last i o hr h
    match i, h with
    | 0, h => simp at h; rw [← h]; exact hr.1
    | 1, h => have := ih a.ser 0 o hr.2 (by simpa using h); simpa using this
    | k + 2, h => have := ih a.ser (k + 1) o hr.2 (by simpa using h); simpa using this

theorem hd16_in {o : Im.Ob} (h : hd16 o) : 1 ≤ o.kind ∧ o.kind ≤ 4 ∧ 0 ≤ o.site ∧ o.site ≤ 255 := by
  unfold hd16 flt at h
  split at h
  · omega
  split at h
  · omega
  split at h
  · omega
  split at h
  · omega
  split at h
  · omega
  rename_i h1 _ _ _ h5
  omega

/-- A graph that may be, and whose lists aren't long. -/
theorem wc_le {n0 : Nat} {w : World} {vo vs vh vr vq : Value} {os : List OL} {ts : List (Value × List (Value × List Int))} {g : Im.Gr} (hg : Grd n0 w vo vs vh vr vq os ts g) (hz : gsz os ts g ≤ 131072) (hr : ∀ x, x ∈ os → obR x.o) (hm : MB g) : Wc os ts g := by
  have ho : ∀ x, x ∈ os → x.o.ps.length + x.o.rs.length ≤ osum os := sum_mem (fun x : OL => x.o.ps.length + x.o.rs.length) os
  have ht : ∀ x, x ∈ ts → x.2.length + fsum (x.2.map (·.2)) ≤ tsum ts := sum_mem (fun x : Value × List (Value × List Int) => x.2.length + fsum (x.2.map (·.2))) ts
  have hf : ∀ (l : List (Value × List Int)) y, y ∈ l → y.2.length ≤ fsum (l.map (·.2)) := fun l y hy => by
    unfold fsum
    rw [List.map_map]
    exact sum_mem (fun y : Value × List Int => y.2.length) l y hy
  have hol : g.obs.length = os.length := by rw [hg.eo, List.length_map]
  have hsz : os.length ≤ 131072 ∧ ts.length ≤ 131072 ∧ osum os ≤ 131072 ∧ tsum ts ≤ 131072 ∧ g.hs.length ≤ 131072 ∧ g.qu.length ≤ 131072 := by
    unfold gsz szs at hz
    omega
  have hin : ∀ {lo : Int} {l : List Int}, allB lo g.obs.length l → ∀ z, z ∈ l → lo ≤ z ∧ z ≤ 131072 := fun {lo l} h z hz => by
    have := h z hz
    unfold inB at this
    simp at this
    omega
  refine ⟨by omega, fun i x hx => ?_, by omega, fun t htm => ?_, by omega, fun z hzm => ?_, by omega, fun z hzm => ?_⟩
  · have hxm := List.mem_of_getElem? hx
    have hxo : x.o ∈ g.obs := by rw [hg.eo]; exact List.mem_map.2 ⟨x, hxm, rfl⟩
    have h1 := ho x hxm
    have h2 := hd16_in (hm.o.head x.o hxo)
    have h3 := hr x hxm
    have hi : g.obs[i]? = some x.o := by rw [hg.eo, List.getElem?_map, hx]; rfl
    have h4 := rise_lastW g.obs 0 i x.o hm.o.rise hi
    have h5 : lastOf os i ≤ x.o.ser := by
      match i, h4 with
      | 0, h4 => exact Nat.zero_le _
      | k + 1, h4 =>
        refine Nat.le_of_lt ?_
        simp only [hg.eo, List.getElem?_map, Option.map_map] at h4
        exact h4
    exact ⟨h5, h3.1, by omega, by omega, fun z hz => by have := hin (hm.o.ptrs x.o hxo) z hz; omega, by omega, h3.2.2.2, by omega⟩
  · have h1 := ht t htm
    have hts : (t.2.map (·.2)) ∈ g.slots := by rw [hg.es]; exact List.mem_map.2 ⟨t, htm, rfl⟩
    refine ⟨by omega, fun f hfm => ⟨by have := hf t.2 f hfm; omega, fun z hz => ?_⟩⟩
    have := hin (hm.s.ok _ hts f.2 (List.mem_map.2 ⟨f, hfm, rfl⟩)).2 z hz
    omega
  · have := hin hm.h.all z hzm
    omega
  · have := hin hm.f.que z hzm
    omega

theorem wc_of {n0 : Nat} {w : World} {vo vs vh vr vq : Value} {os : List OL} {ts : List (Value × List (Value × List Int))} {g : Im.Gr} (hg : Grd n0 w vo vs vh vr vq os ts g) (hz : gsz os ts g ≤ 16384) (hr : ∀ x, x ∈ os → obR x.o) (hm : MB g) : Wc os ts g :=
  wc_le hg (Nat.le_trans hz (by decide)) hr hm

/-! How many bytes there are at most. -/
theorem num_le (n : Nat) (h : n < 18446744073709551616) : (Im.num n).length ≤ 10 := num_len 9 n (by omega)

theorem flat_le {α : Type} (f : α → List Nat) (B : Nat) : ∀ l : List α, (∀ x, x ∈ l → (f x).length ≤ B) → (l.flatMap f).length ≤ l.length * B := by
  intro l
  induction l with
  | nil => intro _; simp
  | cons a r ih =>
    intro h
    have h1 := h a (by simp)
    have h2 := ih (fun x hx => h x (by simp [hx]))
    rw [List.flatMap_cons, List.length_append, List.length_cons, Nat.succ_mul]
    omega

theorem listE_le {α : Type} (f : α → List Nat) (B N : Nat) (l : List α) (h : ∀ x, x ∈ l → (f x).length ≤ B) (hl : l.length ≤ N) (hN : N < 18446744073709551616) : (Im.listE f l).length ≤ 10 + N * B := by
  have h1 := num_le l.length (by omega)
  have h2 := flat_le f B l h
  have h3 : l.length * B ≤ N * B := Nat.mul_le_mul_right _ hl
  unfold Im.listE
  rw [List.length_append]
  omega

theorem enc_le {n0 : Nat} {w : World} {vo vs vh vr vq : Value} {os : List OL} {ts : List (Value × List (Value × List Int))} {g : Im.Gr} (hg : Grd n0 w vo vs vh vr vq os ts g) (hz : gsz os ts g ≤ 16384) (hm : MB g) (hW : Wc os ts g) : (Im.ngE (Im.toNG g)).length ≤ 90000000000 := by
  have ho : ∀ x, x ∈ os → x.o.ps.length + x.o.rs.length ≤ osum os := sum_mem (fun x : OL => x.o.ps.length + x.o.rs.length) os
  have ht : ∀ x, x ∈ ts → x.2.length + fsum (x.2.map (·.2)) ≤ tsum ts := sum_mem (fun x : Value × List (Value × List Int) => x.2.length + fsum (x.2.map (·.2))) ts
  have hf : ∀ (l : List (Value × List Int)) y, y ∈ l → y.2.length ≤ fsum (l.map (·.2)) := fun l y hy => by
    unfold fsum
    rw [List.map_map]
    exact sum_mem (fun y : Value × List Int => y.2.length) l y hy
  have hsz : os.length ≤ 16384 ∧ ts.length ≤ 16384 ∧ osum os ≤ 16384 ∧ tsum ts ≤ 16384 ∧ g.hs.length ≤ 16384 ∧ g.qu.length ≤ 16384 := by
    unfold gsz szs at hz
    omega
  have e1 : g.obs.length ≤ 16384 := by rw [hg.eo, List.length_map]; omega
  have h1 : (Im.num g.next).length ≤ 10 := num_le _ hg.nx
  have h2 : (Im.listE Im.roE (Im.toObs 0 g.obs)).length ≤ 10 + 16384 * 400000 := by
    refine listE_le _ _ _ _ (fun r hrm => ?_) (by rw [Im.toObs_length]; exact e1) (by omega)
    obtain ⟨o, m, hom, rfl⟩ := Im.mem_toObs _ _ _ hrm
    rw [hg.eo] at hom
    obtain ⟨x, hxm, rfl⟩ := List.mem_map.1 hom
    obtain ⟨i, hi⟩ := List.getElem?_of_mem hxm
    have h := hW.o i x hi
    have h9 := ho x hxm
    have a1 := num_le (x.o.ser - m) (by omega)
    have a2 := num_le x.o.kind.toNat (by omega)
    have a3 := num_le x.o.site.toNat (by omega)
    have a4 := listE_le Im.num 10 16384 (x.o.ps.map Int.toNat) (fun y hy => by
      obtain ⟨z, hz', rfl⟩ := List.mem_map.1 hy
      have := h.2.2.2.2.1 z hz'
      exact num_le _ (by omega)) (by rw [List.length_map]; omega) (by omega)
    have a5 := listE_le Im.num 10 16384 x.o.rs (fun y hy => num_le _ (h.2.2.2.2.2.2.1 y hy)) (by omega) (by omega)
    simp only [Im.roE, List.length_append]
    omega
  have h3 : (Im.listE (Im.listE (Im.listE Im.num)) (g.slots.map fun t => t.map fun f => f.map Int.toNat)).length ≤ 10 + 8 * 3000000000 := by
    refine listE_le _ _ _ _ (fun t htm => ?_) (by rw [List.length_map]; exact hm.s.t1) (by omega)
    obtain ⟨t', ht', rfl⟩ := List.mem_map.1 htm
    rw [hg.es] at ht'
    obtain ⟨x, hxm, rfl⟩ := List.mem_map.1 ht'
    have hx := ht x hxm
    have := listE_le (Im.listE Im.num) 170000 16384 ((x.2.map (·.2)).map fun f => f.map Int.toNat) (fun f hfm => ?_) (by rw [List.length_map, List.length_map]; omega) (by omega)
    · omega
    · obtain ⟨f', hf', rfl⟩ := List.mem_map.1 hfm
      obtain ⟨y, hym, rfl⟩ := List.mem_map.1 hf'
      have h9 := hf x.2 y hym
      have := listE_le Im.num 10 16384 (y.2.map Int.toNat) (fun n hn => by
        obtain ⟨z, hz', rfl⟩ := List.mem_map.1 hn
        have := ((hW.tl x hxm).2 y hym).2 z hz'
        exact num_le _ (by omega)) (by rw [List.length_map]; omega) (by omega)
      omega
  have h4 := listE_le Im.num 10 16384 (g.hs.map fun z => (z + 1).toNat) (fun n hn => by
    obtain ⟨z, hz', rfl⟩ := List.mem_map.1 hn
    have := hW.h z hz'
    exact num_le _ (by omega)) (by rw [List.length_map]; omega) (by omega)
  have h5 := listE_le Im.num 10 16384 (g.qu.map Int.toNat) (fun n hn => by
    obtain ⟨z, hz', rfl⟩ := List.mem_map.1 hn
    have := hW.q z hz'
    exact num_le _ (by omega)) (by rw [List.length_map]; omega) (by omega)
  simp only [Im.ngE, Im.toNG, List.length_append]
  omega

end Go.Proofs.YtblbiikfipcbcaaGreatDoor

/-
  Images: Write.
-/
set_option linter.unusedVariables false
set_option maxRecDepth 20000
namespace Go.Proofs.YtblbiikfipcbcaaGreatDoor
open Go.RowKit Go.Shelf

/-- What Write answers: the bytes and the number of an error. -/
def Wrote (w0 : World) (w' : World) (g : Im.Gr) (v : Value) (r : Int) : Prop :=
  (r = 0 ∧ MB g ∧ w'.ownsRow w0.heap.size 5 1 v (Im.enc (Im.toNG g)).length (bts (Im.enc (Im.toNG g)))) ∨ (r = 164 ∧ ¬ MB g ∧ v = .slice none 0 0)

theorem body_byte (g : Im.Gr) : ∀ x, x ∈ Im.magic ++ Im.ngE (Im.toNG g) → x < 256 := fun x hx => by
  rcases List.mem_append.1 hx with h | h
  · simp [Im.magic] at h; omega
  · exact Im.ngE_byte _ x h

theorem row_up {w : World} {e n Q cap b : Nat} {xs : List Value} (h : w.ownsRow 0 e 1 (.slice (some ⟨Q, 0, none⟩) n cap) n xs) (hb : b ≤ Q) : w.ownsRow b e 1 (.slice (some ⟨Q, 0, none⟩) n cap) n xs := by
  refine ⟨h.1, ?_⟩
  rcases h.2 with ⟨h1, _⟩ | ⟨g, cp, cur, e1, _, rest⟩
  · cases h1
  · cases e1
    exact .inr ⟨Q, cap, cur, rfl, hb, rest⟩

end Go.Proofs.YtblbiikfipcbcaaGreatDoor

