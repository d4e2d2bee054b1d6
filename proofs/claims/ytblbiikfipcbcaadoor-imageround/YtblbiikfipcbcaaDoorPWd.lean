import Derived.Test.YtblbiikfipcbcaaDoorPWb
import Derived.Test.YtblbiikfipcbcaaDoorPIx
import Derived.Test.YtblbiikfipcbcaaDoorPWc
/-
  Images: what may be can be written.
-/
set_option linter.unusedVariables false
set_option maxRecDepth 20000
namespace Go.Proofs.YtblbiikfipcbcaaDoor
open Go.RowKit Go.Shelf

theorem rise_lastW : ∀ (l : List Im.Ob) (last i : Nat) (o : Im.Ob), Im.Rise last l → l[i]? = some o → (match i with | 0 => last | k + 1 => ((l[k]?).map (·.ser)).getD 0) < o.ser := by
  intro l
  induction l with
  | nil => intro last i o _ h; simp at h
  | cons a r ih =>
    intro last i o hr h
    match i, h with
    | 0, h => simp at h; rw [← h]; exact hr.1
    | 1, h => have := ih a.ser 0 o hr.2 (by simpa using h); simpa using this
    | k + 2, h => have := ih a.ser (k + 1) o hr.2 (by simpa using h); simpa using this

theorem hd16_in {o : Im.Ob} (h : hd16 o) : 1 ≤ o.kind ∧ o.kind ≤ 4 ∧ 0 ≤ o.site ∧ o.site ≤ 255 := by
  unfold hd16 flt at h
  split at h
  · omega
  split at h
  · omega
  split at h
  · omega
  split at h
  · omega
  split at h
  · omega
  rename_i h1 _ _ _ h5
  omega

/-- A graph that may be, and whose lists aren't long. -/
theorem wc_le {n0 : Nat} {w : World} {vo vs vh vr vq : Value} {os : List OL} {ts : List (Value × List (Value × List Int))} {g : Im.Gr} (hg : Grd n0 w vo vs vh vr vq os ts g) (hz : gsz os ts g ≤ 131072) (hr : ∀ x, x ∈ os → obR x.o) (hm : MB g) : Wc os ts g := by
  have ho : ∀ x, x ∈ os → x.o.ps.length + x.o.rs.length ≤ osum os := sum_mem (fun x : OL => x.o.ps.length + x.o.rs.length) os
  have ht : ∀ x, x ∈ ts → x.2.length + fsum (x.2.map (·.2)) ≤ tsum ts := sum_mem (fun x : Value × List (Value × List Int) => x.2.length + fsum (x.2.map (·.2))) ts
  have hf : ∀ (l : List (Value × List Int)) y, y ∈ l → y.2.length ≤ fsum (l.map (·.2)) := fun l y hy => by
    unfold fsum
    rw [List.map_map]
    exact sum_mem (fun y : Value × List Int => y.2.length) l y hy
  have hol : g.obs.length = os.length := by rw [hg.eo, List.length_map]
  have hsz : os.length ≤ 131072 ∧ ts.length ≤ 131072 ∧ osum os ≤ 131072 ∧ tsum ts ≤ 131072 ∧ g.hs.length ≤ 131072 ∧ g.qu.length ≤ 131072 := by
    unfold gsz szs at hz
    omega
  have hin : ∀ {lo : Int} {l : List Int}, allB lo g.obs.length l → ∀ z, z ∈ l → lo ≤ z ∧ z ≤ 131072 := fun {lo l} h z hz => by
    have := h z hz
    unfold inB at this
    simp at this
    omega
  refine ⟨by omega, fun i x hx => ?_, by omega, fun t htm => ?_, by omega, fun z hzm => ?_, by omega, fun z hzm => ?_⟩
  · have hxm := List.mem_of_getElem? hx
    have hxo : x.o ∈ g.obs := by rw [hg.eo]; exact List.mem_map.2 ⟨x, hxm, rfl⟩
    have h1 := ho x hxm
    have h2 := hd16_in (hm.o.head x.o hxo)
    have h3 := hr x hxm
    have hi : g.obs[i]? = some x.o := by rw [hg.eo, List.getElem?_map, hx]; rfl
    have h4 := rise_lastW g.obs 0 i x.o hm.o.rise hi
    have h5 : lastOf os i ≤ x.o.ser := by
      match i, h4 with
      | 0, h4 => exact Nat.zero_le _
      | k + 1, h4 =>
        refine Nat.le_of_lt ?_
        simp only [hg.eo, List.getElem?_map, Option.map_map] at h4
        exact h4
    exact ⟨h5, h3.1, by omega, by omega, fun z hz => by have := hin (hm.o.ptrs x.o hxo) z hz; omega, by omega, h3.2.2.2, by omega⟩
  · have h1 := ht t htm
    have hts : (t.2.map (·.2)) ∈ g.slots := by rw [hg.es]; exact List.mem_map.2 ⟨t, htm, rfl⟩
    refine ⟨by omega, fun f hfm => ⟨by have := hf t.2 f hfm; omega, fun z hz => ?_⟩⟩
    have := hin (hm.s.ok _ hts f.2 (List.mem_map.2 ⟨f, hfm, rfl⟩)).2 z hz
    omega
  · have := hin hm.h.all z hzm
    omega
  · have := hin hm.f.que z hzm
    omega

theorem wc_of {n0 : Nat} {w : World} {vo vs vh vr vq : Value} {os : List OL} {ts : List (Value × List (Value × List Int))} {g : Im.Gr} (hg : Grd n0 w vo vs vh vr vq os ts g) (hz : gsz os ts g ≤ 16384) (hr : ∀ x, x ∈ os → obR x.o) (hm : MB g) : Wc os ts g :=
  wc_le hg (Nat.le_trans hz (by decide)) hr hm

/-! How many bytes there are at most. -/
theorem num_le (n : Nat) (h : n < 18446744073709551616) : (Im.num n).length ≤ 10 := num_len 9 n (by omega)

theorem flat_le {α : Type} (f : α → List Nat) (B : Nat) : ∀ l : List α, (∀ x, x ∈ l → (f x).length ≤ B) → (l.flatMap f).length ≤ l.length * B := by
  intro l
  induction l with
  | nil => intro _; simp
  | cons a r ih =>
    intro h
    have h1 := h a (by simp)
    have h2 := ih (fun x hx => h x (by simp [hx]))
    rw [List.flatMap_cons, List.length_append, List.length_cons, Nat.succ_mul]
    omega

theorem listE_le {α : Type} (f : α → List Nat) (B N : Nat) (l : List α) (h : ∀ x, x ∈ l → (f x).length ≤ B) (hl : l.length ≤ N) (hN : N < 18446744073709551616) : (Im.listE f l).length ≤ 10 + N * B := by
  have h1 := num_le l.length (by omega)
  have h2 := flat_le f B l h
  have h3 : l.length * B ≤ N * B := Nat.mul_le_mul_right _ hl
  unfold Im.listE
  rw [List.length_append]
  omega

theorem enc_le {n0 : Nat} {w : World} {vo vs vh vr vq : Value} {os : List OL} {ts : List (Value × List (Value × List Int))} {g : Im.Gr} (hg : Grd n0 w vo vs vh vr vq os ts g) (hz : gsz os ts g ≤ 16384) (hm : MB g) (hW : Wc os ts g) : (Im.ngE (Im.toNG g)).length ≤ 90000000000 := by
  have ho : ∀ x, x ∈ os → x.o.ps.length + x.o.rs.length ≤ osum os := sum_mem (fun x : OL => x.o.ps.length + x.o.rs.length) os
  have ht : ∀ x, x ∈ ts → x.2.length + fsum (x.2.map (·.2)) ≤ tsum ts := sum_mem (fun x : Value × List (Value × List Int) => x.2.length + fsum (x.2.map (·.2))) ts
  have hf : ∀ (l : List (Value × List Int)) y, y ∈ l → y.2.length ≤ fsum (l.map (·.2)) := fun l y hy => by
    unfold fsum
    rw [List.map_map]
    exact sum_mem (fun y : Value × List Int => y.2.length) l y hy
  have hsz : os.length ≤ 16384 ∧ ts.length ≤ 16384 ∧ osum os ≤ 16384 ∧ tsum ts ≤ 16384 ∧ g.hs.length ≤ 16384 ∧ g.qu.length ≤ 16384 := by
    unfold gsz szs at hz
    omega
  have e1 : g.obs.length ≤ 16384 := by rw [hg.eo, List.length_map]; omega
  have h1 : (Im.num g.next).length ≤ 10 := num_le _ hg.nx
  have h2 : (Im.listE Im.roE (Im.toObs 0 g.obs)).length ≤ 10 + 16384 * 400000 := by
    refine listE_le _ _ _ _ (fun r hrm => ?_) (by rw [Im.toObs_length]; exact e1) (by omega)
    obtain ⟨o, m, hom, rfl⟩ := Im.mem_toObs _ _ _ hrm
    rw [hg.eo] at hom
    obtain ⟨x, hxm, rfl⟩ := List.mem_map.1 hom
    obtain ⟨i, hi⟩ := List.getElem?_of_mem hxm
    have h := hW.o i x hi
    have h9 := ho x hxm
    have a1 := num_le (x.o.ser - m) (by omega)
    have a2 := num_le x.o.kind.toNat (by omega)
    have a3 := num_le x.o.site.toNat (by omega)
    have a4 := listE_le Im.num 10 16384 (x.o.ps.map Int.toNat) (fun y hy => by
      obtain ⟨z, hz', rfl⟩ := List.mem_map.1 hy
      have := h.2.2.2.2.1 z hz'
      exact num_le _ (by omega)) (by rw [List.length_map]; omega) (by omega)
    have a5 := listE_le Im.num 10 16384 x.o.rs (fun y hy => num_le _ (h.2.2.2.2.2.2.1 y hy)) (by omega) (by omega)
    simp only [Im.roE, List.length_append]
    omega
  have h3 : (Im.listE (Im.listE (Im.listE Im.num)) (g.slots.map fun t => t.map fun f => f.map Int.toNat)).length ≤ 10 + 8 * 3000000000 := by
    refine listE_le _ _ _ _ (fun t htm => ?_) (by rw [List.length_map]; exact hm.s.t1) (by omega)
    obtain ⟨t', ht', rfl⟩ := List.mem_map.1 htm
    rw [hg.es] at ht'
    obtain ⟨x, hxm, rfl⟩ := List.mem_map.1 ht'
    have hx := ht x hxm
    have := listE_le (Im.listE Im.num) 170000 16384 ((x.2.map (·.2)).map fun f => f.map Int.toNat) (fun f hfm => ?_) (by rw [List.length_map, List.length_map]; omega) (by omega)
    · omega
    · obtain ⟨f', hf', rfl⟩ := List.mem_map.1 hfm
      obtain ⟨y, hym, rfl⟩ := List.mem_map.1 hf'
      have h9 := hf x.2 y hym
      have := listE_le Im.num 10 16384 (y.2.map Int.toNat) (fun n hn => by
        obtain ⟨z, hz', rfl⟩ := List.mem_map.1 hn
        have := ((hW.tl x hxm).2 y hym).2 z hz'
        exact num_le _ (by omega)) (by rw [List.length_map]; omega) (by omega)
      omega
  have h4 := listE_le Im.num 10 16384 (g.hs.map fun z => (z + 1).toNat) (fun n hn => by
    obtain ⟨z, hz', rfl⟩ := List.mem_map.1 hn
    have := hW.h z hz'
    exact num_le _ (by omega)) (by rw [List.length_map]; omega) (by omega)
  have h5 := listE_le Im.num 10 16384 (g.qu.map Int.toNat) (fun n hn => by
    obtain ⟨z, hz', rfl⟩ := List.mem_map.1 hn
    have := hW.q z hz'
    exact num_le _ (by omega)) (by rw [List.length_map]; omega) (by omega)
  simp only [Im.ngE, Im.toNG, List.length_append]
  omega

end Go.Proofs.YtblbiikfipcbcaaDoor

/-
  Images: Write.
-/
set_option linter.unusedVariables false
set_option maxRecDepth 20000
namespace Go.Proofs.YtblbiikfipcbcaaDoor
open Go.RowKit Go.Shelf

/-- What Write answers: the bytes and the number of an error. -/
def Wrote (w0 : World) (w' : World) (g : Im.Gr) (v : Value) (r : Int) : Prop :=
  (r = 0 ∧ MB g ∧ w'.ownsRow w0.heap.size 5 1 v (Im.enc (Im.toNG g)).length (bts (Im.enc (Im.toNG g)))) ∨ (r = 164 ∧ ¬ MB g ∧ v = .slice none 0 0)

theorem body_byte (g : Im.Gr) : ∀ x, x ∈ Im.magic ++ Im.ngE (Im.toNG g) → x < 256 := fun x hx => by
  rcases List.mem_append.1 hx with h | h
  · simp [Im.magic] at h; omega
  · exact Im.ngE_byte _ x h

theorem row_up {w : World} {e n Q cap b : Nat} {xs : List Value} (h : w.ownsRow 0 e 1 (.slice (some ⟨Q, 0, none⟩) n cap) n xs) (hb : b ≤ Q) : w.ownsRow b e 1 (.slice (some ⟨Q, 0, none⟩) n cap) n xs := by
  refine ⟨h.1, ?_⟩
  rcases h.2 with ⟨h1, _⟩ | ⟨g, cp, cur, e1, _, rest⟩
  · cases h1
  · cases e1
    exact .inr ⟨Q, cap, cur, rfl, hb, rest⟩

set_option maxHeartbeats 8000000 in
theorem iWrite_gen (n0 : Nat) (w : World) (hn : n0 ≤ w.heap.size) (hL : Laid w) (vo vs vh vr vq : Value) (os : List OL) (ts : List (Value × List (Value × List Int))) (g : Im.Gr) (hg : Grd n0 w vo vs vh vr vq os ts g) (hz : gsz os ts g ≤ 131072) (hel : MB g → (Im.ngE (Im.toNG g)).length ≤ 90000000000) (hr : ∀ x, x ∈ os → obR x.o) :
    Calls Tryd.prog 12 #[.agg (gcs vo vs vh vr vq g.next)] w fun e w' => ∃ v r, e = .returned (.tuple #[v, .int .i64 r]) ∧ Below w.heap.size w w' ∧ Wrote w w' g v r := by
  have l1 : Below w.heap.size w (w.alloc (.cells (gcs vo vs vh vr vq g.next) 29)) := Below.alloc (Below.refl _ _) (Nat.le_refl _) _
  have hx := heap_alloc_new w (.cells (gcs vo vs vh vr vq g.next) 29 (0, 0))
  have hws : (w.alloc (.cells (gcs vo vs vh vr vq g.next) 29)).heap.size = w.heap.size + 1 := by simp
  obtain ⟨aa, ac, ea, -⟩ := hg.ob
  obtain ⟨ba, bc, eb, -⟩ := hg.sl
  obtain ⟨ca, cc, ec, -, -⟩ := hg.hs
  obtain ⟨da, dc, ed, -, -⟩ := hg.rg
  obtain ⟨qa, qc, eq, -, -⟩ := hg.qu
  subst ea eb ec ed eq
  generalize hW : w.alloc (.cells (gcs (.slice aa os.length ac) (.slice ba ts.length bc) (.slice ca g.hs.length cc) (.slice da g.rg.length dc) (.slice qa g.qu.length qc) g.next) 29) = W at *
  have HG : Hid (∀ w', Below w.heap.size w w' → Grd n0 w' (.slice aa os.length ac) (.slice ba ts.length bc) (.slice ca g.hs.length cc) (.slice da g.rg.length dc) (.slice qa g.qu.length qc) os ts g) := fun w' b' => hg.below (b'.mono hn)
  have HKj : Hid (∀ w', Below W.heap.size W w' → Below w.heap.size w w' ∧ ∀ j, w'.cell? ⟨w.heap.size, j, none⟩ = (gcs (.slice aa os.length ac) (.slice ba ts.length bc) (.slice ca g.hs.length cc) (.slice da g.rg.length dc) (.slice qa g.qu.length qc) g.next)[j]?) := fun w' b' => ⟨l1.trans (b'.mono l1.size), fun j => (b'.cell (p := ⟨w.heap.size, j, none⟩) (by show w.heap.size < W.heap.size; omega)).trans (Kg.heap_cell hx j)⟩
  have Hz : Hid (gsz os ts g ≤ 131072) := hz
  have HEL : Hid (MB g → (Im.ngE (Im.toNG g)).length ≤ 90000000000) := hel
  clear hel
  have HR : Hid (∀ x, x ∈ os → obR x.o) := hr
  have Heo : Hid (g.obs = os.map (·.o) ∧ g.slots = ts.map (fun t => t.2.map (·.2))) := ⟨hg.eo, hg.es⟩
  have k := (HKj.out W (Below.refl _ _)).2
  have k0 := k 0
  have k1 := k 1
  have k2 := k 2
  have k3 := k 3
  have k4 := k 4
  have k5 := k 5
  simp only [List.getElem?_toArray, List.getElem?_cons_zero, List.getElem?_cons_succ] at k0 k1 k2 k3 k4 k5
  have hC := iCheck_any n0 W _ _ _ _ _ os ts g (HG.out W l1) (by omega) (hL.keep l1) (gln_le (by omega) hg.eo hg.es)
  clear k hg hz hr hL hx
  go_enter Tryd.func12, Tryd.ntmps12
  go_wp2_with fail
  refine hC.mono ?_
  rintro e w1 ⟨r, rfl, b1, hr1⟩
  have HB1 : Hid (Below W.heap.size W w1) := b1
  clear hC b1 k0 k1 k2 k3 k4 k5
  rcases hr1 with ⟨rfl, hm⟩ | ⟨rfl, hm⟩
  · have Hm : Hid (MB g) := hm
    clear hm
    go_upto_region 5 with fail
    have bR : Below w1.heap.size w1 (w1.alloc (.cells #[.slice none 0 0] 64)) := Below.alloc (Below.refl _ _) (Nat.le_refl _) _
    have hxR := heap_alloc_new w1 (.cells #[.slice none 0 0] 64 (0, 0))
    have hsR : (w1.alloc (.cells #[.slice none 0 0] 64)).heap.size = w1.heap.size + 1 := by simp
    have HBR : Hid (Below W.heap.size W (w1.alloc (.cells #[.slice none 0 0] 64))) := HB1.out.trans (bR.mono HB1.out.size)
    generalize w1.alloc (.cells #[.slice none 0 0] 64) = W1 at *
    have hC := begin_any W1 w1.heap.size hxR
    clear bR hxR
    go_wp2_with fail
    refine hC.mono ?_
    rintro e w2 ⟨rfl, Q, hW2, ht2, hQ2⟩
    have hs1 := HB1.out.size
    have hs2 := ht2.size
    have HB2 : Hid (Below W.heap.size W w2) := HBR.out.trans (ht2.below HBR.out.size (fun x hx => by simp only [List.mem_cons, List.not_mem_nil, or_false] at hx; omega))
    have HW2 : Hid (Wr w2 w1.heap.size Q Im.magic) := hW2
    have hWc := wc_le (HG.out w (Below.refl _ _)) Hz.out HR.out Hm.out
    have Hel : Hid ((Im.ngE (Im.toNG g)).length ≤ 90000000000) := HEL.out Hm.out
    have hk2 := HKj.out w2 HB2.out
    have hC := parts_any (n0 := W.heap.size) (B := w.heap.size) (by omega) (by omega) hW2.lt.1 hW2.lt.2.1 (by omega) (fun j _ => hk2.2 j) ((HG.out w2 hk2.1).mono (by omega)) hWc
    clear hk2 hWc hW2 ht2
    go_wp2_with fail
    refine hC.mono ?_
    rintro e w3 ⟨u, rfl, b3, hp3⟩
    have hC := hp3 w3 Q Im.magic (Kp.refl _ _ _) (HW2.out.below b3) (by have := Hel.out; simp [Im.magic]; omega)
    have HB3 : Hid (Below W.heap.size W w3) := HB2.out.trans (b3.mono HB2.out.size)
    clear hp3 b3
    go_wp2_with fail
    refine hC.mono ?_
    rintro e w4 ⟨rfl, Q4, hW4, hK4⟩
    have HW4 : Hid (Wr w4 w1.heap.size Q4 (Im.magic ++ Im.ngE (Im.toNG g))) := hW4
    have hlo4 := hK4.low (n0 := W.heap.size) HB3.out.size (by omega) (by omega)
    have HB4 : Hid (Below W.heap.size W w4 ∧ W.heap.size ≤ Q4) := ⟨HB3.out.trans hlo4.1, hlo4.2⟩
    have hC := end_any w4 w1.heap.size Q4 _ hW4 (body_byte g) (by have := Hel.out; simp [Im.magic]; omega)
    clear hW4 hK4 hlo4
    go_wp2_with fail
    refine hC.mono ?_
    rintro e w5 ⟨rfl, Q5, hW5, hK5⟩
    have hlo5 := hK5.low (n0 := W.heap.size) HB4.out.1.size (by omega) HB4.out.2
    have HB5 : Hid (Below W.heap.size W w5 ∧ W.heap.size ≤ Q5) := ⟨HB4.out.1.trans hlo5.1, hlo5.2⟩
    obtain ⟨cap, hr5, ho5⟩ := hW5.c
    have c5 := (Kg.heap_cell hr5 0).trans (show _ = some (.slice (some ⟨Q5, 0, none⟩) (Im.magic ++ Im.ngE (Im.toNG g) ++ Im.le4 (Im.fnv (Im.magic ++ Im.ngE (Im.toNG g)))).length cap) from rfl)
    have e5 : Im.magic ++ Im.ngE (Im.toNG g) ++ Im.le4 (Im.fnv (Im.magic ++ Im.ngE (Im.toNG g))) = Im.enc (Im.toNG g) := rfl
    rw [e5] at c5 ho5
    have Ho5 : Hid (w5.ownsRow 0 5 1 (.slice (some ⟨Q5, 0, none⟩) (Im.enc (Im.toNG g)).length cap) (Im.enc (Im.toNG g)).length (bts (Im.enc (Im.toNG g)))) := ho5
    clear hW5 hK5 hlo5 hr5 ho5 e5
    generalize hn5 : (Im.enc (Im.toNG g)).length = n5 at c5 Ho5
    go_wp2
    go_ret2
    refine ⟨_, _, rfl, (HKj.out w5 HB5.out.1).1, .inl ⟨rfl, Hm.out, ?_⟩⟩
    rw [hn5]
    exact row_up Ho5.out (by have := HB5.out.2; omega)
  · have Hm : Hid (¬ MB g) := hm
    clear hm
    go_wp2
    go_ret2
    exact ⟨_, _, rfl, (HKj.out w1 HB1.out).1, .inr ⟨rfl, Hm.out, rfl⟩⟩

theorem iWrite_any (n0 : Nat) (w : World) (hn : n0 ≤ w.heap.size) (hL : Laid w) (vo vs vh vr vq : Value) (os : List OL) (ts : List (Value × List (Value × List Int))) (g : Im.Gr) (hg : Grd n0 w vo vs vh vr vq os ts g) (hz : gsz os ts g ≤ 16384) (hr : ∀ x, x ∈ os → obR x.o) :
    Calls Tryd.prog 12 #[.agg (gcs vo vs vh vr vq g.next)] w fun e w' => ∃ v r, e = .returned (.tuple #[v, .int .i64 r]) ∧ Below w.heap.size w w' ∧ Wrote w w' g v r :=
  iWrite_gen n0 w hn hL vo vs vh vr vq os ts g hg (Nat.le_trans hz (by decide)) (fun hm => enc_le hg hz hm (wc_of hg hz hr hm)) hr

end Go.Proofs.YtblbiikfipcbcaaDoor

