/-
  Images: Write.
-/
import Derived.Test.YtblbiikfipcbcaaDoorPWc
import Derived.Test.YtblbiikfipcbcaaDoorIWa
import Derived.Test.YtblbiikfipcbcaaDoorIX2
set_option linter.unusedVariables false
set_option maxRecDepth 20000
namespace Go.Proofs.YtblbiikfipcbcaaDoor
open Go.RowKit Go.Shelf

/-- What Write answers: the bytes and the number of an error. -/
def Wrote (w0 : World) (w' : World) (g : Im.Gr) (v : Value) (r : Int) : Prop :=
  (r = 0 ∧ MB g ∧ w'.ownsRow w0.heap.size 5 1 v (Im.enc (Im.toNG g)).length (bts (Im.enc (Im.toNG g)))) ∨ (r = 164 ∧ ¬ MB g ∧ v = .slice none 0 0)

theorem body_byte (g : Im.Gr) : ∀ x, x ∈ Im.magic ++ Im.ngE (Im.toNG g) → x < 256 := fun x hx => by
  rcases List.mem_append.1 hx with h | h
  · simp [Im.magic] at h; omega
  · exact Im.ngE_byte _ x h

theorem row_up {w : World} {e n Q cap b : Nat} {xs : List Value} (h : w.ownsRow 0 e 1 (.slice (some ⟨Q, 0, none⟩) n cap) n xs) (hb : b ≤ Q) : w.ownsRow b e 1 (.slice (some ⟨Q, 0, none⟩) n cap) n xs := by
  refine ⟨h.1, ?_⟩
  rcases h.2 with ⟨h1, _⟩ | ⟨g, cp, cur, e1, _, rest⟩
  · cases h1
  · cases e1
    exact .inr ⟨Q, cap, cur, rfl, hb, rest⟩

set_option maxHeartbeats 8000000 in
theorem iWrite_any (n0 : Nat) (w : World) (hn : n0 ≤ w.heap.size) (hL : Laid w) (vo vs vh vr vq : Value) (os : List OL) (ts : List (Value × List (Value × List Int))) (g : Im.Gr) (hg : Grd n0 w vo vs vh vr vq os ts g) (hz : gsz os ts g ≤ 16384) (hr : ∀ x, x ∈ os → obR x.o) :
    Calls Tryd.prog 12 #[.agg (gcs vo vs vh vr vq g.next)] w fun e w' => ∃ v r, e = .returned (.tuple #[v, .int .i64 r]) ∧ Below w.heap.size w w' ∧ Wrote w w' g v r := by
  have l1 : Below w.heap.size w (w.alloc (.cells (gcs vo vs vh vr vq g.next) 29)) := Below.alloc (Below.refl _ _) (Nat.le_refl _) _
  have hx := heap_alloc_new w (.cells (gcs vo vs vh vr vq g.next) 29 (0, 0))
  have hws : (w.alloc (.cells (gcs vo vs vh vr vq g.next) 29)).heap.size = w.heap.size + 1 := by simp
  obtain ⟨aa, ac, ea, -⟩ := hg.ob
  obtain ⟨ba, bc, eb, -⟩ := hg.sl
  obtain ⟨ca, cc, ec, -, -⟩ := hg.hs
  obtain ⟨da, dc, ed, -, -⟩ := hg.rg
  obtain ⟨qa, qc, eq, -, -⟩ := hg.qu
  subst ea eb ec ed eq
  generalize hW : w.alloc (.cells (gcs (.slice aa os.length ac) (.slice ba ts.length bc) (.slice ca g.hs.length cc) (.slice da g.rg.length dc) (.slice qa g.qu.length qc) g.next) 29) = W at *
  have HG : Hid (∀ w', Below w.heap.size w w' → Grd n0 w' (.slice aa os.length ac) (.slice ba ts.length bc) (.slice ca g.hs.length cc) (.slice da g.rg.length dc) (.slice qa g.qu.length qc) os ts g) := fun w' b' => hg.below (b'.mono hn)
  have HKj : Hid (∀ w', Below W.heap.size W w' → Below w.heap.size w w' ∧ ∀ j, w'.cell? ⟨w.heap.size, j, none⟩ = (gcs (.slice aa os.length ac) (.slice ba ts.length bc) (.slice ca g.hs.length cc) (.slice da g.rg.length dc) (.slice qa g.qu.length qc) g.next)[j]?) := fun w' b' => ⟨l1.trans (b'.mono l1.size), fun j => (b'.cell (p := ⟨w.heap.size, j, none⟩) (by show w.heap.size < W.heap.size; omega)).trans (Kg.heap_cell hx j)⟩
  have Hz : Hid (gsz os ts g ≤ 16384) := hz
  have HR : Hid (∀ x, x ∈ os → obR x.o) := hr
  have Heo : Hid (g.obs = os.map (·.o) ∧ g.slots = ts.map (fun t => t.2.map (·.2))) := ⟨hg.eo, hg.es⟩
  have k := (HKj.out W (Below.refl _ _)).2
  have k0 := k 0
  have k1 := k 1
  have k2 := k 2
  have k3 := k 3
  have k4 := k 4
  have k5 := k 5
  simp only [List.getElem?_toArray, List.getElem?_cons_zero, List.getElem?_cons_succ] at k0 k1 k2 k3 k4 k5
  have hC := iCheck_any n0 W _ _ _ _ _ os ts g (HG.out W l1) (by omega) (hL.keep l1) (gln_of hz hg.eo hg.es)
  clear k hg hz hr hL hx
  go_enter Tryd.func12, Tryd.ntmps12
  go_wp2_with fail
  refine hC.mono ?_
  rintro e w1 ⟨r, rfl, b1, hr1⟩
  have HB1 : Hid (Below W.heap.size W w1) := b1
  clear hC b1 k0 k1 k2 k3 k4 k5
  rcases hr1 with ⟨rfl, hm⟩ | ⟨rfl, hm⟩
  · have Hm : Hid (MB g) := hm
    clear hm
    go_upto_region 5 with fail
    have bR : Below w1.heap.size w1 (w1.alloc (.cells #[.slice none 0 0] 64)) := Below.alloc (Below.refl _ _) (Nat.le_refl _) _
    have hxR := heap_alloc_new w1 (.cells #[.slice none 0 0] 64 (0, 0))
    have hsR : (w1.alloc (.cells #[.slice none 0 0] 64)).heap.size = w1.heap.size + 1 := by simp
    have HBR : Hid (Below W.heap.size W (w1.alloc (.cells #[.slice none 0 0] 64))) := HB1.out.trans (bR.mono HB1.out.size)
    generalize w1.alloc (.cells #[.slice none 0 0] 64) = W1 at *
    have hC := begin_any W1 w1.heap.size hxR
    clear bR hxR
    go_wp2_with fail
    refine hC.mono ?_
    rintro e w2 ⟨rfl, Q, hW2, ht2, hQ2⟩
    have hs1 := HB1.out.size
    have hs2 := ht2.size
    have HB2 : Hid (Below W.heap.size W w2) := HBR.out.trans (ht2.below HBR.out.size (fun x hx => by simp only [List.mem_cons, List.not_mem_nil, or_false] at hx; omega))
    have HW2 : Hid (Wr w2 w1.heap.size Q Im.magic) := hW2
    have hWc := wc_of (HG.out w (Below.refl _ _)) Hz.out HR.out Hm.out
    have Hel : Hid ((Im.ngE (Im.toNG g)).length ≤ 90000000000) := enc_le (HG.out w (Below.refl _ _)) Hz.out Hm.out hWc
    have hk2 := HKj.out w2 HB2.out
    have hC := parts_any (n0 := W.heap.size) (B := w.heap.size) (by omega) (by omega) hW2.lt.1 hW2.lt.2.1 (by omega) (fun j _ => hk2.2 j) ((HG.out w2 hk2.1).mono (by omega)) hWc
    clear hk2 hWc hW2 ht2
    go_wp2_with fail
    refine hC.mono ?_
    rintro e w3 ⟨u, rfl, b3, hp3⟩
    have hC := hp3 w3 Q Im.magic (Kp.refl _ _ _) (HW2.out.below b3) (by have := Hel.out; simp [Im.magic]; omega)
    have HB3 : Hid (Below W.heap.size W w3) := HB2.out.trans (b3.mono HB2.out.size)
    clear hp3 b3
    go_wp2_with fail
    refine hC.mono ?_
    rintro e w4 ⟨rfl, Q4, hW4, hK4⟩
    have HW4 : Hid (Wr w4 w1.heap.size Q4 (Im.magic ++ Im.ngE (Im.toNG g))) := hW4
    have hlo4 := hK4.low (n0 := W.heap.size) HB3.out.size (by omega) (by omega)
    have HB4 : Hid (Below W.heap.size W w4 ∧ W.heap.size ≤ Q4) := ⟨HB3.out.trans hlo4.1, hlo4.2⟩
    have hC := end_any w4 w1.heap.size Q4 _ hW4 (body_byte g) (by have := Hel.out; simp [Im.magic]; omega)
    clear hW4 hK4 hlo4
    go_wp2_with fail
    refine hC.mono ?_
    rintro e w5 ⟨rfl, Q5, hW5, hK5⟩
    have hlo5 := hK5.low (n0 := W.heap.size) HB4.out.1.size (by omega) HB4.out.2
    have HB5 : Hid (Below W.heap.size W w5 ∧ W.heap.size ≤ Q5) := ⟨HB4.out.1.trans hlo5.1, hlo5.2⟩
    obtain ⟨cap, hr5, ho5⟩ := hW5.c
    have c5 := (Kg.heap_cell hr5 0).trans (show _ = some (.slice (some ⟨Q5, 0, none⟩) (Im.magic ++ Im.ngE (Im.toNG g) ++ Im.le4 (Im.fnv (Im.magic ++ Im.ngE (Im.toNG g)))).length cap) from rfl)
    have e5 : Im.magic ++ Im.ngE (Im.toNG g) ++ Im.le4 (Im.fnv (Im.magic ++ Im.ngE (Im.toNG g))) = Im.enc (Im.toNG g) := rfl
    rw [e5] at c5 ho5
    have Ho5 : Hid (w5.ownsRow 0 5 1 (.slice (some ⟨Q5, 0, none⟩) (Im.enc (Im.toNG g)).length cap) (Im.enc (Im.toNG g)).length (bts (Im.enc (Im.toNG g)))) := ho5
    clear hW5 hK5 hlo5 hr5 ho5 e5
    generalize hn5 : (Im.enc (Im.toNG g)).length = n5 at c5 Ho5
    go_wp2
    go_ret2
    refine ⟨_, _, rfl, (HKj.out w5 HB5.out.1).1, .inl ⟨rfl, Hm.out, ?_⟩⟩
    rw [hn5]
    exact row_up Ho5.out (by have := HB5.out.2; omega)
  · have Hm : Hid (¬ MB g) := hm
    clear hm
    go_wp2
    go_ret2
    exact ⟨_, _, rfl, (HKj.out w1 HB1.out).1, .inr ⟨rfl, Hm.out, rfl⟩⟩

end Go.Proofs.YtblbiikfipcbcaaDoor
