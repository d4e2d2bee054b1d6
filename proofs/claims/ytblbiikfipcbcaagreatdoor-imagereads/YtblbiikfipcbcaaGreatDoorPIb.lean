import Derived.Test.YtblbiikfipcbcaaGreatDoorPRo
import Derived.Test.YtblbiikfipcbcaaGreatDoorPBy
import Derived.Test.YtblbiikfipcbcaaGreatDoorPSg
import Derived.Test.YtblbiikfipcbcaaGreatDoorIRp
import Derived.Test.YtblbiikfipcbcaaGreatDoorPIx
import Derived.Deep.Cut
import Derived.Deep.CutRange
/-
  Images, ImageReads: what a Read tells, and what lies in memory while the bytes are read again.
-/
set_option linter.unusedVariables false
set_option maxRecDepth 20000
namespace Go.Proofs.YtblbiikfipcbcaaGreatDoor
open Go.RowKit Go.Shelf

def gz : Im.Gr := ⟨0, [], [], [], [], []⟩

/-- What reading these bytes tells: the graph, the place, the error. -/
def Rgt (bs : List Nat) (G : Im.Gr) (pl k : Nat) : Prop := match Im.dec bs with
  | .error (p, c) => G = gz ∧ pl = p ∧ k = c
  | .ok n => (¬ MB (Im.wNG n) ∧ G = gz ∧ pl = 0 ∧ k = 164) ∨ (MB (Im.wNG n) ∧ G = Im.wNG n ∧ pl = 0 ∧ k = 0)

theorem Rgt.uniq {bs : List Nat} {G G' : Im.Gr} {pl pl' k k' : Nat} (h : Rgt bs G pl k) (g : Rgt bs G' pl' k') : G = G' ∧ pl = pl' ∧ k = k' := by
  unfold Rgt at h g
  cases hd : Im.dec bs with
  | error e =>
    obtain ⟨p, c⟩ := e
    rw [hd] at h g
    simp only at h g
    obtain ⟨rfl, rfl, rfl⟩ := h
    obtain ⟨rfl, rfl, rfl⟩ := g
    exact ⟨rfl, rfl, rfl⟩
  | ok n =>
    rw [hd] at h g
    simp only at h g
    rcases h with ⟨h1, rfl, rfl, rfl⟩ | ⟨h1, rfl, rfl, rfl⟩
    · rcases g with ⟨g1, rfl, rfl, rfl⟩ | ⟨g1, rfl, rfl, rfl⟩
      · exact ⟨rfl, rfl, rfl⟩
      · exact absurd g1 h1
    · rcases g with ⟨g1, rfl, rfl, rfl⟩ | ⟨g1, rfl, rfl, rfl⟩
      · exact absurd h1 g1
      · exact ⟨rfl, rfl, rfl⟩

/-- A graph that is read, and not too long, whatever else is laid where graphs lie. -/
def Gq (w : World) (vo vs vh vr vq : Value) (G : Im.Gr) : Prop := ∀ (w2 : World) (F : List Nat), Kg.Touch F w w2 → (∀ k, k ∈ F → ∀ cs t', w.heap[k]? = some (.cells cs t' (0, 0)) → t' = 28) → ∃ os ts, Grd w2.heap.size w2 vo vs vh vr vq os ts G ∧ os.length ≤ 1000000000000 ∧ Sln ts ∧ G.hs.length ≤ 1000000000000 ∧ G.rg.length ≤ 1000000000000 ∧ G.qu.length ≤ 1000000000000

theorem Gq.touch {w w' : World} {vo vs vh vr vq : Value} {G : Im.Gr} {F : List Nat} (h : Gq w vo vs vh vr vq G) (t : Kg.Touch F w w') (hF : ∀ k, k ∈ F → ∀ cs t', w.heap[k]? = some (.cells cs t' (0, 0)) → t' = 28) : Gq w' vo vs vh vr vq G := fun w2 F2 t2 hF2 =>
  h w2 (F ++ F2) ((t.mono (fun k hk => .inl (by simp [hk]))).trans (t2.mono (fun k hk => .inl (by simp [hk])))) (fun k hk cs t' hc => by
    by_cases h9 : k ∈ F
    · exact hF k h9 cs t' hc
    · rcases List.mem_append.1 hk with h8 | h8
      · exact absurd h8 h9
      · exact hF2 k h8 cs t' ((t.block k (Kg.heap_lt hc) h9).trans hc))

theorem Gq.below {w w' : World} {vo vs vh vr vq : Value} {G : Im.Gr} (h : Gq w vo vs vh vr vq G) (b : Below w.heap.size w w') : Gq w' vo vs vh vr vq G := h.touch (Kg.Touch.of_below b []) (fun k hk => by cases hk)

theorem sln_le {os : List OL} {ts : List (Value × List (Value × List Int))} {g : Im.Gr} (h : gsz os ts g ≤ 1000000000000) : Sln ts := by
  have ht : ∀ x, x ∈ ts → x.2.length + fsum (x.2.map (·.2)) ≤ tsum ts := sum_mem (fun x : Value × List (Value × List Int) => x.2.length + fsum (x.2.map (·.2))) ts
  unfold gsz szs at h
  exact ⟨by omega, fun x hx => by have := ht x hx; omega⟩

theorem gq_nil (w : World) : Gq w (.slice none 0 0) (.slice none 0 0) (.slice none 0 0) (.slice none 0 0) (.slice none 0 0) gz := fun w2 F _ _ =>
  ⟨[], [], ⟨⟨none, 0, rfl, fun i x hx => (by simp at hx)⟩, ⟨none, 0, rfl, fun i x hx => (by simp at hx)⟩, lrd_nil _ _ _, lrd_nil _ _ _, lrd_nil _ _ _, rfl, rfl, by decide, fun o ho => (by cases ho)⟩, by decide, ⟨by decide, fun x hx => (by cases hx)⟩, by decide, by decide, by decide⟩

theorem Rres.any {bs : List Nat} {e : Ending} {w' : World} (h : Rres bs e w') (hb : bs.length ≤ 1000000000) : ∃ (G : Im.Gr) (pl k : Nat), Rgt bs G pl k ∧ pl ≤ bs.length ∧ k ≤ 164 ∧ ∃ (a0 a1 a2 a3 a4 : Option Addr) (l0 l1 l2 l3 l4 c0 c1 c2 c3 c4 : Nat), e = .returned (.tuple #[.agg (gcs (.slice a0 l0 c0) (.slice a1 l1 c1) (.slice a2 l2 c2) (.slice a3 l3 c3) (.slice a4 l4 c4) (G.next : Int)), .int .i64 (pl : Int), .int .i64 (k : Int)]) ∧ Gq w' (.slice a0 l0 c0) (.slice a1 l1 c1) (.slice a2 l2 c2) (.slice a3 l3 c3) (.slice a4 l4 c4) G := by
  unfold Rres at h
  cases hd : Im.dec bs with
  | error pk =>
    obtain ⟨pl, k⟩ := pk
    rw [hd] at h
    have hk := Im.dec_err hd
    simp only at hk h
    exact ⟨gz, pl, k, by unfold Rgt; rw [hd]; exact ⟨rfl, rfl, rfl⟩, hk.1, by omega, none, none, none, none, none, 0, 0, 0, 0, 0, 0, 0, 0, 0, 0, h, gq_nil w'⟩
  | ok n =>
    rw [hd] at h
    rcases h with ⟨hm, h⟩ | ⟨hm, vo, vs, vh, vr, vq, h, hk⟩
    · exact ⟨gz, 0, 164, by unfold Rgt; rw [hd]; exact .inl ⟨hm, rfl, rfl, rfl⟩, Nat.zero_le _, Nat.le_refl _, none, none, none, none, none, 0, 0, 0, 0, 0, 0, 0, 0, 0, 0, h, gq_nil w'⟩
    · obtain ⟨os, ts, hg, -⟩ := hk w' [] (Kg.Touch.refl _ _) (fun k hk => by cases hk)
      obtain ⟨a0, c0, e0, -⟩ := hg.ob
      obtain ⟨a1, c1, e1, -⟩ := hg.sl
      obtain ⟨a2, c2, e2, -, -⟩ := hg.hs
      obtain ⟨a3, c3, e3, -, -⟩ := hg.rg
      obtain ⟨a4, c4, e4, -, -⟩ := hg.qu
      subst e0 e1 e2 e3 e4
      refine ⟨Im.wNG n, 0, 0, by unfold Rgt; rw [hd]; exact .inr ⟨hm, rfl, rfl, rfl⟩, Nat.zero_le _, by omega, a0, a1, a2, a3, a4, _, _, _, _, _, c0, c1, c2, c3, c4, h, fun w2 F tF hF => ?_⟩
      obtain ⟨os2, ts2, g2, hz⟩ := hk w2 F tF hF
      have hs : os2.length ≤ 1000000000000 ∧ (Im.wNG n).hs.length ≤ 1000000000000 ∧ (Im.wNG n).rg.length ≤ 1000000000000 ∧ (Im.wNG n).qu.length ≤ 1000000000000 := by unfold gsz szs at hz; omega
      exact ⟨os2, ts2, g2, hs.1, sln_le (os := os2) (g := Im.wNG n) (by omega), hs.2.1, hs.2.2.1, hs.2.2.2⟩

theorem same16_gq {w : World} {vo vs vh vr vq vo' vs' vh' vr' vq' : Value} {G : Im.Gr} (h : Gq w vo vs vh vr vq G) (g : Gq w vo' vs' vh' vr' vq' G) :
    Calls Tryz.prog 8 #[.agg (gcs vo vs vh vr vq G.next), .agg (gcs vo' vs' vh' vr' vq' G.next)] w fun e w' => e = .returned (.bool true) ∧ Below w.heap.size w w' := by
  obtain ⟨os, ts, h1, h2, h3, h4, h5, h6⟩ := h w [] (Kg.Touch.refl _ _) (fun k hk => by cases hk)
  obtain ⟨os', ts', g1, -⟩ := g w [] (Kg.Touch.refl _ _) (fun k hk => by cases hk)
  exact same16_eq w.heap.size w (Nat.le_refl _) _ _ _ _ _ _ _ _ _ _ os os' ts ts' G h1 g1 h2 h3 h4 h5 h6

/-- Bytes as a text, also if there are none. -/
theorem Lrd.convs {n0 : Nat} {w : World} {v : Value} {bs : List Nat} (h : Lrd n0 w v .u8 (bs.map Int.ofNat)) : (convert 22 9 v).run Tryz.prog w = .ok (.string (strOfNums (bs.map Int.ofNat))) w := by
  by_cases he : bs = []
  · subst he
    obtain ⟨a, cap, rfl, hc, h2⟩ := h.byte
    cases a with
    | none => exact run_convert_bytes_nil w _ _ Tryz.underlying22 Tryz.underlying5 _ _ _ Tryz.underlying9
    | some A =>
      rw [run_convert_bytes_string w 22 9 5 _ _ _ Tryz.underlying22 Tryz.underlying5 Tryz.underlying9]
      simp [Conv.bytesToString, loadCells]
      rfl
  · exact h.conv he

theorem samel_all {n1 n2 : Nat} {w : World} {v u : Value} {bs : List Nat} (h1 : Lrd n1 w v .u8 (bs.map Int.ofNat)) (h2 : Lrd n2 w u .u8 (bs.map Int.ofNat)) :
    Calls Tryz.prog 9 #[v, u] w fun e w' => e = .returned (.bool true) ∧ w' = w := by
  have f1 := h1.convs
  have f2 := h2.convs
  obtain ⟨a1, c1, rfl, -, -⟩ := h1.byte
  obtain ⟨a2, c2, rfl, -, -⟩ := h2.byte
  clear h1 h2
  generalize strOfNums (bs.map Int.ofNat) = s at *
  go_enter Tryz.func9, Tryz.ntmps9
  go_wp2
  go_ret
  simp

theorem lrd_newsb {n0 m c : Nat} {w : World} {ax : Option Addr} {bs : List Nat} (h : Lrd n0 w (.slice ax m c) .u8 (bs.map Int.ofNat)) : m = (bts bs).length ∧ ∀ (j : Nat) u, (bts bs)[j]? = some u → ∃ ad, ax = some ad ∧ w.cell? (ad.add j) = some u := by
  obtain ⟨a, cap, e, hc, h2⟩ := h.byte
  cases e
  refine ⟨(bts_len bs).symm, fun j u hj => ?_⟩
  unfold bts at hj
  rw [List.getElem?_map] at hj
  obtain ⟨x, hx, rfl⟩ := Option.map_eq_some_iff.1 hj
  obtain ⟨q, off, rfl, -, h3⟩ := h2 j x hx
  exact ⟨_, rfl, by rw [Addr.add_lit]; exact h3⟩

theorem own_new (w : World) : (w.alloc (.cells #[] 5)).ownsRow w.heap.size 5 1 (.slice (some ⟨w.heap.size, 0, none⟩) 0 0) 0 [] :=
  ⟨rfl, .inr ⟨w.heap.size, 0, #[], rfl, Nat.le_refl _, heap_alloc_new w (.cells #[] 5 (0, 0)), Nat.le_refl _, Nat.zero_le _, rfl, rfl⟩⟩

theorem bts_one (l : List Nat) : ∀ u ∈ bts l, u.oneCell' = true := fun u hu => by
  unfold bts at hu
  obtain ⟨x, -, rfl⟩ := List.mem_map.1 hu
  rfl

theorem xor8f : ∀ r : Fin 256, bits BinOp.xor IntKind.u8 ((r.val : Nat) : Int) 1 = ((r.val ^^^ 1 : Nat) : Int) ∧ r.val ^^^ 1 < 256 := by decide +kernel
theorem xor8 {x : Nat} (h : x < 256) : bits BinOp.xor IntKind.u8 (x : Int) 1 = ((x ^^^ 1 : Nat) : Int) ∧ x ^^^ 1 < 256 := xor8f ⟨x, h⟩

theorem set6 {w : World} {A : Nat} {x0 x1 x2 x3 x4 x5 a b c d e f : Value} (h : w.heap[A]? = some (.cells #[x0, x1, x2, x3, x4, x5] 28 (0, 0))) : ((((((w.setCell ⟨A, 0, none⟩ a).setCell ⟨A, 1, none⟩ b).setCell ⟨A, 2, none⟩ c).setCell ⟨A, 3, none⟩ d).setCell ⟨A, 4, none⟩ e).setCell ⟨A, 5, none⟩ f).heap[A]? = some (.cells #[a, b, c, d, e, f] 28 (0, 0)) := by
  have s0 := Kg.heap_set h 0 a
  have s1 := Kg.heap_set s0 1 b
  have s2 := Kg.heap_set s1 2 c
  have s3 := Kg.heap_set s2 3 d
  have s4 := Kg.heap_set s3 4 e
  exact Kg.heap_set s4 5 f

/-- What lies in memory: two graphs' places A and B, the room R with its list of bytes Y, of which there are n, now cs. -/
structure Lk (w wr : World) (A B R Y Z n c3 cz : Nat) (cs : List Nat) : Prop where
  b : Below w.heap.size w wr
  a1 : ∃ x0 x1 x2 x3 x4 x5, wr.heap[A]? = some (.cells #[x0, x1, x2, x3, x4, x5] 28 (0, 0))
  a2 : ∃ x0 x1 x2 x3 x4 x5, wr.heap[B]? = some (.cells #[x0, x1, x2, x3, x4, x5] 28 (0, 0))
  r : wr.heap[R]? = some (.cells #[.slice (some ⟨Z, 0, none⟩) 1 cz, .slice none 0 0, .slice none 0 0, .slice none 0 0, .slice none 0 0, .slice none 0 0, .slice none 0 0, .slice none 0 0] 40 (0, 0))
  z : wr.ownsRow w.heap.size 22 1 (.slice (some ⟨Z, 0, none⟩) 1 cz) 1 [.slice (some ⟨Y, 0, none⟩) (n + 600) c3]
  y : wr.ownsRow w.heap.size 5 1 (.slice (some ⟨Y, 0, none⟩) (n + 600) c3) (n + 600) ((cs.map Int.ofNat ++ mkb 600).map (Value.int .u8))
  l : cs.length = n
  lo : w.heap.size ≤ A ∧ w.heap.size ≤ B ∧ w.heap.size ≤ Y ∧ A ≠ B

theorem Lk.yne {w wr : World} {A B R Y Z n c3 cz : Nat} {cs : List Nat} (h : Lk w wr A B R Y Z n c3 cz cs) : A ≠ Y ∧ B ≠ Y ∧ R ≠ Y ∧ A ≠ Z ∧ B ≠ Z ∧ R ≠ Z ∧ A ≠ R ∧ B ≠ R ∧ Z ≠ Y := by
  obtain ⟨_, _, _, _, _, _, ha⟩ := h.a1
  obtain ⟨_, _, _, _, _, _, hb⟩ := h.a2
  have hr := h.r
  refine ⟨fun e => Kg.row_ne ha h.y (by decide) (by rw [e]; rfl), fun e => Kg.row_ne hb h.y (by decide) (by rw [e]; rfl), fun e => Kg.row_ne hr h.y (by decide) (by rw [e]; rfl), fun e => Kg.row_ne ha h.z (by decide) (by rw [e]; rfl), fun e => Kg.row_ne hb h.z (by decide) (by rw [e]; rfl), fun e => Kg.row_ne hr h.z (by decide) (by rw [e]; rfl), fun e => ?_, fun e => ?_, fun e => ?_⟩
  · rw [e, hr] at ha
    simp at ha
  · rw [e, hr] at hb
    simp at hb
  · rcases h.z.2 with ⟨h9, _⟩ | ⟨g, cap, cur, e2, _, hg, _⟩
    · cases h9
    · cases e2
      exact Kg.row_ne hg h.y (by decide) (by rw [e]; rfl)

theorem Lk.below {w wr w' : World} {A B R Y Z n c3 cz : Nat} {cs : List Nat} (h : Lk w wr A B R Y Z n c3 cz cs) (b : Below wr.heap.size wr w') : Lk w w' A B R Y Z n c3 cz cs := by
  have t := Kg.Touch.of_below b []
  obtain ⟨x0, x1, x2, x3, x4, x5, ha⟩ := h.a1
  obtain ⟨y0, y1, y2, y3, y4, y5, hb⟩ := h.a2
  exact ⟨h.b.trans (b.mono h.b.size), ⟨x0, x1, x2, x3, x4, x5, (t.block A (Kg.heap_lt ha) (by simp)).trans ha⟩, ⟨y0, y1, y2, y3, y4, y5, (t.block B (Kg.heap_lt hb) (by simp)).trans hb⟩, (t.block R (Kg.heap_lt h.r) (by simp)).trans h.r, Kg.row_keep2 h.z t (fun k _ => by simp), Kg.row_keep2 h.y t (fun k _ => by simp), h.l, h.lo⟩

/-- One of the bytes is another now. -/
theorem Lk.set {w wr : World} {A B R Y Z n c3 cz : Nat} {cs : List Nat} (h : Lk w wr A B R Y Z n c3 cz cs) (m z : Nat) (hm : m < n) : Lk w (wr.setCell ⟨Y, m, none⟩ (.int .u8 (z : Int))) A B R Y Z n c3 cz (cs.set m z) := by
  have t : Kg.Touch [Y] wr (wr.setCell ⟨Y, m, none⟩ (.int .u8 (z : Int))) := Kg.Touch.setCell _ _ _ (by simp)
  obtain ⟨n1, n2, n3, n4, n5, n6, n7, n8, n9⟩ := h.yne
  obtain ⟨x0, x1, x2, x3, x4, x5, ha⟩ := h.a1
  obtain ⟨y0, y1, y2, y3, y4, y5, hb⟩ := h.a2
  refine ⟨Below.setCell h.b h.lo.2.2.1 _, ⟨x0, x1, x2, x3, x4, x5, (t.block A (Kg.heap_lt ha) (by simp [n1])).trans ha⟩, ⟨y0, y1, y2, y3, y4, y5, (t.block B (Kg.heap_lt hb) (by simp [n2])).trans hb⟩, (t.block R (Kg.heap_lt h.r) (by simp [n3])).trans h.r, Kg.row_keep2 h.z t (fun k hk => ?_), ?_, by simp [h.l], h.lo⟩
  · simp only [Value.ownBlock, Option.some.injEq] at hk
    subst hk
    simp [n9]
  · have h9 := Kg.row_set h.y m (.int .u8 (z : Int))
    have e9 : ((cs.map Int.ofNat ++ mkb 600).map (Value.int .u8)).set m (.int .u8 (z : Int)) = ((cs.set m z).map Int.ofNat ++ mkb 600).map (Value.int .u8) := by
      rw [List.map_append, List.map_append, List.set_append_left _ _ (by simp [h.l]; exact hm), List.map_set, List.map_set]
      rfl
    rw [e9] at h9
    exact h9

/-- A graph's place has another one now. -/
theorem Lk.putA {w wr w' : World} {A B R Y Z n c3 cz : Nat} {cs : List Nat} {x0 x1 x2 x3 x4 x5 : Value} (h : Lk w wr A B R Y Z n c3 cz cs) (t : Kg.Touch [A] wr w') (ha : w'.heap[A]? = some (.cells #[x0, x1, x2, x3, x4, x5] 28 (0, 0))) : Lk w w' A B R Y Z n c3 cz cs := by
  obtain ⟨n1, n2, n3, n4, n5, n6, n7, n8, n9⟩ := h.yne
  obtain ⟨y0, y1, y2, y3, y4, y5, hb⟩ := h.a2
  refine ⟨h.b.trans (t.below h.b.size (fun k hk => by simp at hk; have := h.lo; omega)), ⟨_, _, _, _, _, _, ha⟩, ⟨y0, y1, y2, y3, y4, y5, (t.block B (Kg.heap_lt hb) (by simp; exact fun e => h.lo.2.2.2 e.symm)).trans hb⟩, (t.block R (Kg.heap_lt h.r) (by simp; exact fun e => n7 e.symm)).trans h.r, Kg.row_keep2 h.z t (fun k hk => ?_), Kg.row_keep2 h.y t (fun k hk => ?_), h.l, h.lo⟩
  · simp only [Value.ownBlock, Option.some.injEq] at hk
    subst hk
    simp
    exact fun e => n4 e.symm
  · simp only [Value.ownBlock, Option.some.injEq] at hk
    subst hk
    simp
    exact fun e => n1 e.symm

theorem Lk.swap {w wr : World} {A B R Y Z n c3 cz : Nat} {cs : List Nat} (h : Lk w wr A B R Y Z n c3 cz cs) : Lk w wr B A R Y Z n c3 cz cs := ⟨h.b, h.a2, h.a1, h.r, h.z, h.y, h.l, h.lo.2.1, h.lo.1, h.lo.2.2.1, fun e => h.lo.2.2.2 e.symm⟩

theorem y_cell {wr : World} {B0 Y n c3 : Nat} {cs : List Nat} (h : wr.ownsRow B0 5 1 (.slice (some ⟨Y, 0, none⟩) (n + 600) c3) (n + 600) ((cs.map Int.ofNat ++ mkb 600).map (Value.int .u8))) {i x : Nat} (hi : cs[i]? = some x) : wr.cell? ⟨Y, i, none⟩ = some (.int .u8 (x : Int)) := by
  have hl := (List.getElem?_eq_some_iff.1 hi).1
  have h9 := h.cells (g := Y) rfl i (.int .u8 (x : Int)) (by
    rw [List.getElem?_map, List.getElem?_append_left (by simpa using hl), List.getElem?_map, hi]
    rfl)
  rw [Addr.add_lit, Nat.zero_add] at h9
  exact h9

theorem y_lent {wr : World} {B0 Y n c3 : Nat} {cs : List Nat} (h : wr.ownsRow B0 5 1 (.slice (some ⟨Y, 0, none⟩) (n + 600) c3) (n + 600) ((cs.map Int.ofNat ++ mkb 600).map (Value.int .u8))) (hl : cs.length = n) : Lrd wr.heap.size wr (.slice (some ⟨Y, 0, none⟩) n (n + 600)) .u8 (cs.map Int.ofNat) := by
  refine ⟨some ⟨Y, 0, none⟩, n + 600, by simp [hl], by simp [hl], fun i z hz => ⟨Y, 0, rfl, (h.lt Y rfl).2, ?_⟩⟩
  rw [List.getElem?_map] at hz
  obtain ⟨x, hx, rfl⟩ := Option.map_eq_some_iff.1 hz
  rw [Nat.zero_add]
  exact y_cell h hx

theorem Lk.lent {w wr : World} {A B R Y Z n c3 cz : Nat} {cs : List Nat} (h : Lk w wr A B R Y Z n c3 cz cs) : Lrd wr.heap.size wr (.slice (some ⟨Y, 0, none⟩) n (n + 600)) .u8 (cs.map Int.ofNat) := y_lent h.y h.l

theorem gcell {w : World} {A : Nat} {vo vs vh vr vq x : Value} (h : w.heap[A]? = some (.cells #[vo, vs, vh, vr, vq, x] 28 (0, 0))) : w.cell? ⟨A, 0, none⟩ = some vo ∧ w.cell? ⟨A, 1, none⟩ = some vs ∧ w.cell? ⟨A, 2, none⟩ = some vh ∧ w.cell? ⟨A, 3, none⟩ = some vr ∧ w.cell? ⟨A, 4, none⟩ = some vq ∧ w.cell? ⟨A, 5, none⟩ = some x :=
  ⟨Kg.heap_cell h 0, Kg.heap_cell h 1, Kg.heap_cell h 2, Kg.heap_cell h 3, Kg.heap_cell h 4, Kg.heap_cell h 5⟩

theorem Lk.hold {w wr : World} {A B R Y Z n c3 cz : Nat} {cs : List Nat} (h : Lk w wr A B R Y Z n c3 cz cs) (hn : n ≤ 1073741824) : Calls Tryz.prog 10 #[.pointer (some ⟨R, 0, none⟩)] wr fun e w' => e = .returned (.bool true) ∧ Below wr.heap.size wr w' := by
  refine holdBytes_one (Y := Y) (Z := Z) (n := n) (c3 := c3) (cz := cz) ((Kg.heap_cell h.r 0).trans rfl) (fun i h1 h2 => ?_) ?_ (fun j hj => ?_) hn
  · rw [Kg.heap_cell h.r i]
    obtain rfl | rfl | rfl | rfl | rfl | rfl | rfl : i = 1 ∨ i = 2 ∨ i = 3 ∨ i = 4 ∨ i = 5 ∨ i = 6 ∨ i = 7 := by omega
    all_goals rfl
  · have h9 := h.z.cells (g := Z) rfl 0 _ rfl
    rw [Addr.add_lit, Nat.zero_add] at h9
    exact h9
  · have h9 := h.y.cells (g := Y) rfl (n + j) (.int .u8 (mrb j)) (by
      rw [List.getElem?_map, List.getElem?_append_right (by simp [h.l]), List.length_map, h.l, Nat.add_sub_cancel_left, mkb_at 600 j hj]
      rfl)
    rw [Addr.add_lit, Nat.zero_add] at h9
    exact h9

end Go.Proofs.YtblbiikfipcbcaaGreatDoor

/-
  Images: ImageReads walked.
-/
set_option linter.unusedVariables false
set_option maxRecDepth 20000
namespace Go.Proofs.YtblbiikfipcbcaaGreatDoor
open Go.RowKit Go.Shelf

/-- The document's Read. -/
def TRd : Prop := ∀ (w : World) (v : Value) (bs : List Nat), Lrd w.heap.size w v .u8 (bs.map Int.ofNat) → bs.length ≤ 1000000000000 → (∀ x, x ∈ bs → x < 256) → Calls Tryz.prog 4 #[v] w fun e w' => Below w.heap.size w w' ∧ Rres bs e w'

set_option maxHeartbeats 8000000 in
theorem reads_any (hT : TRd) (w : World) (hL : Laid w) (v : Value) (bs : List Nat) (hl : Lrd w.heap.size w v .u8 (bs.map Int.ofNat)) (hby : ∀ x, x ∈ bs → x < 256) (hn : bs.length ≤ 1000000000000000) :
    Calls Tryz.prog 3 #[v] w fun e w' => e = .returned (.bool true) ∧ Below w.heap.size w w' := by
  have HT : Hid TRd := hT
  have HL : Hid (∀ w', Below w.heap.size w w' → Laid w') := fun w' b' => hL.keep b'
  have HV : Hid (∀ w', Below w.heap.size w w' → Lrd w.heap.size w' v .u8 (bs.map Int.ofNat)) := fun w' b' => hl.below b'
  have HBY : Hid (∀ x, x ∈ bs → x < 256) := hby
  obtain ⟨av, cv, rfl, hcv, -⟩ := hl.byte
  clear hL hl hby hT
  go_enter Tryz.func3, Tryz.ntmps3
  by_cases hlen : (bs.length : Int) > 131072
  · go_wp2
    go_ret
    exact ⟨rfl, Below.refl _ _⟩
  have hC := HT.out w _ bs (HV.out w (Below.refl _ _)) (by omega) HBY.out
  go_wp2_with fail
  refine hC.mono ?_
  rintro e w1 ⟨b1, h1⟩
  obtain ⟨G, pl, k, hg, hpl, hk, a0, a1, a2, a3, a4, l0, l1, l2, l3, l4, c0, c1, c2, c3, c4, rfl, q1⟩ := h1.any (by omega)
  have B1 : Hid (Below w.heap.size w w1) := b1
  have RG : Hid (Rgt bs G pl k) := hg
  have Q1 : Hid (Gq w1 (.slice a0 l0 c0) (.slice a1 l1 c1) (.slice a2 l2 c2) (.slice a3 l3 c3) (.slice a4 l4 c4) G) := q1
  clear hC b1 h1 hg q1
  go_wp2_with fail
  have m2 := Below.alloc (Below.refl w1.heap.size w1) (Nat.le_refl _) (.cells (gcs (.slice a0 l0 c0) (.slice a1 l1 c1) (.slice a2 l2 c2) (.slice a3 l3 c3) (.slice a4 l4 c4) (G.next : Int)) 28)
  have x2 := heap_alloc_new w1 (.cells (gcs (.slice a0 l0 c0) (.slice a1 l1 c1) (.slice a2 l2 c2) (.slice a3 l3 c3) (.slice a4 l4 c4) (G.next : Int)) 28 (0, 0))
  have s2 : (w1.alloc (.cells (gcs (.slice a0 l0 c0) (.slice a1 l1 c1) (.slice a2 l2 c2) (.slice a3 l3 c3) (.slice a4 l4 c4) (G.next : Int)) 28)).heap.size = w1.heap.size + 1 := by simp
  have m3 := Below.alloc m2 m2.size (.cells #[.slice none 0 0, .slice none 0 0, .slice none 0 0, .slice none 0 0, .slice none 0 0, .slice none 0 0, .slice none 0 0, .slice none 0 0] 40)
  have x3 := heap_alloc_new (w1.alloc (.cells (gcs (.slice a0 l0 c0) (.slice a1 l1 c1) (.slice a2 l2 c2) (.slice a3 l3 c3) (.slice a4 l4 c4) (G.next : Int)) 28)) (.cells #[.slice none 0 0, .slice none 0 0, .slice none 0 0, .slice none 0 0, .slice none 0 0, .slice none 0 0, .slice none 0 0, .slice none 0 0] 40 (0, 0))
  have y3 := (Below.heap_alloc (w1.alloc (.cells (gcs (.slice a0 l0 c0) (.slice a1 l1 c1) (.slice a2 l2 c2) (.slice a3 l3 c3) (.slice a4 l4 c4) (G.next : Int)) 28)) (.cells #[.slice none 0 0, .slice none 0 0, .slice none 0 0, .slice none 0 0, .slice none 0 0, .slice none 0 0, .slice none 0 0, .slice none 0 0] 40 (0, 0)) _ (Kg.heap_lt x2)).trans x2
  have s3 : ((w1.alloc (.cells (gcs (.slice a0 l0 c0) (.slice a1 l1 c1) (.slice a2 l2 c2) (.slice a3 l3 c3) (.slice a4 l4 c4) (G.next : Int)) 28)).alloc (.cells #[.slice none 0 0, .slice none 0 0, .slice none 0 0, .slice none 0 0, .slice none 0 0, .slice none 0 0, .slice none 0 0, .slice none 0 0] 40)).heap.size = w1.heap.size + 2 := by simp
  rw [s2] at x3
  change Calls _ _ _ ((w1.alloc (.cells (gcs (.slice a0 l0 c0) (.slice a1 l1 c1) (.slice a2 l2 c2) (.slice a3 l3 c3) (.slice a4 l4 c4) (G.next : Int)) 28)).alloc (.cells #[.slice none 0 0, .slice none 0 0, .slice none 0 0, .slice none 0 0, .slice none 0 0, .slice none 0 0, .slice none 0 0, .slice none 0 0] 40)) _
  generalize (w1.alloc (.cells (gcs (.slice a0 l0 c0) (.slice a1 l1 c1) (.slice a2 l2 c2) (.slice a3 l3 c3) (.slice a4 l4 c4) (G.next : Int)) 28)).alloc (.cells #[.slice none 0 0, .slice none 0 0, .slice none 0 0, .slice none 0 0, .slice none 0 0, .slice none 0 0, .slice none 0 0, .slice none 0 0] 40) = w2 at *
  have B2 : Hid (Below w.heap.size w w2) := B1.out.trans (m3.mono B1.out.size)
  have M3 : Hid (∀ w', Below w1.heap.size w2 w' → Gq w' (.slice a0 l0 c0) (.slice a1 l1 c1) (.slice a2 l2 c2) (.slice a3 l3 c3) (.slice a4 l4 c4) G) := fun w' b' => Q1.out.below (m3.trans b')
  have hA0 : w.heap.size ≤ w1.heap.size := B1.out.size
  clear m2 m3 x2 s2 B1 Q1
  generalize w1.heap.size = A at *
  have hC := roomBytes_one x3 rfl w.heap.size B2.out.size _ _ (HV.out w2 B2.out) (by rw [List.length_map]; omega)
  refine hC.mono ?_
  rintro e w3 ⟨Y, Z, cy, cz, rfl, hY, hR, hZ, t3⟩
  rw [List.length_map] at hY hZ ⊢
  have hyl := hY.lt Y rfl
  have hzl := hZ.lt Z rfl
  have B3 : Hid (Below w.heap.size w w3) := B2.out.trans (t3.below B2.out.size (fun k hk => by simp at hk; omega))
  have X3 : Hid (w3.heap[A]? = some (.cells (gcs (.slice a0 l0 c0) (.slice a1 l1 c1) (.slice a2 l2 c2) (.slice a3 l3 c3) (.slice a4 l4 c4) (G.next : Int)) 28 (0, 0)) ∧ w3.heap[A + 1]? = some (.cells #[.slice (some ⟨Z, 0, none⟩) 1 cz, .slice none 0 0, .slice none 0 0, .slice none 0 0, .slice none 0 0, .slice none 0 0, .slice none 0 0, .slice none 0 0] 40 (0, 0)) ∧ w3.ownsRow w.heap.size 22 1 (.slice (some ⟨Z, 0, none⟩) 1 cz) 1 [.slice (some ⟨Y, 0, none⟩) (bs.length + 600) cy] ∧ w3.ownsRow w.heap.size 5 1 (.slice (some ⟨Y, 0, none⟩) (bs.length + 600) cy) (bs.length + 600) ((bs.map Int.ofNat ++ mkb 600).map (Value.int .u8))) := ⟨(t3.block A (by omega) (by simp)).trans y3, hR, Kg.row_base hZ B2.out.size, Kg.row_base hY B2.out.size⟩
  have HY : Hid (w.heap.size ≤ Y) := by show _ ≤ _; omega
  have Q3 : Hid (Gq w3 (.slice a0 l0 c0) (.slice a1 l1 c1) (.slice a2 l2 c2) (.slice a3 l3 c3) (.slice a4 l4 c4) G) := M3.out w3 ((Kg.Touch.below t3 (Nat.le_of_lt (by omega : A < w2.heap.size)) (fun k hk => by simp at hk; omega)))
  clear hC hY hR hZ t3 hyl hzl x3 y3 s3 B2 M3
  go_wp2_with fail
  have hC := iRead_any (y_lent X3.out.2.2.2 rfl) (Nat.le_refl _) (by omega) HBY.out (HL.out _ B3.out)
  refine hC.mono ?_
  rintro e w4 ⟨b4, h4⟩
  obtain ⟨G', pl', k', hg', hpl', hk', d0, d1, d2, d3, d4, m0, m1, m2, m3, m4, e0, e1, e2, e3, e4, rfl, q4⟩ := h4.any (by omega)
  obtain ⟨rfl, rfl, rfl⟩ := RG.out.uniq hg'
  clear hC h4 hg'
  go_wp2_with fail
  have b5 := Below.alloc (Below.refl w4.heap.size w4) (Nat.le_refl _) (.cells (gcs (.slice d0 m0 e0) (.slice d1 m1 e1) (.slice d2 m2 e2) (.slice d3 m3 e3) (.slice d4 m4 e4) (G.next : Int)) 28)
  have x5 := heap_alloc_new w4 (.cells (gcs (.slice d0 m0 e0) (.slice d1 m1 e1) (.slice d2 m2 e2) (.slice d3 m3 e3) (.slice d4 m4 e4) (G.next : Int)) 28 (0, 0))
  change Calls _ _ _ (w4.alloc (.cells (gcs (.slice d0 m0 e0) (.slice d1 m1 e1) (.slice d2 m2 e2) (.slice d3 m3 e3) (.slice d4 m4 e4) (G.next : Int)) 28)) _
  generalize w4.alloc (.cells (gcs (.slice d0 m0 e0) (.slice d1 m1 e1) (.slice d2 m2 e2) (.slice d3 m3 e3) (.slice d4 m4 e4) (G.next : Int)) 28) = w5 at *
  have t5 := Kg.Touch.of_below (b4.trans (b5.mono b4.size)) []
  have b35 := b4.trans (b5.mono b4.size)
  have hAB : A < w4.heap.size := Nat.lt_of_lt_of_le (Kg.heap_lt X3.out.1) b4.size
  have X5 : Hid (w5.heap[A]? = some (.cells (gcs (.slice a0 l0 c0) (.slice a1 l1 c1) (.slice a2 l2 c2) (.slice a3 l3 c3) (.slice a4 l4 c4) (G.next : Int)) 28 (0, 0)) ∧ w5.heap[w4.heap.size]? = some (.cells (gcs (.slice d0 m0 e0) (.slice d1 m1 e1) (.slice d2 m2 e2) (.slice d3 m3 e3) (.slice d4 m4 e4) (G.next : Int)) 28 (0, 0))) := ⟨(t5.block A (Kg.heap_lt X3.out.1) (by simp)).trans X3.out.1, x5⟩
  have L5 : Hid (Lk w w5 A w4.heap.size (A + 1) Y Z bs.length cy cz bs) := ⟨B3.out.trans (b35.mono B3.out.size), ⟨_, _, _, _, _, _, X5.out.1⟩, ⟨_, _, _, _, _, _, X5.out.2⟩, (t5.block _ (Kg.heap_lt X3.out.2.1) (by simp)).trans X3.out.2.1, Kg.row_keep2 X3.out.2.2.1 t5 (fun k _ => by simp), Kg.row_keep2 X3.out.2.2.2 t5 (fun k _ => by simp), rfl, hA0, by omega, HY.out, by omega⟩
  have Q5 : Hid (Gq w5 (.slice a0 l0 c0) (.slice a1 l1 c1) (.slice a2 l2 c2) (.slice a3 l3 c3) (.slice a4 l4 c4) G ∧ Gq w5 (.slice d0 m0 e0) (.slice d1 m1 e1) (.slice d2 m2 e2) (.slice d3 m3 e3) (.slice d4 m4 e4) G) := ⟨Q3.out.below b35, q4.below b5⟩
  clear b4 b5 x5 t5 b35 q4 X3 Q3 B3 hpl' hk'
  generalize w4.heap.size = B at *
  refine (num16_any k w5).mono ?_
  rintro e wa ⟨rfl, rfl⟩
  obtain ⟨i0, i1, i2, i3, i4, i5⟩ := gcell X5.out.1
  obtain ⟨j0, j1, j2, j3, j4, j5⟩ := gcell X5.out.2
  go_wp2_with fail
  refine (same16_gq Q5.out.2 Q5.out.1).mono ?_
  rintro e w6 ⟨rfl, b6⟩
  have L6 : Hid (Lk w w6 A B (A + 1) Y Z bs.length cy cz bs) := L5.out.below b6
  clear i0 i1 i2 i3 i4 i5 j0 j1 j2 j3 j4 j5 X5 Q5 L5 b6
  go_wp2_with fail
  refine (samel_all L6.out.lent (HV.out w6 L6.out.b)).mono ?_
  rintro e wb ⟨rfl, rfl⟩
  go_wp2_with fail
  refine (L6.out.hold (by omega)).mono ?_
  rintro e w7 ⟨rfl, b7⟩
  have L7 : Hid (Lk w w7 A B (A + 1) Y Z bs.length cy cz bs) := L6.out.below b7
  clear L6 b7
  by_cases hz : (bs.length : Int) = 0
  · go_wp2
    go_ret
    exact ⟨rfl, L7.out.b⟩
  have hzb : ((bs.length : Int) == 0) = false := by simpa using hz
  go_wp2
  generalize hN : bs.length = N at *
  go_loopw [11] (fun v11 wr => ∃ (i : Nat) (cs : List Nat), v11 = .int .i64 (i : Int) ∧ i ≤ 2 ∧ Hid (Lk w wr A B (A + 1) Y Z N cy cz cs ∧ ∀ x, x ∈ cs → x < 256)) (fun v11 _ => 2 - (intOf v11).toNat)
  case atStart => exact ⟨0, bs, rfl, by omega, L7.out, HBY.out⟩
  case round =>
    obtain ⟨i, cs, rfl, hi, HLk⟩ := hrel
    clear L7 hpl hk
    by_cases hi2 : i < 2
    · have hiI : (i : Int) < 2 := by omega
      have hm : N / 2 < cs.length := by have := HLk.out.1.l; omega
      have hx : cs[N / 2]? = some (cs[N / 2]'hm) := List.getElem?_eq_getElem hm
      generalize cs[N / 2]'hm = x at hx
      have hxb : x < 256 := HLk.out.2 x (List.mem_of_getElem? hx)
      have cc := y_cell HLk.out.1.y hx
      have ff : wr.frozen? ⟨Y, N / 2, none⟩ = false := by
        rcases HLk.out.1.y.2 with ⟨h, _⟩ | ⟨g2, cap2, cur, e2, hbg, hg, _⟩
        · cases h
        · cases e2
          exact Kg.heap_frozen hg _
      go_upto_region 15 with fail
      rw [(xor8 hxb).1]
      have hx2 := (xor8 hxb).2
      generalize x ^^^ 1 = z at *
      have L8 : Hid (Lk w (wr.setCell ⟨Y, N / 2, none⟩ (.int .u8 (z : Int))) A B (A + 1) Y Z N cy cz (cs.set (N / 2) z) ∧ ∀ y, y ∈ cs.set (N / 2) z → y < 256) := ⟨HLk.out.1.set (N / 2) z (by omega), fun y hy => by
        rcases List.mem_or_eq_of_mem_set hy with h9 | h9
        · exact HLk.out.2 y h9
        · rw [h9]; exact hx2⟩
      clear HLk cc ff hm hx hxb hx2
      generalize cs.set (N / 2) z = ds at *
      generalize wr.setCell ⟨Y, N / 2, none⟩ (.int .u8 (z : Int)) = w8 at *
      obtain ⟨f0, hf0, hj0, hj1, hj2⟩ := info_parts infoU8
      have HI0 : Hid (Tryz.prog.info? 5 = some f0 ∧ f0.zero = some (.int .u8 0) ∧ f0.size = 1 ∧ f0.bytes = 1) := ⟨hf0, hj0, hj1, hj2⟩
      clear hf0 hj0 hj1 hj2
      have hNl : ds.length = N := L8.out.1.l
      have b9 := Below.alloc (Below.refl w8.heap.size w8) (Nat.le_refl _) (.cells #[] 5)
      have HN9 : Hid (N = (bts ds).length ∧ ∀ (j : Nat) u, (bts ds)[j]? = some u → ∃ ad, some (⟨Y, 0, none⟩ : Addr) = some ad ∧ (w8.alloc (.cells #[] 5)).cell? (ad.add j) = some u) := lrd_newsb ((L8.out.1.lent.below b9).mono b9.size)
      have HW9 : Hid ((w8.alloc (.cells #[] 5)).ownsRow w8.heap.size 5 1 (.slice (some ⟨w8.heap.size, 0, none⟩) 0 0) 0 []) := own_new w8
      have B9 : Hid (Below w8.heap.size w8 (w8.alloc (.cells #[] 5))) := b9
      clear b9
      have hNb : N ≤ 131072 := by omega
      go_wp2_with (at_builtin; refine Kg.wpList_append_row rfl _ _ 22 rfl w8.heap.size 5 f0 (.int .u8 0) 1 Tryz.underlying22 HI0.out.1 HI0.out.2.1 HI0.out.2.2.1 HI0.out.2.2.2 rfl _ 0 [] rfl HW9.out (some ⟨Y, 0, none⟩) N (N + 600) (bts ds) HN9.out.1 rfl HN9.out.2 (bts_one ds) (by simp only [maxLen]; omega) (by omega) B9.out.size ?_; intro v9 w9 r9 g9 _ _ _)
      have g9 : (w8.alloc (.cells #[] 5)).grownBy w9 (some w8.heap.size) := g9
      rw [Nat.zero_add, List.nil_append] at r9
      have b9 : Below w8.heap.size w8 w9 := B9.out.trans ((Kg.Touch.grown (F := [w8.heap.size]) g9 (fun k hk => by cases hk; simp)).below B9.out.size (fun k hk => by simp at hk; omega))
      have L9 : Hid (Lk w w9 A B (A + 1) Y Z N cy cz ds) := L8.out.1.below b9
      have HD : Hid (∀ y, y ∈ ds → y < 256) := L8.out.2
      have hC := HT.out w9 v9 ds (Lrd.of_bts (bs := ds) (by rw [hNl]; exact Kg.row_base r9 (Nat.zero_le _))) (by omega) HD.out
      clear r9 g9 b9 L8 B9 HW9 HN9
      refine hC.mono ?_
      rintro e wA ⟨bA, hA⟩
      obtain ⟨G2, p2, k2, hg2, -, -, s0, s1, s2, s3, s4, r0, r1, r2, r3, r4, t0, t1, t2, t3, t4, rfl, q2⟩ := hA.any (by omega)
      have LA : Hid (Lk w wA A B (A + 1) Y Z N cy cz ds) := L9.out.below bA
      obtain ⟨x0, x1, x2, x3, x4, x5, xA⟩ := LA.out.a1
      have RG2 : Hid (Rgt ds G2 p2 k2) := hg2
      have QA : Hid (Gq wA (.slice s0 r0 t0) (.slice s1 r1 t1) (.slice s2 r2 t2) (.slice s3 r3 t3) (.slice s4 r4 t4) G2) := q2
      obtain ⟨i0, i1, i2, i3, i4, i5⟩ := gcell xA
      have f0' := Kg.heap_frozen xA 0
      have f1' := Kg.heap_frozen xA 1
      have f2' := Kg.heap_frozen xA 2
      have f3' := Kg.heap_frozen xA 3
      have f4' := Kg.heap_frozen xA 4
      have f5' := Kg.heap_frozen xA 5
      clear hC bA hA q2 hg2 L9
      go_wp2_with fail
      have xB : ((((((wA.setCell ⟨A, 0, none⟩ (.slice s0 r0 t0)).setCell ⟨A, 1, none⟩ (.slice s1 r1 t1)).setCell ⟨A, 2, none⟩ (.slice s2 r2 t2)).setCell ⟨A, 3, none⟩ (.slice s3 r3 t3)).setCell ⟨A, 4, none⟩ (.slice s4 r4 t4)).setCell ⟨A, 5, none⟩ (.int .u64 (G2.next : Int))).heap[A]? = some (.cells #[.slice s0 r0 t0, .slice s1 r1 t1, .slice s2 r2 t2, .slice s3 r3 t3, .slice s4 r4 t4, .int .u64 (G2.next : Int)] 28 (0, 0)) := set6 xA
      have tB := touch6 wA A (.slice s0 r0 t0) (.slice s1 r1 t1) (.slice s2 r2 t2) (.slice s3 r3 t3) (.slice s4 r4 t4) (.int .u64 (G2.next : Int))
      clear i0 i1 i2 i3 i4 i5 f0' f1' f2' f3' f4' f5'
      generalize ((((((wA.setCell ⟨A, 0, none⟩ (.slice s0 r0 t0)).setCell ⟨A, 1, none⟩ (.slice s1 r1 t1)).setCell ⟨A, 2, none⟩ (.slice s2 r2 t2)).setCell ⟨A, 3, none⟩ (.slice s3 r3 t3)).setCell ⟨A, 4, none⟩ (.slice s4 r4 t4)).setCell ⟨A, 5, none⟩ (.int .u64 (G2.next : Int))) = wB at *
      have LB : Hid (Lk w wB A B (A + 1) Y Z N cy cz ds) := LA.out.putA tB xB
      have QB : Hid (Gq wB (.slice s0 r0 t0) (.slice s1 r1 t1) (.slice s2 r2 t2) (.slice s3 r3 t3) (.slice s4 r4 t4) G2) := QA.out.touch tB (fun k hk cs t' hc => by simp only [List.mem_cons, List.not_mem_nil, or_false] at hk; subst hk; rw [xA] at hc; cases hc; rfl)
      have XB : Hid (wB.heap[A]? = some (.cells #[.slice s0 r0 t0, .slice s1 r1 t1, .slice s2 r2 t2, .slice s3 r3 t3, .slice s4 r4 t4, .int .u64 (G2.next : Int)] 28 (0, 0))) := xB
      clear xA tB xB LA QA
      have hC := iRead_any LB.out.lent (Nat.le_refl _) (by omega) HD.out (HL.out _ LB.out.b)
      refine hC.mono ?_
      rintro e wC ⟨bC, hC9⟩
      obtain ⟨G3, p3, k3, hg3, -, -, d0, d1, d2, d3, d4, m0, m1, m2, m3, m4, e0, e1, e2, e3, e4, rfl, q3⟩ := hC9.any (by omega)
      obtain ⟨rfl, rfl, rfl⟩ := RG2.out.uniq hg3
      have LC : Hid (Lk w wC A B (A + 1) Y Z N cy cz ds) := LB.out.below bC
      have QC : Hid (Gq wC (.slice s0 r0 t0) (.slice s1 r1 t1) (.slice s2 r2 t2) (.slice s3 r3 t3) (.slice s4 r4 t4) G2 ∧ Gq wC (.slice d0 m0 e0) (.slice d1 m1 e1) (.slice d2 m2 e2) (.slice d3 m3 e3) (.slice d4 m4 e4) G2) := ⟨QB.out.below bC, q3⟩
      have XC : Hid (wC.heap[A]? = some (.cells #[.slice s0 r0 t0, .slice s1 r1 t1, .slice s2 r2 t2, .slice s3 r3 t3, .slice s4 r4 t4, .int .u64 (G2.next : Int)] 28 (0, 0))) := (bC.block _ (Kg.heap_lt XB.out)).trans XB.out
      clear hC bC hC9 q3 hg3 LB QB XB
      obtain ⟨x0, x1, x2, x3, x4, x5, xA⟩ := LC.out.a2
      obtain ⟨i0, i1, i2, i3, i4, i5⟩ := gcell xA
      have f0' := Kg.heap_frozen xA 0
      have f1' := Kg.heap_frozen xA 1
      have f2' := Kg.heap_frozen xA 2
      have f3' := Kg.heap_frozen xA 3
      have f4' := Kg.heap_frozen xA 4
      have f5' := Kg.heap_frozen xA 5
      go_wp2_with fail
      have xD : ((((((wC.setCell ⟨B, 0, none⟩ (.slice d0 m0 e0)).setCell ⟨B, 1, none⟩ (.slice d1 m1 e1)).setCell ⟨B, 2, none⟩ (.slice d2 m2 e2)).setCell ⟨B, 3, none⟩ (.slice d3 m3 e3)).setCell ⟨B, 4, none⟩ (.slice d4 m4 e4)).setCell ⟨B, 5, none⟩ (.int .u64 (G2.next : Int))).heap[B]? = some (.cells #[.slice d0 m0 e0, .slice d1 m1 e1, .slice d2 m2 e2, .slice d3 m3 e3, .slice d4 m4 e4, .int .u64 (G2.next : Int)] 28 (0, 0)) := set6 xA
      have tD := touch6 wC B (.slice d0 m0 e0) (.slice d1 m1 e1) (.slice d2 m2 e2) (.slice d3 m3 e3) (.slice d4 m4 e4) (.int .u64 (G2.next : Int))
      clear i0 i1 i2 i3 i4 i5 f0' f1' f2' f3' f4' f5'
      generalize ((((((wC.setCell ⟨B, 0, none⟩ (.slice d0 m0 e0)).setCell ⟨B, 1, none⟩ (.slice d1 m1 e1)).setCell ⟨B, 2, none⟩ (.slice d2 m2 e2)).setCell ⟨B, 3, none⟩ (.slice d3 m3 e3)).setCell ⟨B, 4, none⟩ (.slice d4 m4 e4)).setCell ⟨B, 5, none⟩ (.int .u64 (G2.next : Int))) = wD at *
      have hT9 : ∀ k, k ∈ [B] → ∀ cs t', wC.heap[k]? = some (.cells cs t' (0, 0)) → t' = 28 := fun k hk cs t' hc => by simp only [List.mem_cons, List.not_mem_nil, or_false] at hk; subst hk; rw [xA] at hc; cases hc; rfl
      have LD : Hid (Lk w wD A B (A + 1) Y Z N cy cz ds) := (LC.out.swap.putA tD xD).swap
      have QD : Hid (Gq wD (.slice s0 r0 t0) (.slice s1 r1 t1) (.slice s2 r2 t2) (.slice s3 r3 t3) (.slice s4 r4 t4) G2 ∧ Gq wD (.slice d0 m0 e0) (.slice d1 m1 e1) (.slice d2 m2 e2) (.slice d3 m3 e3) (.slice d4 m4 e4) G2) := ⟨QC.out.1.touch tD hT9, QC.out.2.touch tD hT9⟩
      have xE := (tD.block A (Kg.heap_lt XC.out) (by have := LC.out.lo; simp; omega)).trans XC.out
      clear hT9 xA tD LC QC XC
      refine (num16_any k2 wD).mono ?_
      rintro e wE ⟨rfl, rfl⟩
      obtain ⟨i0, i1, i2, i3, i4, i5⟩ := gcell xE
      obtain ⟨j0, j1, j2, j3, j4, j5⟩ := gcell xD
      go_wp2_with fail
      refine (same16_gq QD.out.2 QD.out.1).mono ?_
      rintro e wF ⟨rfl, bF⟩
      have LF : Hid (Lk w wF A B (A + 1) Y Z N cy cz ds) := LD.out.below bF
      clear i0 i1 i2 i3 i4 i5 j0 j1 j2 j3 j4 j5 LD QD bF xE xD
      go_wp2
      go_roundw
      case rel => exact ⟨i + 1, ds, by go_num, by omega, LF.out, HD.out⟩
      case measure => simp [intOf]; omega
    · have hiI : ¬ (i : Int) < 2 := by omega
      go_wp2_with fail
      refine (HLk.out.1.hold (by omega)).mono ?_
      rintro e w8 ⟨rfl, b8⟩
      go_wp2
      go_ret
      exact ⟨rfl, HLk.out.1.b.trans (b8.mono HLk.out.1.b.size)⟩

end Go.Proofs.YtblbiikfipcbcaaGreatDoor

