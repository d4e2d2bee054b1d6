import Derived.Test.YtkekaifiahjljaaGreatDoorC07
import Derived.Test.YtkekaifiahjljaaGreatDoorC09
import Derived.Test.YtkekaifiahjljaaGreatDoorC01
import Derived.Test.YtkekaifiahjljaaGreatDoorRows
import Derived.Test.YtkekaifiahjljaaGreatDoorC02
import Derived.Maps.AppendAt
import Derived.Deep.CutRange
set_option linter.unusedVariables false
set_option maxHeartbeats 8000000
set_option maxRecDepth 20000
namespace Go.Proofs.YtkekaifiahjljaaGreatDoor
open Go.RowKit Go.Shelf
theorem rCheck_any (n0 : Nat) (w : World) (vo vs vh vr vq : Value) (os : List OL) (ts : List (Value × List (Value × List Int))) (g : Im.Gr) (hg : Grd n0 w vo vs vh vr vq os ts g) (hn : n0 ≤ w.heap.size) (hl : Gln os ts g) :
    Calls Tryz.prog 29 #[.agg (gcs vo vs vh vr vq g.next)] w fun e w' => ∃ r : Int, e = .returned (.int .i64 r) ∧ Below w.heap.size w w' ∧ ((r = 0 ∧ MB g) ∨ (r = 164 ∧ ¬ MB g)) := by
  have l1 : Below w.heap.size w (w.alloc (.cells (gcs vo vs vh vr vq g.next) 27)) := Below.alloc (Below.refl _ _) (Nat.le_refl _) _
  have hy := fun j => cell_of_row _ _ j _ _ _ (heap_alloc_new w (.cells (gcs vo vs vh vr vq g.next) 27 (0, 0)))
  generalize hw1 : w.alloc (.cells (gcs vo vs vh vr vq g.next) 27) = w1 at *
  have e1 : w1.heap.size = w.heap.size + 1 := by rw [← hw1]; simp
  have HK : Hid (∀ w', Below w1.heap.size w1 w' → w'.cell? ⟨w.heap.size, 0, none⟩ = some vo ∧ w'.cell? ⟨w.heap.size, 1, none⟩ = some vs ∧ w'.cell? ⟨w.heap.size, 2, none⟩ = some vh ∧ w'.cell? ⟨w.heap.size, 3, none⟩ = some vr ∧ w'.cell? ⟨w.heap.size, 4, none⟩ = some vq ∧ w'.cell? ⟨w.heap.size, 5, none⟩ = some (.int .u64 g.next)) := fun w' b' => by
    have hlt : w.heap.size < w1.heap.size := by omega
    exact ⟨(b'.cell (p := ⟨w.heap.size, 0, none⟩) hlt).trans (hy 0), (b'.cell (p := ⟨w.heap.size, 1, none⟩) hlt).trans (hy 1), (b'.cell (p := ⟨w.heap.size, 2, none⟩) hlt).trans (hy 2), (b'.cell (p := ⟨w.heap.size, 3, none⟩) hlt).trans (hy 3), (b'.cell (p := ⟨w.heap.size, 4, none⟩) hlt).trans (hy 4), (b'.cell (p := ⟨w.heap.size, 5, none⟩) hlt).trans (hy 5)⟩
  have HG : Hid (∀ w', Below w1.heap.size w1 w' → Below w.heap.size w w' ∧ n0 ≤ w'.heap.size ∧ Grd n0 w' vo vs vh vr vq os ts g) := fun w' b' => by
    have h9 := l1.trans (b'.mono l1.size)
    exact ⟨h9, Nat.le_trans hn h9.size, hg.below (h9.mono hn)⟩
  have Hl : Hid (Gln os ts g) := hl
  obtain ⟨k0, k1, k2, k3, k4, k5⟩ := HK.out w1 (Below.refl _ _)
  have HB1 : Hid (Below w1.heap.size w1 w1) := Below.refl _ _
  obtain ⟨aa, ac, rfl, -⟩ := hg.ob
  obtain ⟨ba, bc, rfl, -⟩ := hg.sl
  obtain ⟨ca, cc, rfl, -, -⟩ := hg.hs
  obtain ⟨da, dc, rfl, -, -⟩ := hg.rg
  obtain ⟨ea, ec, rfl, -, -⟩ := hg.qu
  have hO := calls_def (rObjects_any n0 w1 _ _ _ _ _ os ts g (HG.out w1 HB1.out).2.2 (HG.out w1 HB1.out).2.1 Hl.out.o)
  clear hg hl hy
  go_enter Tryz.func29, Tryz.ntmps29
  by_cases pO : OM g
  · have hc := hO.1 pO
    clear hO
    go_wp2_with fail
    refine hc.mono ?_
    rintro e w2 ⟨rfl, b2⟩
    have HB2 : Hid (Below w1.heap.size w1 w2) := HB1.out.trans (b2.mono HB1.out.size)
    clear hc b2 k0 k1 k2 k3 k4 k5
    obtain ⟨k0, k1, k2, k3, k4, k5⟩ := HK.out w2 HB2.out
    have hS := calls_def (rSlots_any n0 w2 _ _ _ _ _ os ts g (HG.out w2 HB2.out).2.2 (HG.out w2 HB2.out).2.1 Hl.out.o Hl.out.s Hl.out.h)
    by_cases pS : SH g
    · have hc := hS.1 pS
      clear hS
      go_wp2_with fail
      refine hc.mono ?_
      rintro e w3 ⟨rfl, b3⟩
      have HB3 : Hid (Below w1.heap.size w1 w3) := HB2.out.trans (b3.mono HB2.out.size)
      clear hc b3 k0 k1 k2 k3 k4 k5
      obtain ⟨k0, k1, k2, k3, k4, k5⟩ := HK.out w3 HB3.out
      have hF := calls_def (rLists_any n0 w3 _ _ _ _ _ os ts g (HG.out w3 HB3.out).2.2 (HG.out w3 HB3.out).2.1 Hl.out.o Hl.out.r Hl.out.q)
      by_cases pF : FM g
      · have hc := hF.1 pF
        clear hF
        go_wp2_with fail
        refine hc.mono ?_
        rintro e w5 ⟨rfl, b5⟩
        have HB5 : Hid (Below w1.heap.size w1 w5) := HB3.out.trans (b5.mono HB3.out.size)
        clear hc b5 k0 k1 k2 k3 k4 k5
        obtain ⟨k0, k1, k2, k3, k4, k5⟩ := HK.out w5 HB5.out
        have hA := calls_def (rKnown_any n0 w5 _ _ _ _ _ os ts g (HG.out w5 HB5.out).2.2 (HG.out w5 HB5.out).2.1 Hl.out.s Hl.out.o Hl.out.e (root_le pS.s pS.h pF) (fun o ho z hz => by
          have := pO.ptrs o ho z hz
          simp [inB] at this
          exact this.2))
        by_cases pA : AK g
        · have hc := hA.1 pA
          have Hr : Hid (MB g) := ⟨pO, pS.s, pS.h, pF, pA⟩
          clear hA
          go_wp2_with fail
          refine hc.mono ?_
          rintro e w6 ⟨rfl, b6⟩
          have HB6 : Hid (Below w1.heap.size w1 w6) := HB5.out.trans (b6.mono HB5.out.size)
          clear hc b6 k0 k1 k2 k3 k4 k5
          go_wp2
          go_ret
          exact ⟨0, rfl, (HG.out _ HB6.out).1, .inl ⟨rfl, Hr.out⟩⟩
        · have hc := hA.2 pA
          have Hr : Hid (¬ MB g) := fun h => pA h.k
          clear hA
          go_wp2_with fail
          refine hc.mono ?_
          rintro e w6 ⟨rfl, b6⟩
          have HB6 : Hid (Below w1.heap.size w1 w6) := HB5.out.trans (b6.mono HB5.out.size)
          clear hc b6 k0 k1 k2 k3 k4 k5
          go_wp2
          go_ret
          exact ⟨164, rfl, (HG.out _ HB6.out).1, .inr ⟨rfl, Hr.out⟩⟩
      · have hc := hF.2 pF
        have Hn : Hid (¬ MB g) := fun h => pF h.f
        clear hF
        go_wp2_with fail
        refine hc.mono ?_
        rintro e w5 ⟨rfl, b5⟩
        have HB5 : Hid (Below w1.heap.size w1 w5) := HB3.out.trans (b5.mono HB3.out.size)
        clear hc b5 k0 k1 k2 k3 k4 k5
        go_wp2
        go_ret
        exact ⟨164, rfl, (HG.out _ HB5.out).1, .inr ⟨rfl, Hn.out⟩⟩
    · have hc := hS.2 pS
      have Hn : Hid (¬ MB g) := fun h => pS ⟨h.s, h.h⟩
      clear hS
      go_wp2_with fail
      refine hc.mono ?_
      rintro e w3 ⟨rfl, b3⟩
      have HB3 : Hid (Below w1.heap.size w1 w3) := HB2.out.trans (b3.mono HB2.out.size)
      clear hc b3 k0 k1 k2 k3 k4 k5
      go_wp2
      go_ret
      exact ⟨164, rfl, (HG.out _ HB3.out).1, .inr ⟨rfl, Hn.out⟩⟩
  · have hc := hO.2 pO
    have Hn : Hid (¬ MB g) := fun h => pO h.o
    clear hO
    go_wp2_with fail
    refine hc.mono ?_
    rintro e w2 ⟨rfl, b2⟩
    have HB2 : Hid (Below w1.heap.size w1 w2) := HB1.out.trans (b2.mono HB1.out.size)
    clear hc b2 k0 k1 k2 k3 k4 k5
    go_wp2
    go_ret
    exact ⟨164, rfl, (HG.out _ HB2.out).1, .inr ⟨rfl, Hn.out⟩⟩
end Go.Proofs.YtkekaifiahjljaaGreatDoor
namespace Go.Proofs.YtkekaifiahjljaaGreatDoor.Kg
open Go.RowKit
section
variable {P : Program} {ops : Array Oper} {md : Region.Mode} {C : World → Prop}
end
end Go.Proofs.YtkekaifiahjljaaGreatDoor.Kg
namespace Go.Proofs.YtkekaifiahjljaaGreatDoor.Lp
def Pth (W : Nat → List Nat) (t : Nat) : Nat → Nat → Prop
  | 0, x => x = t
  | d + 1, x => ∃ y, y ∈ W x ∧ Pth W t d y
def Dis (W : Nat → List Nat) (t x d : Nat) : Prop := Pth W t d x ∧ ∀ e, Pth W t e x → d ≤ e
structure Bt (W : Nat → List Nat) (seq : List Nat) (k : Nat) (by' dep pos : Nat → Nat) : Prop where
  ps : ∀ (j : Nat) y, seq[j]? = some y → pos y = j
  z : seq[0]? = some 0
  kl : k ≤ seq.length
  d0 : dep 0 = 0
  pr : ∀ y, y ∈ seq → y ≠ 0 → by' y ∈ seq ∧ pos (by' y) < k ∧ pos (by' y) < pos y ∧ y ∈ W (by' y) ∧ dep y = dep (by' y) + 1
  al : ∀ x, x ∈ seq → pos x < k → ∀ y, y ∈ W x → y ∈ seq ∧ pos (by' y) ≤ pos x
  od : ∀ y y', y ∈ seq → y' ∈ seq → y ≠ 0 → y' ≠ 0 → pos y < pos y' → pos (by' y) < pos (by' y') ∨ (by' y = by' y' ∧ y < y')
  wp : ∀ x y, y ∈ W x → y ≠ 0
variable {W : Nat → List Nat} {seq : List Nat} {k : Nat} {by' dep pos : Nat → Nat}
theorem Bt.at_ (h : Bt W seq k by' dep pos) {x : Nat} (hx : x ∈ seq) : seq[pos x]? = some x := by
  obtain ⟨j, hj⟩ := List.getElem?_of_mem hx
  rw [h.ps j x hj]
  exact hj
theorem Bt.inj (h : Bt W seq k by' dep pos) {x y : Nat} (hx : x ∈ seq) (hy : y ∈ seq) (e : pos x = pos y) : x = y := by
  have h1 := h.at_ hx
  have h2 := h.at_ hy
  rw [e, h2] at h1
  exact (Option.some.inj h1).symm
theorem Bt.p0 (h : Bt W seq k by' dep pos) : pos 0 = 0 := h.ps 0 0 h.z
theorem Bt.m0 (h : Bt W seq k by' dep pos) : 0 ∈ seq := List.mem_of_getElem? h.z
theorem Bt.mono (h : Bt W seq k by' dep pos) : ∀ (n : Nat) x y, pos y = n → x ∈ seq → y ∈ seq → pos x ≤ pos y → dep x ≤ dep y := by
  intro n
  induction n using Nat.strongRecOn with
  | _ n ih =>
    intro x y hn hx hy hle
    by_cases ex : x = 0
    · rw [ex, h.d0]; exact Nat.zero_le _
    · by_cases e : pos x = pos y
      · rw [h.inj hx hy e]; exact Nat.le_refl _
      · have ey : y ≠ 0 := fun ey => by rw [ey, h.p0] at hle e; omega
        have px := h.pr x hx ex
        have py := h.pr y hy ey
        rw [px.2.2.2.2, py.2.2.2.2]
        have hb : pos (by' x) ≤ pos (by' y) := by
          rcases h.od x y hx hy ex ey (by omega) with h1 | ⟨h1, -⟩
          · omega
          · rw [h1]; exact Nat.le_refl _
        have := ih (pos (by' y)) (by omega) (by' x) (by' y) rfl px.1 py.1 hb
        omega
theorem Bt.short (h : Bt W seq k by' dep pos) {t : Nat} (ht : t ∈ seq) (h0 : t ≠ 0) : ∀ (e x : Nat), x ∈ seq → Pth W t e x → dep t ≤ dep x + e
  | 0, x, hx, hp => by
    have : x = t := hp
    rw [this]; exact Nat.le_refl _
  | e + 1, x, hx, hp => by
    obtain ⟨y, hy, hp⟩ := hp
    by_cases hk : pos x < k
    · have h1 := h.al x hx hk y hy
      have h2 := h.pr y h1.1 (h.wp x y hy)
      have h3 := h.mono _ (by' y) x rfl h2.1 hx h1.2
      have h4 := h.short ht h0 e y h1.1 hp
      omega
    · have h2 := h.pr t ht h0
      have h3 := h.mono _ (by' t) x rfl h2.1 hx (by omega)
      omega
inductive Chn (by' : Nat → Nat) : Nat → List Nat → Prop
  | nil : Chn by' 0 []
  | snoc {t : Nat} {l : List Nat} : t ≠ 0 → Chn by' (by' t) l → Chn by' t (l ++ [t])
inductive Gd (W : Nat → List Nat) (t : Nat) : Nat → List Nat → Prop
  | nil : Gd W t t []
  | cons {x y d : Nat} {l : List Nat} : x ≠ t → y ∈ W x → Dis W t y d → (∀ z e, z ∈ W x → Dis W t z e → d ≤ e ∧ (e = d → y ≤ z)) → Gd W t y l → Gd W t x (y :: l)
theorem Bt.first (h : Bt W seq k by' dep pos) {t : Nat} (ht : t ∈ seq) (h0 : t ≠ 0) : ∀ (d c : Nat), c ∈ seq → dep c + d = dep t → Pth W t d c → (∀ z, z ∈ seq → dep z = dep c → Pth W t d z → pos c ≤ pos z) →
    c ≠ 0 → by' c ∈ seq ∧ dep (by' c) + (d + 1) = dep t ∧ Pth W t (d + 1) (by' c) ∧ (∀ z, z ∈ seq → dep z = dep (by' c) → Pth W t (d + 1) z → pos (by' c) ≤ pos z) ∧
      Dis W t c d ∧ ∀ z e, z ∈ W (by' c) → Dis W t z e → d ≤ e ∧ (e = d → c ≤ z) := by
  intro d c hc hd hp hf h00
  have pc := h.pr c hc h00
  have hdis : ∀ z e, z ∈ seq → Pth W t e z → dep t ≤ dep z + e := fun z e hz hpz => h.short ht h0 e z hz hpz
  refine ⟨pc.1, by omega, ⟨c, pc.2.2.2.1, hp⟩, fun z hz hdz hpz => ?_, ⟨hp, fun e hpe => by have := hdis c e hc hpe; omega⟩, fun z e hz hze => ?_⟩
  · rcases Nat.lt_or_ge (pos z) (pos (by' c)) with hlt | hge
    · obtain ⟨y, hy, hpy⟩ := hpz
      have h1 := h.al z hz (by omega) y hy
      have ey := h.wp z y hy
      have h2 := h.pr y h1.1 ey
      have h3 := h.mono _ (by' y) z rfl h2.1 hz h1.2
      have h4 := hdis y d h1.1 hpy
      have h5 : dep y = dep c := by omega
      have h6 := hf y h1.1 h5 hpy
      have h7 : pos (by' c) ≤ pos (by' y) := by
        rcases Nat.lt_or_eq_of_le h6 with h8 | h8
        · rcases h.od c y hc h1.1 h00 ey h8 with h9 | ⟨h9, -⟩
          · omega
          · rw [h9]; exact Nat.le_refl _
        · rw [h.inj hc h1.1 h8]; exact Nat.le_refl _
      omega
    · exact hge
  · have h1 := h.al (by' c) pc.1 pc.2.1 z hz
    have ez := h.wp _ z hz
    have h2 := h.pr z h1.1 ez
    have h3 := h.mono _ (by' z) (by' c) rfl h2.1 pc.1 h1.2
    have h4 := hdis z e h1.1 hze.1
    refine ⟨by omega, fun he => ?_⟩
    subst he
    have h5 : dep z = dep c := by omega
    have h6 := hf z h1.1 h5 hze.1
    rcases Nat.lt_or_eq_of_le h6 with h8 | h8
    · rcases h.od c z hc h1.1 h00 ez h8 with h9 | ⟨-, h9⟩
      · omega
      · omega
    · rw [h.inj hc h1.1 h8]; exact Nat.le_refl _
theorem Bt.chain (h : Bt W seq k by' dep pos) {t : Nat} (ht : t ∈ seq) (h0 : t ≠ 0) : ∀ (c : Nat) (l : List Nat), Chn by' c l → ∀ (d : Nat) (r : List Nat), c ∈ seq → dep c + d = dep t → Pth W t d c → (∀ z, z ∈ seq → dep z = dep c → Pth W t d z → pos c ≤ pos z) → Gd W t c r → Gd W t 0 (l ++ r) := by
  intro c l hl
  induction hl with
  | nil => intro d r _ _ _ _ hg; exact hg
  | @snoc c l h00 hl ih =>
    intro d r hc hd hp hf hg
    obtain ⟨k1, k2, k3, k4, k5, k6⟩ := h.first ht h0 d c hc hd hp hf h00
    have hne : by' c ≠ t := fun e => by rw [e] at k2; omega
    have := ih (d + 1) (c :: r) k1 k2 k3 k4 (.cons hne (h.pr c hc h00).2.2.2.1 k5 k6 hg)
    rw [List.append_assoc]
    exact this
theorem Bt.tells (h : Bt W seq k by' dep pos) {t : Nat} (ht : t ∈ seq) (h0 : t ≠ 0) {l : List Nat} (hl : Chn by' t l) : Gd W t 0 l := by
  have := h.chain ht h0 t l hl 0 [] ht rfl rfl (fun z hz _ hp => by rw [show z = t from hp]; exact Nat.le_refl _) .nil
  rw [List.append_nil] at this
  exact this
theorem Bt.row (h : Bt W seq k by' dep pos) : ∀ (n t : Nat), pos t = n → t ∈ seq → ∃ l, Chn by' t l := by
  intro n
  induction n using Nat.strongRecOn with
  | _ n ih =>
    intro t hn ht
    by_cases e : t = 0
    · exact ⟨[], e ▸ .nil⟩
    · have p := h.pr t ht e
      obtain ⟨l, hl⟩ := ih (pos (by' t)) (by omega) (by' t) rfl p.1
      exact ⟨l ++ [t], .snoc e hl⟩
theorem Bt.whole (h : Bt W seq seq.length by' dep pos) {t : Nat} : ∀ (e x : Nat), x ∈ seq → Pth W t e x → t ∈ seq
  | 0, x, hx, hp => by rw [← show x = t from hp]; exact hx
  | e + 1, x, hx, hp => by
    obtain ⟨y, hy, hp⟩ := hp
    have hl := (List.getElem?_eq_some_iff.1 (h.at_ hx)).1
    exact h.whole e y (h.al x hx hl y hy).1 hp
variable {W : Nat → List Nat} {seq : List Nat} {k : Nat} {by' dep pos : Nat → Nat}
theorem Bt.start (hw : ∀ x y, y ∈ W x → y ≠ 0) : Bt W [0] 0 (fun _ => 0) (fun _ => 0) (fun _ => 0) where
  ps := fun j y h => by
    have := (List.getElem?_eq_some_iff.1 h).1
    simp at this
    exact this.symm
  z := rfl
  kl := Nat.zero_le _
  d0 := rfl
  pr := fun y hy h0 => absurd (by simpa using hy) h0
  al := fun x _ h => by omega
  od := fun y y' hy _ h0 => absurd (by simpa using hy) h0
  wp := hw
theorem idx_at : ∀ (l : List Nat), l.Pairwise (· < ·) → ∀ (i : Nat) y, l[i]? = some y → l.idxOf y = i
  | x :: l, hp, 0, y, h => by
    simp at h
    subst h
    simp
  | x :: l, hp, i + 1, y, h => by
    have hp' := List.pairwise_cons.1 hp
    have h1 : l[i]? = some y := by simpa using h
    have h2 := hp'.1 y (List.mem_of_getElem? h1)
    have h3 := idx_at l hp'.2 i y h1
    rw [List.idxOf_cons, h3]
    have : (x == y) = false := by simp; omega
    simp [this]
theorem Bt.step (h : Bt W seq k by' dep pos) {n : Nat} (hn : seq[k]? = some n) {new : List Nat} (hp : new.Pairwise (· < ·)) (hm : ∀ y, y ∈ new ↔ y ∈ W n ∧ y ∉ seq) :
    Bt W (seq ++ new) (k + 1) (fun y => if y ∈ new then n else by' y) (fun y => if y ∈ new then dep n + 1 else dep y) (fun y => if y ∈ new then seq.length + new.idxOf y else pos y) := by
  have hns : n ∈ seq := List.mem_of_getElem? hn
  have hnk : pos n = k := h.ps k n hn
  have hkl : k < seq.length := (List.getElem?_eq_some_iff.1 hn).1
  have out : ∀ y, y ∈ seq → y ∉ new := fun y hy hn => ((hm y).1 hn).2 hy
  have lt : ∀ y, y ∈ seq → pos y < seq.length := fun y hy => (List.getElem?_eq_some_iff.1 (h.at_ hy)).1
  have n0 : ∀ y, y ∈ new → y ≠ 0 := fun y hy => h.wp n y ((hm y).1 hy).1
  have z0 : (0 : Nat) ∉ new := fun hz => n0 0 hz rfl
  have mem : ∀ y, y ∈ seq ++ new → y ∈ seq ∨ y ∈ new := fun y hy => List.mem_append.1 hy
  refine ⟨fun j y hj => ?_, ?_, by rw [List.length_append]; omega, by simp [z0, h.d0], fun y hy h0 => ?_, fun x hx hxk y hy => ?_, fun y y' hy hy' h0 h0' hlt => ?_, h.wp⟩
  · rcases Nat.lt_or_ge j seq.length with hl | hl
    · rw [List.getElem?_append_left hl] at hj
      have hy : y ∈ seq := List.mem_of_getElem? hj
      simp only [out y hy, if_false]
      exact h.ps j y hj
    · rw [List.getElem?_append_right hl] at hj
      have hy : y ∈ new := List.mem_of_getElem? hj
      simp only [hy, if_true]
      rw [idx_at new hp _ y hj]
      omega
  · rw [List.getElem?_append_left (by omega)]
    exact h.z
  · rcases mem y hy with hy | hy
    · have p := h.pr y hy h0
      simp only [out y hy, if_false, out _ p.1]
      exact ⟨List.mem_append_left _ p.1, by omega, p.2.2.1, p.2.2.2.1, p.2.2.2.2⟩
    · simp only [hy, if_true, out n hns, if_false]
      exact ⟨List.mem_append_left _ hns, by omega, by omega, ((hm y).1 hy).1, trivial⟩
  · rcases mem x hx with hx | hx
    · simp only [out x hx, if_false] at hxk ⊢
      by_cases hyn : y ∈ new
      · simp only [hyn, if_true, out n hns, if_false]
        refine ⟨List.mem_append_right _ hyn, ?_⟩
        rcases Nat.lt_or_ge (pos x) k with h1 | h1
        · exact absurd (h.al x hx h1 y hy).1 ((hm y).1 hyn).2
        · omega
      · simp only [hyn, if_false]
        rcases Nat.lt_or_ge (pos x) k with h1 | h1
        · have h2 := h.al x hx h1 y hy
          have p := h.pr y h2.1 (h.wp x y hy)
          simp only [out _ p.1, if_false]
          exact ⟨List.mem_append_left _ h2.1, h2.2⟩
        · have ex : x = n := h.inj hx hns (by omega)
          subst ex
          have hys : y ∈ seq := by
            by_cases e : y ∈ seq
            · exact e
            · exact absurd ((hm y).2 ⟨hy, e⟩) hyn
          have p := h.pr y hys (h.wp x y hy)
          simp only [out _ p.1, if_false]
          exact ⟨List.mem_append_left _ hys, by omega⟩
    · simp only [hx, if_true] at hxk
      omega
  · rcases mem y hy with hy | hy
    · have p := h.pr y hy h0
      rcases mem y' hy' with hy' | hy'
      · have p' := h.pr y' hy' h0'
        simp only [out y hy, out y' hy', if_false, out _ p.1, out _ p'.1] at hlt ⊢
        exact h.od y y' hy hy' h0 h0' hlt
      · simp only [out y hy, hy', if_false, if_true, out _ p.1, out n hns]
        exact .inl (by omega)
    · rcases mem y' hy' with hy' | hy'
      · simp only [hy, out y' hy', if_false, if_true] at hlt
        have := lt y' hy'
        omega
      · simp only [hy, hy', if_true] at hlt ⊢
        refine .inr ⟨trivial, ?_⟩
        obtain ⟨i, hi⟩ := List.getElem?_of_mem hy
        obtain ⟨j, hj⟩ := List.getElem?_of_mem hy'
        rw [idx_at new hp i y hi, idx_at new hp j y' hj] at hlt
        obtain ⟨hil, hi⟩ := List.getElem?_eq_some_iff.1 hi
        obtain ⟨hjl, hj⟩ := List.getElem?_eq_some_iff.1 hj
        rw [← hi, ← hj]
        exact List.pairwise_iff_getElem.1 hp i j hil hjl (by omega)
theorem Gd.uniq {t x : Nat} {l l' : List Nat} (h : Gd W t x l) (h' : Gd W t x l') : l = l' := by
  induction h generalizing l' with
  | nil =>
    cases h' with
    | nil => rfl
    | cons hne => exact absurd rfl hne
  | @cons x y d l hne hy hd hmin _ ih =>
    cases h' with
    | nil => exact absurd rfl hne
    | @cons _ y' d' l' _ hy' hd' hmin' hg =>
      have a := hmin y' d' hy' hd'
      have b := hmin' y d hy hd
      have e : d = d' := Nat.le_antisymm a.1 b.1
      have e2 : y = y' := Nat.le_antisymm (a.2 e.symm) (b.2 e)
      subst e2
      rw [ih hg]
theorem nodup_len : ∀ (l k : List Nat), l.Nodup → (∀ x, x ∈ l → x ∈ k) → l.length ≤ k.length
  | [], k, _, _ => Nat.zero_le _
  | x :: l, k, hp, hs => by
    have hx := hs x List.mem_cons_self
    have hp' := List.nodup_cons.1 hp
    have h1 := nodup_len l (k.erase x) hp'.2 (fun y hy => (List.mem_erase_of_ne (fun (e : y = x) => hp'.1 (by rw [← e]; exact hy))).2 (hs y (List.mem_cons_of_mem _ hy)))
    have h2 := List.length_erase_of_mem hx
    have h3 : 0 < k.length := List.length_pos_of_mem hx
    simp only [List.length_cons]
    omega
variable {W : Nat → List Nat} {t n : Nat}
end Go.Proofs.YtkekaifiahjljaaGreatDoor.Lp
namespace Go.Proofs.YtkekaifiahjljaaGreatDoor
open Go.RowKit Go.Shelf
def fst17 (k : Int) : Nat := if k = 2 then 1 else if k = 3 then 2 else 0
theorem fst17_le (k : Int) : fst17 k ≤ 2 := by unfold fst17; split; omega; split <;> omega
def stg (o : Im.Ob) : List Int := (o.ps.drop (fst17 o.kind)).filter (fun z => decide (0 < z))
theorem firstStrong_any (k : Int) (w : World) : Calls Tryz.prog 58 #[.int .i64 k] w fun e w' => e = .returned (.int .i64 (fst17 k : Nat)) ∧ w = w' := by
  by_cases h1 : k = 2
  · subst h1
    go_enter Tryz.func58, Tryz.ntmps58
    go_wp2
    go_ret
    exact ⟨rfl, rfl⟩
  · have h1' : (k == 2) = false := by simpa using h1
    by_cases h2 : k = 3
    · subst h2
      go_enter Tryz.func58, Tryz.ntmps58
      go_wp2
      go_ret
      exact ⟨rfl, rfl⟩
    · have h2' : (k == 3) = false := by simpa using h2
      have e : fst17 k = 0 := by unfold fst17; rw [if_neg h1, if_neg h2]
      go_enter Tryz.func58, Tryz.ntmps58
      go_wp2
      go_ret
      exact ⟨by rw [e]; rfl, rfl⟩
def stt (ps : List Int) (f i : Nat) : List Int := ((ps.take i).drop f).filter (fun z => decide (0 < z))
theorem stt_step {ps : List Int} {f i : Nat} {z : Int} (h : ps[i]? = some z) (hf : f ≤ i) : stt ps f (i + 1) = stt ps f i ++ (if 0 < z then [z] else []) := by
  have hl := (List.getElem?_eq_some_iff.1 h).1
  have e : ps.take (i + 1) = ps.take i ++ [z] := by rw [List.take_add_one, h]; rfl
  unfold stt
  rw [e, List.drop_append_of_le_length (by rw [List.length_take]; omega), List.filter_append]
  by_cases hz : 0 < z
  · simp [hz]
  · simp [hz]
theorem stt_len (ps : List Int) (f i : Nat) : (stt ps f i).length ≤ ps.length := by
  unfold stt
  refine Nat.le_trans (List.length_filter_le _ _) ?_
  rw [List.length_drop, List.length_take]
  omega
theorem stt_end (ps : List Int) (f i : Nat) (h : ps.length ≤ i) : stt ps f i = (ps.drop f).filter (fun z => decide (0 < z)) := by
  unfold stt
  rw [List.take_of_length_le h]
theorem stt_none (ps : List Int) (f : Nat) : stt ps f f = [] := by
  unfold stt
  rw [List.drop_eq_nil_of_le (by rw [List.length_take]; omega)]
  rfl
theorem cell_one17 (w : World) (v : Value) (t : TypeId) : ∀ (j : Nat) u, [v][j]? = some u → (w.alloc (.cells #[v] t)).cell? ((⟨w.heap.size, 0, none⟩ : Addr).add j) = some u := by
  intro j u hj
  have hadd : (⟨w.heap.size, 0, none⟩ : Addr).add j = ⟨w.heap.size, j, none⟩ := by unfold Addr.add; split <;> simp_all
  rw [hadd, cell_of_row _ _ j #[v] t (0, 0) (heap_alloc_new w _)]
  simpa using hj
theorem info_p17 {o : Option TypeInfo} {z : Option Value} {s b : Nat} (h : o.map (fun i => (i.zero, i.size, i.bytes)) = some (z, s, b)) : ∃ i, o = some i ∧ i.zero = z ∧ i.size = s ∧ i.bytes = b := by
  cases o with
  | none => cases h
  | some i =>
    simp only [Option.map_some, Option.some.injEq, Prod.mk.injEq] at h
    exact ⟨i, rfl, h.1, h.2.1, h.2.2⟩
theorem infoI17 : (Tryz.prog.info? 3).map (fun i => (i.zero, i.size, i.bytes)) = some (some (.int .i64 0), 1, 8) := by kernel_rfl
theorem own_sl17 {w : World} {base n e size : Nat} {v : Value} {xs : List Value} (h : w.ownsRow base e size v n xs) : ∃ a cap, v = .slice a n cap := by
  rcases h.2 with ⟨rfl, rfl⟩ | ⟨g, cap, cur, rfl, _⟩
  · exact ⟨_, _, rfl⟩
  · exact ⟨_, _, rfl⟩
def Il (w : World) (base : Nat) (v : Value) (l : List Int) : Prop := w.ownsRow base 3 1 v l.length (Kg.ints l)
theorem Il.below {w w' : World} {base : Nat} {v : Value} {l : List Int} (h : Il w base v l) (hb : Below w.heap.size w w') : Il w' base v l :=
  Kg.row_keep2 (G := []) h (Kg.Touch.of_below hb []) (fun _ _ => by simp)
theorem Il.snoc {w w' : World} {base : Nat} {v v' : Value} {l : List Int} {x : Int} (h : Il w base v l) (h' : w'.ownsRow base 3 1 v' (l.length + 1) (Kg.ints l ++ [.int .i64 x])) (hg : (w.alloc (.cells #[.int .i64 x] 3)).grownBy w' v.ownBlock) (hb : base ≤ w.heap.size) :
    Il w' base v' (l ++ [x]) ∧ Kg.Touch v.ownBlock.toList w w' ∧ Below base w w' := by
  have t9 : Kg.Touch v.ownBlock.toList w w' := (Kg.Touch.alloc _ w (.cells #[.int .i64 x] 3)).trans (Kg.Touch.grown hg (fun k hk => by rw [Option.mem_toList]; exact hk.symm ▸ rfl))
  refine ⟨?_, t9, t9.below hb (fun k hk => ?_)⟩
  · show w'.ownsRow _ _ _ _ (l ++ [x]).length (Kg.ints (l ++ [x]))
    rw [List.length_append, Kg.ints, List.map_append]
    exact h'
  · rw [Option.mem_toList] at hk
    exact (World.ownsRow.lt h k hk).1
def rtl (g : Im.Gr) : List Int := ((slotsF g.slots ++ g.hs) ++ g.qu).filter (fun z => decide (0 < z))
end Go.Proofs.YtkekaifiahjljaaGreatDoor
namespace Go.Proofs.YtkekaifiahjljaaGreatDoor
open Go.RowKit Go.Shelf Go.Proofs.YtkekaifiahjljaaGreatDoor.Lp
end Go.Proofs.YtkekaifiahjljaaGreatDoor
namespace Go.Proofs.YtkekaifiahjljaaGreatDoor
open Go.RowKit Go.Shelf
theorem mayBe_any (n0 : Nat) (w : World) (vo vs vh vr vq : Value) (os : List OL) (ts : List (Value × List (Value × List Int))) (g : Im.Gr) (hg : Grd n0 w vo vs vh vr vq os ts g) (hn : n0 ≤ w.heap.size) (hL : Laid w) (hl : Gln os ts g) :
    Calls Tryz.prog 25 #[.agg (gcs vo vs vh vr vq g.next)] w fun e w' => ∃ r : Bool, e = .returned (.bool r) ∧ Below w.heap.size w w' ∧ (r = true ↔ MB g) := by
  have l1 : Below w.heap.size w (w.alloc (.cells (gcs vo vs vh vr vq g.next) 27)) := Below.alloc (Below.refl _ _) (Nat.le_refl _) _
  have hx := heap_alloc_new w (.cells (gcs vo vs vh vr vq g.next) 27 (0, 0))
  generalize hW : w.alloc (.cells (gcs vo vs vh vr vq g.next) 27) = W at *
  have y0 : W.cell? ⟨w.heap.size, 0, none⟩ = some vo := Kg.heap_cell hx 0
  have y1 : W.cell? ⟨w.heap.size, 1, none⟩ = some vs := Kg.heap_cell hx 1
  have y2 : W.cell? ⟨w.heap.size, 2, none⟩ = some vh := Kg.heap_cell hx 2
  have y3 : W.cell? ⟨w.heap.size, 3, none⟩ = some vr := Kg.heap_cell hx 3
  have y4 : W.cell? ⟨w.heap.size, 4, none⟩ = some vq := Kg.heap_cell hx 4
  have y5 : W.cell? ⟨w.heap.size, 5, none⟩ = some (.int .u64 (g.next : Int)) := Kg.heap_cell hx 5
  have q := iCheck_any n0 W vo vs vh vr vq os ts g (hg.below (l1.mono hn)) (Nat.le_trans hn l1.size) (hL.keep l1) hl
  have HL1 : Hid _ := l1
  clear hg hL hl hx l1
  go_enter Tryz.func25, Tryz.ntmps25
  go_wp2_with fail
  refine q.mono ?_
  rintro e w1 ⟨r, rfl, b1, hr⟩
  have HB : Hid (Below w.heap.size w w1) := HL1.out.trans (b1.mono HL1.out.size)
  have HR : Hid ((r = 0 ∧ MB g) ∨ (r = 164 ∧ ¬ MB g)) := hr
  clear q b1 hr y0 y1 y2 y3 y4 y5
  go_wp2
  go_ret
  refine ⟨_, rfl, HB.out, ?_⟩
  rcases HR.out with ⟨rfl, h⟩ | ⟨rfl, h⟩
  · simp [h]
  · simp [h]
end Go.Proofs.YtkekaifiahjljaaGreatDoor
