import Derived.Test.YtlkengnefhhppaaGreatDoorPQe
import Derived.Test.YtlkengnefhhppaaGreatDoorPRa
set_option linter.unusedVariables false
set_option maxHeartbeats 8000000
set_option maxRecDepth 20000
namespace Go.Proofs.YtlkengnefhhppaaGreatDoor
open Go.RowKit Go.Shelf
def Frd (w : World) (F : List Nat) (v : Value) (xs : List Int) : Prop :=
 ∃ a cap, v = .slice a xs.length cap ∧ xs.length ≤ cap ∧ ∀ (f : Nat) z, xs[f]? = some z → ∃ q off, a = some ⟨q, off, none⟩ ∧ q < w.heap.size ∧ q ∉ F ∧ w.cell? ⟨q, off + f, none⟩ = some (.int .i64 z)
theorem Frd.lrd {w : World} {F : List Nat} {v : Value} {xs : List Int} (h : Frd w F v xs) : Lrd w.heap.size w v .i64 xs := by
 obtain ⟨a, cap, h1, h2, h3⟩ := h
 refine ⟨a, cap, h1, h2, fun f z hz => ?_⟩
 obtain ⟨q, off, e1, e2, -, e3⟩ := h3 f z hz
 exact ⟨q, off, e1, e2, e3⟩
theorem Frd.touch {w w' : World} {F F' G : List Nat} {v : Value} {xs : List Int} (h : Frd w F v xs) (t : Touch G w w') (hG : ∀ q, q ∈ G → q ∈ F) (hn : ∀ q, q ∈ F' → q ∈ F ∨ w.heap.size ≤ q) : Frd w' F' v xs := by
 obtain ⟨a, cap, h1, h2, h3⟩ := h
 refine ⟨a, cap, h1, h2, fun f z hz => ?_⟩
 obtain ⟨q, off, e1, e2, e3, e4⟩ := h3 f z hz
 refine ⟨q, off, e1, Nat.lt_of_lt_of_le e2 t.size, fun hm => ?_, (World.cell?_of_block (w := w) (t.block q e2 (fun hm => e3 (hG q hm)))).trans e4⟩
 rcases hn q hm with h | h
 ·exact e3 h
 ·omega
section
variable {W w w' : World} {base bb n : Nat} {F F' : List Nat} {P P' : World → Prop}
theorem Px.wr {Y len cap : Nat} {xs : List Int} (h : Px W w base bb n F P [some (.slice (some ⟨Y, 0, none⟩) len cap, xs)]) (hl : xs.length = len) (j : Nat) (z : Int) : Px W (w.setCell ⟨Y, j, none⟩ (.int .i64 z)) base bb n F P [some (.slice (some ⟨Y, 0, none⟩) len cap, xs.set j z)] := by
 subst hl
 obtain ⟨f, ys, K, ms, ds, h1, h2⟩ := h.ex
 have hfo := h2.fo 0 _ _ rfl Y rfl
 have hrow := h2.row 0 _ _ rfl
 have hlt := (hrow.lt Y rfl).1
 have t : Touch [Y] w (w.setCell ⟨Y, j, none⟩ (.int .i64 z)) := Touch.setCell _ _ _ (by simp)
 have nF : ∀ q, q ∈ F → q ∉ [Y] := fun q hq hm => by simp at hm; subst hm; exact hfo.2 hq
 have bG : ∀ k, k ∈ [Y] → base ≤ k := fun k hk => by simp at hk; omega
 have one : ∀ (i : Nat) v l, ([some (.slice (some ⟨Y, 0, none⟩) xs.length cap, xs.set j z)] : List (Option (Value × List Int)))[i]? = some (some (v, l)) → i = 0 ∧ v = .slice (some ⟨Y, 0, none⟩) xs.length cap ∧ l = xs.set j z := fun i v l hi => by
  match i, hi with
  | 0, hi => simp at hi; exact ⟨rfl, hi.1.symm, hi.2.symm⟩
 refine ⟨⟨f, ys, K, ms, ds, bok_touch h1 t.kg (fun k hk => by simp at hk; subst hk; exact hfo.1.2), ⟨fun i v l hi => ?_, fun i v l hi g hg => ?_, fun i k v l u m hi hk hne => ?_, fun k hk => ?_⟩⟩, h.s, h.s.keep _ _ _ h.p t nF bG, h.l, Nat.le_trans h.hb t.size, h.be.trans (t.below h.hb bG)⟩
 ·obtain ⟨rfl, rfl, rfl⟩ := one i v l hi
  show World.ownsRow _ _ _ _ _ _ _
  have h9 := Kg.row_set hrow j (.int .i64 z)
  rw [List.length_set]
  show World.ownsRow _ _ _ _ _ _ (List.map _ _)
  rw [List.map_set]
  exact h9
 ·obtain ⟨rfl, rfl, rfl⟩ := one i v l hi
  simp [Value.ownBlock] at hg
  subst hg
  exact ⟨⟨Nat.lt_of_lt_of_le hfo.1.1 t.size, hfo.1.2⟩, hfo.2⟩
 ·obtain ⟨rfl, -, -⟩ := one i v l hi
  obtain ⟨rfl, -, -⟩ := one k u m hk
  exact absurd rfl hne
 ·exact ⟨Nat.lt_of_lt_of_le (h2.ff k hk).1 t.size, (h2.ff k hk).2⟩
end
structure Pr (w1 : World) (n1 : Nat) (w : World) (pb lb sb b g mb vb rb : Nat) (rg : Nat → Nat) (bb : Nat) (c : Cfg) (L : List LT) (x : Tps) (sw : Bool) (m n R Z Y cap : Nat) (ls : List Int) (v : Value) (more : List Int) (lv rl : Value) (ws : Nat → Int) (th : List Tng) (l : List Int) : Prop where
 px : Px w1 w n1 bb m (aF pb sb b g mb lv vb rb rg rl) (fun w => Pm w1 n1 w pb lb sb b g mb lv vb rb rg rl bb c L x sw ws th l n (1000 * (m : Int))) [some (.slice (some ⟨Y, 0, none⟩) (ls.length + 40) cap, ls ++ mkt 40)]
 rr : ∃ cz, w.heap[R]? = some (.cells (rcells (.slice (some ⟨Z, 0, none⟩) 1 cz)) 114 (0, 0))
 rz : w.cell? ⟨Z, 0, none⟩ = some (.slice (some ⟨Y, 0, none⟩) (ls.length + 40) cap)
 nR : R ∉ aF pb sb b g mb lv vb rb rg rl
 nZ : Z ∉ aF pb sb b g mb lv vb rb rg rl
 nRY : R ≠ Y
 nZY : Z ≠ Y
 vm : Frd w (Y :: aF pb sb b g mb lv vb rb rg rl) v more
 ad : ∀ a, a ∈ more → Adr c x ws th a
section
variable {w1 w w' : World} {n1 pb lb sb b g mb n n' : Nat} {lv lv' : Value} {c : Cfg} {L : List LT} {x x' : Tps} {sw sw' : Bool} {ws ws' : Nat → Int} {th th' : List Tng} {l l' : List Int} {vb rb bb m : Nat} {rg : Nat → Nat} {rl rl' : Value} {R Z Y cap : Nat} {ls : List Int} {v : Value} {more : List Int}
theorem Pr.row (H : Pr w1 n1 w pb lb sb b g mb vb rb rg bb c L x sw m n R Z Y cap ls v more lv rl ws th l) : w.ownsRow 0 3 1 (.slice (some ⟨Y, 0, none⟩) (ls.length + 40) cap) (ls.length + 40) (ints (ls ++ mkt 40)) := by
 have h := row_zero0 (H.px.row (i := 0) rfl)
 have e : (ls ++ mkt 40).length = ls.length + 40 := by rw [List.length_append, mkt_len]
 rw [e] at h
 exact h
theorem Pr.at_ (H : Pr w1 n1 w pb lb sb b g mb vb rb rg bb c L x sw m n R Z Y cap ls v more lv rl ws th l) {j : Nat} {z : Int} (hz : (ls ++ mkt 40)[j]? = some z) : w.cell? ⟨Y, j, none⟩ = some (.int .i64 z) := by
 obtain ⟨a, cp, h1, -, h3⟩ := row_at H.row (by decide)
 simp at h1
 obtain ⟨y, h4, -, h5⟩ := h3 j (.int .i64 z) (by rw [List.getElem?_map, hz]; rfl)
 rw [← h1.1] at h4
 simp at h4
 subst h4
 exact h5
theorem Pr.ltY (H : Pr w1 n1 w pb lb sb b g mb vb rb rg bb c L x sw m n R Z Y cap ls v more lv rl ws th l) : Y < w.heap.size := row_lt H.row Y rfl
theorem Pr.lrd (H : Pr w1 n1 w pb lb sb b g mb vb rb rg bb c L x sw m n R Z Y cap ls v more lv rl ws th l) : Lrd w.heap.size w (.slice (some ⟨Y, 0, none⟩) ls.length (ls.length + 40)) .i64 ls :=
 ⟨_, _, rfl, by omega, fun f z hz => ⟨Y, 0, rfl, H.ltY, by rw [Nat.zero_add]; exact H.at_ (by rw [List.getElem?_append_left (List.getElem?_eq_some_iff.1 hz).1]; exact hz)⟩⟩
theorem Pr.below (H : Pr w1 n1 w pb lb sb b g mb vb rb rg bb c L x sw m n R Z Y cap ls v more lv rl ws th l) (h : Below w.heap.size w w') : Pr w1 n1 w' pb lb sb b g mb vb rb rg bb c L x sw m n R Z Y cap ls v more lv rl ws th l := by
 obtain ⟨cz, hrr⟩ := H.rr
 have hR := (Array.getElem?_eq_some_iff.1 hrr).1
 have hZ := World.block_lt_of_cell? _ _ H.rz
 exact ⟨H.px.below h, ⟨cz, (h.block R hR).trans hrr⟩, (h.cell (p := ⟨Z, 0, none⟩) hZ).trans H.rz, H.nR, H.nZ, H.nRY, H.nZY, H.vm.touch (Touch.of_below h []) (by simp) (fun q hq => .inl hq), H.ad⟩
theorem Pr.set (H : Pr w1 n1 w pb lb sb b g mb vb rb rg bb c L x sw m n R Z Y cap ls v more lv rl ws th l) (j : Nat) (z : Int) (hj : j < ls.length) : Pr w1 n1 (w.setCell ⟨Y, j, none⟩ (.int .i64 z)) pb lb sb b g mb vb rb rg bb c L x sw m n R Z Y cap (ls.set j z) v more lv rl ws th l := by
 have t : Touch [Y] w (w.setCell ⟨Y, j, none⟩ (.int .i64 z)) := Touch.setCell _ _ _ (by simp)
 obtain ⟨cz, hrr⟩ := H.rr
 have hR := (Array.getElem?_eq_some_iff.1 hrr).1
 have hZ := World.block_lt_of_cell? _ _ H.rz
 have hx := H.px.wr (by rw [List.length_append, mkt_len]) j z
 rw [List.set_append_left _ _ hj] at hx
 refine ⟨by rw [List.length_set]; exact hx, ⟨cz, (t.block R hR (by simp; exact H.nRY)).trans hrr⟩, ?_, H.nR, H.nZ, H.nRY, H.nZY, H.vm.touch t (fun q hq => by simp at hq; simp [hq]) (fun q hq => .inl hq), H.ad⟩
 rw [List.length_set]
 exact (World.cell?_of_block (w := w) (t.block Z hZ (by simp; exact H.nZY))).trans H.rz
theorem Pr.thaw (H : Pr w1 n1 w pb lb sb b g mb vb rb rg bb c L x sw m n R Z Y cap ls v more lv rl ws th l) (j : Nat) : w.frozen? ⟨Y, j, none⟩ = false := by
 rcases H.row.2 with ⟨e, -⟩ | ⟨g5, cap5, cur5, e1, -, hy, -⟩
 ·simp at e
 ·simp at e1
  unfold World.frozen?
  rw [← e1.1] at hy
  simp only [hy]
  simp
theorem Pr.next (H : Pr w1 n1 w pb lb sb b g mb vb rb rg bb c L x sw m n R Z Y cap ls v more lv rl ws th l) {k : Nat} (hN : Np6 w1 n1 w sb b g mb lv vb rb rg rl c x sw ws th n k w') : ∃ lv' rl' ws' th' l', Pr w1 n1 w' pb lb sb b g mb vb rb rg bb c L x sw m (n + k) R Z Y cap ls v more lv' rl' ws' th' l' := by
 obtain ⟨lv', rl', ws', th', l', n', B, t, hn, hk, hat, had⟩ := hN
 obtain ⟨cz, hrr⟩ := H.rr
 have hR := (Array.getElem?_eq_some_iff.1 hrr).1
 have hZ := World.block_lt_of_cell? _ _ H.rz
 have nw : ∀ q, q ∈ aF pb sb b g mb lv' vb rb rg rl' → q ∈ aF pb sb b g mb lv vb rb rg rl ∨ w.heap.size ≤ q := fun q hq => by
  rcases List.mem_cons.1 hq with rfl | hq
  ·exact .inl (List.mem_cons_self ..)
  ·rcases hn q hq with h1 | h1
   ·exact .inl (List.mem_cons_of_mem _ h1)
   ·exact .inr h1
 have np : ∀ q, q < w.heap.size → q ∉ aF pb sb b g mb lv vb rb rg rl → q ∉ aF pb sb b g mb lv' vb rb rg rl' := fun q h1 h2 h3 => by
  rcases nw q h3 with h4 | h4
  ·exact h2 h4
  ·omega
 refine ⟨lv', rl', ws', th', l', (H.px.next B t hn hat).mono hk, ⟨cz, (t.block R hR (fun hm => H.nR (List.mem_cons_of_mem _ hm))).trans hrr⟩, (World.cell?_of_block (w := w) (t.block Z hZ (fun hm => H.nZ (List.mem_cons_of_mem _ hm)))).trans H.rz, np R hR H.nR, np Z hZ H.nZ, H.nRY, H.nZY, H.vm.touch t (fun q hq => List.mem_cons_of_mem _ (List.mem_cons_of_mem _ hq)) (fun q hq => ?_), fun a ha => had a (H.ad a ha)⟩
 rcases List.mem_cons.1 hq with rfl | hq
 ·exact .inl (List.mem_cons_self ..)
 ·rcases nw q hq with h1 | h1
  ·exact .inl (List.mem_cons_of_mem _ h1)
  ·exact .inr h1
theorem Pr.rr_ (H : Pr w1 n1 w pb lb sb b g mb vb rb rg bb c L x sw m n R Z Y cap ls v more lv rl ws th l) : Rr w R Z Y cap (ls ++ mkt 40) := by
 have e : (ls ++ mkt 40).length = ls.length + 40 := by rw [List.length_append, mkt_len]
 exact ⟨H.rr, by rw [e]; exact H.rz, by rw [e]; exact H.row⟩
end
theorem row_up {w : World} {n e s B : Nat} {v : Value} {xs : List Value} (h : w.ownsRow 0 e s v n xs) (hB : ∀ q, v.ownBlock = some q → B ≤ q) : w.ownsRow B e s v n xs := by
 refine ⟨h.1, ?_⟩
 rcases h.2 with h | ⟨g5, cap5, cur5, e1, -, e2⟩
 ·exact .inl h
 ·exact .inr ⟨g5, cap5, cur5, e1, hB g5 (by rw [e1]; rfl), e2⟩
theorem zk_set (more : List Int) (k : Nat) (hk : k < more.length) : (List.replicate k (0 : Int) ++ more.drop k).set k 0 = List.replicate (k + 1) (0 : Int) ++ more.drop (k + 1) := by
 rw [List.set_append_right _ _ (by simp), List.length_replicate, Nat.sub_self, List.drop_eq_getElem_cons hk, List.set_cons_zero, List.replicate_succ', List.append_assoc]
 rfl
theorem mk_set (more : List Int) (k : Nat) (a : Int) (hk : more[k]? = some a) : (more.take k ++ List.replicate (more.length - k) (0 : Int)).set k a = more.take (k + 1) ++ List.replicate (more.length - (k + 1)) (0 : Int) := by
 have hl := (List.getElem?_eq_some_iff.1 hk).1
 have hlt : (more.take k).length = k := by simp; omega
 rw [List.set_append_right _ _ (by omega), hlt, Nat.sub_self, show more.length - k = (more.length - (k + 1)) + 1 by omega, List.replicate_succ, List.set_cons_zero, List.take_add_one, hk, List.append_assoc]
 rfl
section
variable {w1 w w' : World} {n1 pb lb sb b g mb n n' : Nat} {lv lv' : Value} {c : Cfg} {L : List LT} {x x' : Tps} {sw sw' : Bool} {ws ws' : Nat → Int} {th th' : List Tng} {l l' : List Int} {vb rb bb m : Nat} {rg : Nat → Nat} {rl rl' : Value} {R Z Y cap : Nat} {ls : List Int} {v : Value} {more : List Int}
theorem Pr.nY (H : Pr w1 n1 w pb lb sb b g mb vb rb rg bb c L x sw m n R Z Y cap ls v more lv rl ws th l) : Y ∉ aF pb sb b g mb lv vb rb rg rl := by
 obtain ⟨f, xs, K, ms, ds, h1, h2⟩ := H.px.ex
 exact (h2.fo 0 _ _ rfl Y rfl).2
theorem Pr.frd (H : Pr w1 n1 w pb lb sb b g mb vb rb rg bb c L x sw m n R Z Y cap ls v more lv rl ws th l) : Frd w (aF pb sb b g mb lv vb rb rg rl) (.slice (some ⟨Y, 0, none⟩) ls.length (ls.length + 40)) ls :=
 ⟨_, _, rfl, by omega, fun f z hz => ⟨Y, 0, rfl, H.ltY, H.nY, by rw [Nat.zero_add]; exact H.at_ (by rw [List.getElem?_append_left (List.getElem?_eq_some_iff.1 hz).1]; exact hz)⟩⟩
theorem Pr.done (H : Pr w1 n1 w pb lb sb b g mb vb rb rg bb c L x sw m n R Z Y cap ls v more lv rl ws th l) (h : n ≤ n') : Ps w1 n1 w pb lb sb b g mb vb rb rg bb c L m n' :=
 ⟨lv, rl, x, sw, ws, th, l, (H.px.drop 0).mono h⟩
theorem Pr.start (P : Px w1 w n1 bb m (aF pb sb b g mb lv vb rb rg rl) (fun w => Pm w1 n1 w pb lb sb b g mb lv vb rb rg rl bb c L x sw ws th l n (1000 * (m : Int))) [none]) (hvm : Frd w (aF pb sb b g mb lv vb rb rg rl) v more) (had : ∀ a, a ∈ more → Adr c x ws th a) (hb : Below w.heap.size w w') (hr : Rr w' R Z Y cap (more ++ mkt 40)) (hR : w.heap.size ≤ R) (hZ : w.heap.size ≤ Z) (hY : w.heap.size ≤ Y) (hRY : R ≠ Y) (hZY : Z ≠ Y) :
  Pr w1 n1 w' pb lb sb b g mb vb rb rg bb c L x sw m n R Z Y cap more v more lv rl ws th l := by
 have e : (more ++ mkt 40).length = more.length + 40 := by rw [List.length_append, mkt_len]
 have hlt := P.s.lt _ P.p
 have hrow : Kg.Row w' w.heap.size (.slice (some ⟨Y, 0, none⟩) (more.length + 40) cap) (more ++ mkt 40) := by
  have h := row_up (B := w.heap.size) hr.row (fun q hq => by simp [Value.ownBlock] at hq; omega)
  rw [e] at h
  show World.ownsRow _ _ _ _ _ _ _
  rw [e]
  exact h
 refine ⟨P.newB hb hrow 0, hr.own, by rw [← e]; exact hr.one, fun hm => ?_, fun hm => ?_, hRY, hZY, hvm.touch (Touch.of_below hb []) (by simp) (fun q hq => ?_), had⟩
 ·have := hlt R hm; omega
 ·have := hlt Z hm; omega
 ·rcases List.mem_cons.1 hq with rfl | hq
  ·exact .inr hY
  ·exact .inl hq
theorem adr_zero (H : Hp c x ws th) (w : World) : Adr c x ws th 0 := .inr ⟨fun T hT e => by have := H.pos w hT; omega, at_zero c x ws⟩
set_option maxHeartbeats 16000000 in
theorem prune6_px (P : Px w1 w n1 bb m (aF pb sb b g mb lv vb rb rg rl) (fun w => Pm w1 n1 w pb lb sb b g mb lv vb rb rg rl bb c L x sw ws th l n (1000 * (m : Int))) [none]) (hvm : Frd w (aF pb sb b g mb lv vb rb rg rl) v more) (hin : ∀ a, a ∈ more → InI a) (hml : more.length ≤ 1048576) (hn : n ≤ 288230376151711744) :
  Calls Tryz.prog 20 #[.pointer (some ⟨pb, 0, none⟩), v] w fun e w' => e = .returned (.bool true) ∧ Ps w1 n1 w' pb lb sb b g mb vb rb rg bb c L m (n + 4194304) := by
 have HP : Hid (Px w1 w n1 bb m (aF pb sb b g mb lv vb rb rg rl) (fun w => Pm w1 n1 w pb lb sb b g mb lv vb rb rg rl bb c L x sw ws th l n (1000 * (m : Int))) [none]) := P
 have HV : Hid (Frd w (aF pb sb b g mb lv vb rb rg rl) v more) := hvm
 have Hin : Hid (∀ a, a ∈ more → InI a) := hin
 obtain ⟨av, cv, rfl, -, -⟩ := hvm
 clear P hin
 go_enter Tryz.func20, Tryz.ntmps20
 go_wp2
 go_loopw [5] (fun v5 wr => ∃ k : Nat, k ≤ more.length ∧ v5 = .int .i64 k ∧ Hid (Px w1 wr n1 bb m (aF pb sb b g mb lv vb rb rg rl) (fun w => Pm w1 n1 w pb lb sb b g mb lv vb rb rg rl bb c L x sw ws th l n (1000 * (m : Int))) [none]) ∧ Hid (Frd wr (aF pb sb b g mb lv vb rb rg rl) (.slice av more.length cv) more) ∧ Hid (∀ j a, j < k → more[j]? = some a → Adr c x ws th a)) (fun v5 _ => more.length - (intOf v5).toNat)
 case atStart => exact ⟨0, Nat.zero_le _, rfl, HP, HV, (fun j a hj => by omega : ∀ j a, j < 0 → more[j]? = some a → Adr c x ws th a)⟩
 case round =>
  obtain ⟨k, hk, rfl, HQ, HW, HA⟩ := hrel
  clear HP HV
  by_cases hkl : k < more.length
  ·have hkI : (k : Int) < (more.length : Int) := by omega
   have hak : more[k]? = some (more[k]'hkl) := List.getElem?_eq_getElem hkl
   generalize more[k]'hkl = a at hak
   have Hak : Hid (more[k]? = some a) := hak
   obtain ⟨a0, cp0, e0, -, hcs⟩ := HW.out
   simp at e0
   obtain ⟨q, off, e1, -, -, hcell⟩ := hcs k a hak
   rw [← e0.1] at e1
   subst e1
   have hs := seems6_any (HQ.out.p.cell 3) HQ.out.p.bo.dx.rx a
   clear hak hcs e0
   go_wp2_with fail
   refine hs.mono ?_
   rintro e w2 ⟨bs, rfl, hbs, l2⟩
   have HQ2 : Hid (Px w1 w2 n1 bb m (aF pb sb b g mb lv vb rb rg rl) (fun w => Pm w1 n1 w pb lb sb b g mb lv vb rb rg rl bb c L x sw ws th l n (1000 * (m : Int))) [none]) := HQ.out.below l2
   have HW2 : Hid (Frd w2 (aF pb sb b g mb lv vb rb rg rl) (.slice (some ⟨q, off, none⟩) more.length cv) more) := HW.out.touch (Touch.of_below l2 []) (by simp) (fun q hq => .inl hq)
   have Hbs : Hid (bs = false → Adr c x ws th a) := hbs
   clear hs hbs l2 HQ HW hcell
   cases bs
   case true =>
    have HE : Hid (Ps w1 n1 w2 pb lb sb b g mb vb rb rg bb c L m (n + 4194304)) := Ps.mono ⟨lv, rl, x, sw, ws, th, l, HQ2.out⟩ (by omega)
    go_wp2
    go_ret
    exact ⟨rfl, HE.out⟩
   have HA2 : Hid (∀ j a, j < k + 1 → more[j]? = some a → Adr c x ws th a) := fun j y hj hy => by
    by_cases e : j = k
    ·subst e
     rw [Hak.out] at hy
     simp at hy
     rw [← hy]
     exact Hbs.out rfl
    ·exact HA.out j y (by omega) hy
   clear Hbs HA Hak
   go_wp2
   go_roundw
   case rel => exact ⟨k + 1, by omega, by go_num, HQ2, HW2, HA2⟩
   case measure => simp [intOf]; omega
  ·have hkn : ¬ (k : Int) < (more.length : Int) := by omega
   have hke : k = more.length := by omega
   have Had : Hid (∀ a, a ∈ more → Adr c x ws th a) := fun a ha => by
    obtain ⟨j, hj⟩ := List.getElem?_of_mem ha
    exact HA.out j a (by have := (List.getElem?_eq_some_iff.1 hj).1; omega) hj
   clear HA hke
   go_upto_region 7 with fail
   have b1 : Below wr.heap.size wr (wr.alloc (.cells (rcells (.slice none 0 0)) 114)) := Below.alloc (Below.refl _ _) (Nat.le_refl _) _
   have hR0 : (wr.alloc (.cells (rcells (.slice none 0 0)) 114)).heap[wr.heap.size]? = some (.cells (rcells (.slice none 0 0)) 114 (0, 0)) := heap_alloc_new wr _
   have hri := roomInts_any hR0 (.slice av more.length cv) more ((HW.out.lrd.below b1).mono b1.size) (by omega)
   have hR1 : wr.heap.size < (wr.alloc (.cells (rcells (.slice none 0 0)) 114)).heap.size := (Array.getElem?_eq_some_iff.1 hR0).1
   generalize wr.alloc (.cells (rcells (.slice none 0 0)) 114) = w3 at *
   obtain ⟨R, hR⟩ : ∃ R, R = wr.heap.size := ⟨_, rfl⟩
   rw [← hR] at hri ⊢
   have HR : Hid (R = wr.heap.size) := hR
   clear hR hR0
   go_wp2_with fail
   refine hri.mono ?_
   rintro e w4 ⟨Z, Y, cap, rfl, hrr, hZ, hY, hZY, t4⟩
   have H4 : Hid (Pr w1 n1 w4 pb lb sb b g mb vb rb rg bb c L x sw m (n) R Z Y cap (more) (.slice av more.length cv) more lv rl ws th l) := Pr.start HQ.out HW.out Had.out (b1.trans (t4.below b1.size (fun q hq => by simp at hq; have := HR.out; omega))) hrr (by have := HR.out; omega) (by omega) (by omega) (by have := HR.out; omega) hZY
   clear hri hrr hZ hY hZY t4 b1 hR1 HQ HW Had HR
   by_cases hpar : more.length % 2 = 1
   ·have hp2 : Int.tmod (more.length : Int) 2 = 1 := by rw [Int.tmod_eq_emod_of_nonneg (by omega)]; omega
    have H5 : Hid (Pr w1 n1 w4 pb lb sb b g mb vb rb rg bb c L x sw m (n) R Z Y cap (List.replicate 0 (0 : Int) ++ more.drop 0) (.slice av more.length cv) more lv rl ws th l) := H4.out
    clear H4
    go_wp2
    go_loopw [8] (fun v8 w5 => ∃ k : Nat, k ≤ more.length ∧ v8 = .int .i64 k ∧ Hid (Pr w1 n1 w5 pb lb sb b g mb vb rb rg bb c L x sw m (n) R Z Y cap (List.replicate k (0 : Int) ++ more.drop k) (.slice av more.length cv) more lv rl ws th l)) (fun v8 _ => more.length - (intOf v8).toNat)
    case atStart => exact ⟨0, Nat.zero_le _, rfl, H5⟩
    case round =>
     obtain ⟨k2, hk2, rfl, H6⟩ := hrel
     clear H5
     by_cases hkl2 : k2 < more.length
     ·have hkI2 : (k2 : Int) < (more.length : Int) := by omega
      have hll : (List.replicate k2 (0 : Int) ++ more.drop k2).length = more.length := by simp; omega
      obtain ⟨z, hz⟩ : ∃ z, (List.replicate k2 (0 : Int) ++ more.drop k2)[k2]? = some z := ⟨_, List.getElem?_eq_getElem (by omega)⟩
      have hcell : wr.cell? ⟨Y, k2, none⟩ = some (.int .i64 z) := H6.out.at_ (by rw [List.getElem?_append_left (by omega)]; exact hz)
      have hthaw : wr.frozen? ⟨Y, k2, none⟩ = false := H6.out.thaw k2
      have H7 : Hid (Pr w1 n1 (wr.setCell ⟨Y, k2, none⟩ (.int .i64 0)) pb lb sb b g mb vb rb rg bb c L x sw m (n) R Z Y cap (List.replicate (k2 + 1) (0 : Int) ++ more.drop (k2 + 1)) (.slice av more.length cv) more lv rl ws th l) := by
       have h9 := H6.out.set k2 0 (by omega)
       rw [zk_set more k2 hkl2] at h9
       exact h9
      clear hz hll H6
      go_wp2
      go_roundw
      case rel => exact ⟨k2 + 1, by omega, by go_num, H7⟩
      case measure => simp [intOf]; omega
     ·have hkn2 : ¬ (k2 : Int) < (more.length : Int) := by omega
      obtain ⟨zs, hzs⟩ : ∃ zs, zs = List.replicate more.length (0 : Int) := ⟨_, rfl⟩
      have hzl : zs.length = more.length := by rw [hzs]; simp
      have H7 : Hid (Pr w1 n1 wr pb lb sb b g mb vb rb rg bb c L x sw m (n) R Z Y cap (zs) (.slice av more.length cv) more lv rl ws th l) := by
       have h9 := H6.out
       have e : k2 = more.length := by omega
       rw [e, List.drop_length, List.append_nil, ← hzs] at h9
       exact h9
      have Hzs : Hid (zs = List.replicate more.length (0 : Int)) := hzs
      have Hz0 : Hid (∀ a, a ∈ zs → a = 0) := fun a ha => by rw [hzs] at ha; exact (List.mem_replicate.1 ha).2
      clear H6 hzs
      have hpr := H7.out.px.p.bo.prune (.slice (some ⟨Y, 0, none⟩) zs.length (zs.length + 40)) zs H7.out.lrd (fun a ha => by rw [Hz0.out a ha]; exact adr_zero H7.out.px.p.bo.dx.rx.hp wr) (fun a ha => by rw [Hz0.out a ha]; exact ⟨by decide, by decide⟩) (by omega) (by omega)
      have k2 : wr.cell? ⟨pb, 2, none⟩ = some (.pointer (some ⟨sb, 0, none⟩)) := H7.out.px.p.cell 2
      have k4 : wr.cell? ⟨pb, 4, none⟩ = some (.pointer (some ⟨vb, 0, none⟩)) := H7.out.px.p.cell 4
      have Hnp : Hid (pb ∉ pF sb b g mb lv ++ dF vb rb rg rl ∧ pb < wr.heap.size) := ⟨H7.out.px.p.np, H7.out.px.p.lt⟩
      rw [hzl] at hpr
      go_wp2_with fail
      refine hpr.mono ?_
      rintro e w8 ⟨rfl, t8, hd⟩
      have k4' : w8.cell? ⟨pb, 4, none⟩ = some (.pointer (some ⟨vb, 0, none⟩)) := (World.cell?_of_block (w := wr) (t8.block pb Hnp.out.2 (fun hm => Hnp.out.1 (List.mem_append.2 (.inl hm))))).trans k4
      have hf8 := H7.out.frd.touch (F' := aF pb sb b g mb lv vb rb rg rl) t8 (fun q hq => List.mem_cons_of_mem _ (List.mem_append.2 (.inl hq))) (fun q hq => .inl hq)
      have hd8 := hd w8 _ (Below.refl _ _) hf8.lrd
      rw [hzl] at hd8
      clear hpr k2 k4 hd t8 hf8
      go_wp2_with fail
      refine hd8.mono ?_
      rintro e w9 ⟨rfl, hN⟩
      obtain ⟨lv2, rl2, ws2, th2, l2, P9⟩ := H7.out.next hN
      have H9 : Hid (Pr w1 n1 w9 pb lb sb b g mb vb rb rg bb c L x sw m (n + (262145 + more.length)) R Z Y cap (more.take 0 ++ List.replicate (more.length - 0) (0 : Int)) (.slice av more.length cv) more lv2 rl2 ws2 th2 l2) := by
       have h9 := P9
       rw [Hzs.out] at h9
       show Pr _ _ _ _ _ _ _ _ _ _ _ _ _ _ _ _ _ _ _ _ _ _ _ _ _ _ _ _ _ _ _
       rw [List.take_zero, List.nil_append, Nat.sub_zero]
       exact h9
      clear hd8 hN P9 H7 k4' Hz0 Hzs Hnp hzl
      obtain ⟨n0, hn0⟩ : ∃ n0, n0 = n + (262145 + more.length) := ⟨_, rfl⟩
      have Hn0 : Hid (n0 ≤ n + 1310721) := by show _ ≤ _; omega
      have hnb : n0 ≤ 576460752303423488 := by omega
      rw [← hn0] at H9
      clear hn0
      go_wp2
      go_loopw [9] (fun v9 w5 => ∃ k : Nat, k ≤ more.length ∧ v9 = .int .i64 k ∧ Hid (Pr w1 n1 w5 pb lb sb b g mb vb rb rg bb c L x sw m (n0) R Z Y cap (more.take k ++ List.replicate (more.length - k) (0 : Int)) (.slice av more.length cv) more lv2 rl2 ws2 th2 l2)) (fun v9 _ => more.length - (intOf v9).toNat)
      case atStart => exact ⟨0, Nat.zero_le _, rfl, H9⟩
      case round =>
       obtain ⟨k3, hk3, rfl, H6⟩ := hrel
       clear H9
       by_cases hkl3 : k3 < more.length
       ·have hkI3 : (k3 : Int) < (more.length : Int) := by omega
        have hak : more[k3]? = some (more[k3]'hkl3) := List.getElem?_eq_getElem hkl3
        generalize more[k3]'hkl3 = a at hak
        have hlt : (more.take k3).length = k3 := by simp; omega
        have hcell : wr.cell? ⟨Y, k3, none⟩ = some (.int .i64 0) := H6.out.at_ (by
         rw [List.getElem?_append_left (by simp; omega), List.getElem?_append_right (by omega), hlt, Nat.sub_self, List.getElem?_replicate, if_pos (by omega)])
        have hthaw : wr.frozen? ⟨Y, k3, none⟩ = false := H6.out.thaw k3
        obtain ⟨a0, cp0, e0, -, hcs⟩ := H6.out.vm
        simp at e0
        obtain ⟨q, off, e1, -, -, hmc⟩ := hcs k3 a hak
        rw [← e0.1] at e1
        subst e1
        have H7 : Hid (Pr w1 n1 (wr.setCell ⟨Y, k3, none⟩ (.int .i64 a)) pb lb sb b g mb vb rb rg bb c L x sw m (n0) R Z Y cap (more.take (k3 + 1) ++ List.replicate (more.length - (k3 + 1)) (0 : Int)) (.slice (some ⟨q, off, none⟩) more.length cv) more lv2 rl2 ws2 th2 l2) := by
         have h9 := H6.out.set k3 a (by simp; omega)
         rw [mk_set more k3 a hak] at h9
         exact h9
        clear hak hlt hcs e0 H6
        go_wp2
        go_roundw
        case rel => exact ⟨k3 + 1, by omega, by go_num, H7⟩
        case measure => simp [intOf]; omega
       ·have hkn3 : ¬ (k3 : Int) < (more.length : Int) := by omega
        have H9 : Hid (Pr w1 n1 wr pb lb sb b g mb vb rb rg bb c L x sw m (n0) R Z Y cap (more) (.slice av more.length cv) more lv2 rl2 ws2 th2 l2) := by
         have h9 := H6.out
         have e : k3 = more.length := by omega
         rw [e, List.take_length, Nat.sub_self, List.replicate_zero, List.append_nil] at h9
         exact h9
        obtain ⟨w9, hw9⟩ : ∃ w9, w9 = wr := ⟨_, rfl⟩
        subst hw9
        clear H6
        go_upto_region 21 with fail
        have hpr := H9.out.px.p.bo.prune (.slice (some ⟨Y, 0, none⟩) more.length (more.length + 40)) more H9.out.lrd H9.out.ad Hin.out (by omega) (by omega)
        have k2 : w9.cell? ⟨pb, 2, none⟩ = some (.pointer (some ⟨sb, 0, none⟩)) := H9.out.px.p.cell 2
        have k4 : w9.cell? ⟨pb, 4, none⟩ = some (.pointer (some ⟨vb, 0, none⟩)) := H9.out.px.p.cell 4
        have Hnp : Hid (pb ∉ pF sb b g mb lv2 ++ dF vb rb rg rl2 ∧ pb < w9.heap.size) := ⟨H9.out.px.p.np, H9.out.px.p.lt⟩
        go_wp2_with fail
        refine hpr.mono ?_
        rintro e w10 ⟨rfl, t10, hd⟩
        have k4' : w10.cell? ⟨pb, 4, none⟩ = some (.pointer (some ⟨vb, 0, none⟩)) := (World.cell?_of_block (w := w9) (t10.block pb Hnp.out.2 (fun hm => Hnp.out.1 (List.mem_append.2 (.inl hm))))).trans k4
        have hf10 := H9.out.vm.touch (F' := Y :: aF pb sb b g mb lv2 vb rb rg rl2) t10 (fun q hq => List.mem_cons_of_mem _ (List.mem_cons_of_mem _ (List.mem_append.2 (.inl hq)))) (fun q hq => .inl hq)
        have hd10 := hd w10 _ (Below.refl _ _) hf10.lrd
        clear hpr k2 k4 hd t10 hf10
        go_wp2_with fail
        refine hd10.mono ?_
        rintro e w11 ⟨rfl, hN⟩
        obtain ⟨lv3, rl3, ws3, th3, l3, P11⟩ := H9.out.next hN
        have H11 : Hid (Pr w1 n1 w11 pb lb sb b g mb vb rb rg bb c L x sw m (n0 + (262145 + more.length)) R Z Y cap (more) (.slice av more.length cv) more lv3 rl3 ws3 th3 l3) := P11
        have hsm := sameInts6_yes (.slice (some ⟨Y, 0, none⟩) more.length (more.length + 40)) (.slice av more.length cv) more w11.heap.size w11 H11.out.lrd H11.out.vm.lrd (Nat.le_refl _) (by omega)
        clear hd10 hN P11 H9 k4' Hnp
        go_wp2_with fail
        refine hsm.mono ?_
        rintro e w12 ⟨rfl, l12⟩
        have H12 : Hid (Pr w1 n1 w12 pb lb sb b g mb vb rb rg bb c L x sw m (n0 + (262145 + more.length)) R Z Y cap (more) (.slice av more.length cv) more lv3 rl3 ws3 th3 l3) := H11.out.below l12
        have hho := roomHold_any H12.out.rr_ rfl (by omega)
        clear hsm l12 H11
        go_wp2_with fail
        refine hho.mono ?_
        rintro e w13 ⟨rfl, l13⟩
        have H13 : Hid (Pr w1 n1 w13 pb lb sb b g mb vb rb rg bb c L x sw m (n0 + (262145 + more.length)) R Z Y cap (more) (.slice av more.length cv) more lv3 rl3 ws3 th3 l3) := H12.out.below l13
        clear hho l13 H12
        go_wp2
        go_loopw [10] (fun v10 w14 => ∃ k : Nat, k ≤ more.length ∧ v10 = .int .i64 k ∧ ∃ ls, ls.length = more.length ∧ Hid (Pr w1 n1 w14 pb lb sb b g mb vb rb rg bb c L x sw m (n0 + (262145 + more.length)) R Z Y cap (ls) (.slice av more.length cv) more lv3 rl3 ws3 th3 l3)) (fun v10 _ => more.length - (intOf v10).toNat)
        case atStart => exact ⟨0, Nat.zero_le _, rfl, more, rfl, H13⟩
        case round =>
         obtain ⟨k9, hk9, rfl, ls, hls, H14⟩ := hrel
         clear H13
         by_cases hkl9 : k9 < more.length
         ·have hkI9 : (k9 : Int) < (more.length : Int) := by omega
          obtain ⟨z, hz⟩ : ∃ z, ls[k9]? = some z := ⟨_, List.getElem?_eq_getElem (by omega)⟩
          have hcell : wr.cell? ⟨Y, k9, none⟩ = some (.int .i64 z) := H14.out.at_ (by rw [List.getElem?_append_left (by omega)]; exact hz)
          have hthaw : wr.frozen? ⟨Y, k9, none⟩ = false := H14.out.thaw k9
          have H15 : Hid (Pr w1 n1 (wr.setCell ⟨Y, k9, none⟩ (.int .i64 (-7))) pb lb sb b g mb vb rb rg bb c L x sw m (n0 + (262145 + more.length)) R Z Y cap (ls.set k9 (-7)) (.slice av more.length cv) more lv3 rl3 ws3 th3 l3) := H14.out.set k9 (-7) (by omega)
          have Hls : Hid ((ls.set k9 (-7)).length = more.length) := by show _ = _; rw [List.length_set]; exact hls
          clear hz H14 hls
          go_wp2
          go_roundw
          case rel => exact ⟨k9 + 1, by omega, by go_num, _, Hls.out, H15⟩
          case measure => simp [intOf]; omega
         ·have hkn9 : ¬ (k9 : Int) < (more.length : Int) := by omega
          have HE : Hid (Ps w1 n1 wr pb lb sb b g mb vb rb rg bb c L m (n + 4194304)) := H14.out.done (by have := Hn0.out; omega)
          clear H14 hls
          go_wp2
          go_ret
          exact ⟨rfl, HE.out⟩
   ·have hp2 : Int.tmod (more.length : Int) 2 = 0 := by rw [Int.tmod_eq_emod_of_nonneg (by omega)]; omega
    have hn2 : n ≤ 432345564227567616 := by omega
    have Hnn : Hid (n ≤ n + 1310721) := by show _ ≤ _; omega
    obtain ⟨n0, hn0⟩ : ∃ n0, n0 = n := ⟨_, rfl⟩
    have H9 : Hid (Pr w1 n1 w4 pb lb sb b g mb vb rb rg bb c L x sw m (n0) R Z Y cap (more) (.slice av more.length cv) more lv rl ws th l) := by rw [hn0]; exact H4.out
    have Hn0 : Hid (n0 ≤ n + 1310721) := by rw [hn0]; exact Hnn
    have hnb : n0 ≤ 576460752303423488 := by omega
    clear H4 Hnn hn0 hn2
    obtain ⟨w9, hw9⟩ : ∃ w9, w9 = w4 := ⟨_, rfl⟩
    subst hw9
    go_upto_region 21 with fail
    have hpr := H9.out.px.p.bo.prune (.slice (some ⟨Y, 0, none⟩) more.length (more.length + 40)) more H9.out.lrd H9.out.ad Hin.out (by omega) (by omega)
    have k2 : w9.cell? ⟨pb, 2, none⟩ = some (.pointer (some ⟨sb, 0, none⟩)) := H9.out.px.p.cell 2
    have k4 : w9.cell? ⟨pb, 4, none⟩ = some (.pointer (some ⟨vb, 0, none⟩)) := H9.out.px.p.cell 4
    have Hnp : Hid (pb ∉ pF sb b g mb lv ++ dF vb rb rg rl ∧ pb < w9.heap.size) := ⟨H9.out.px.p.np, H9.out.px.p.lt⟩
    go_wp2_with fail
    refine hpr.mono ?_
    rintro e w10 ⟨rfl, t10, hd⟩
    have k4' : w10.cell? ⟨pb, 4, none⟩ = some (.pointer (some ⟨vb, 0, none⟩)) := (World.cell?_of_block (w := w9) (t10.block pb Hnp.out.2 (fun hm => Hnp.out.1 (List.mem_append.2 (.inl hm))))).trans k4
    have hf10 := H9.out.vm.touch (F' := Y :: aF pb sb b g mb lv vb rb rg rl) t10 (fun q hq => List.mem_cons_of_mem _ (List.mem_cons_of_mem _ (List.mem_append.2 (.inl hq)))) (fun q hq => .inl hq)
    have hd10 := hd w10 _ (Below.refl _ _) hf10.lrd
    clear hpr k2 k4 hd t10 hf10
    go_wp2_with fail
    refine hd10.mono ?_
    rintro e w11 ⟨rfl, hN⟩
    obtain ⟨lv3, rl3, ws3, th3, l3, P11⟩ := H9.out.next hN
    have H11 : Hid (Pr w1 n1 w11 pb lb sb b g mb vb rb rg bb c L x sw m (n0 + (262145 + more.length)) R Z Y cap (more) (.slice av more.length cv) more lv3 rl3 ws3 th3 l3) := P11
    have hsm := sameInts6_yes (.slice (some ⟨Y, 0, none⟩) more.length (more.length + 40)) (.slice av more.length cv) more w11.heap.size w11 H11.out.lrd H11.out.vm.lrd (Nat.le_refl _) (by omega)
    clear hd10 hN P11 H9 k4' Hnp
    go_wp2_with fail
    refine hsm.mono ?_
    rintro e w12 ⟨rfl, l12⟩
    have H12 : Hid (Pr w1 n1 w12 pb lb sb b g mb vb rb rg bb c L x sw m (n0 + (262145 + more.length)) R Z Y cap (more) (.slice av more.length cv) more lv3 rl3 ws3 th3 l3) := H11.out.below l12
    have hho := roomHold_any H12.out.rr_ rfl (by omega)
    clear hsm l12 H11
    go_wp2_with fail
    refine hho.mono ?_
    rintro e w13 ⟨rfl, l13⟩
    have H13 : Hid (Pr w1 n1 w13 pb lb sb b g mb vb rb rg bb c L x sw m (n0 + (262145 + more.length)) R Z Y cap (more) (.slice av more.length cv) more lv3 rl3 ws3 th3 l3) := H12.out.below l13
    clear hho l13 H12
    go_wp2
    go_loopw [10] (fun v10 w14 => ∃ k : Nat, k ≤ more.length ∧ v10 = .int .i64 k ∧ ∃ ls, ls.length = more.length ∧ Hid (Pr w1 n1 w14 pb lb sb b g mb vb rb rg bb c L x sw m (n0 + (262145 + more.length)) R Z Y cap (ls) (.slice av more.length cv) more lv3 rl3 ws3 th3 l3)) (fun v10 _ => more.length - (intOf v10).toNat)
    case atStart => exact ⟨0, Nat.zero_le _, rfl, more, rfl, H13⟩
    case round =>
     obtain ⟨k9, hk9, rfl, ls, hls, H14⟩ := hrel
     clear H13
     by_cases hkl9 : k9 < more.length
     ·have hkI9 : (k9 : Int) < (more.length : Int) := by omega
      obtain ⟨z, hz⟩ : ∃ z, ls[k9]? = some z := ⟨_, List.getElem?_eq_getElem (by omega)⟩
      have hcell : wr.cell? ⟨Y, k9, none⟩ = some (.int .i64 z) := H14.out.at_ (by rw [List.getElem?_append_left (by omega)]; exact hz)
      have hthaw : wr.frozen? ⟨Y, k9, none⟩ = false := H14.out.thaw k9
      have H15 : Hid (Pr w1 n1 (wr.setCell ⟨Y, k9, none⟩ (.int .i64 (-7))) pb lb sb b g mb vb rb rg bb c L x sw m (n0 + (262145 + more.length)) R Z Y cap (ls.set k9 (-7)) (.slice av more.length cv) more lv3 rl3 ws3 th3 l3) := H14.out.set k9 (-7) (by omega)
      have Hls : Hid ((ls.set k9 (-7)).length = more.length) := by show _ = _; rw [List.length_set]; exact hls
      clear hz H14 hls
      go_wp2
      go_roundw
      case rel => exact ⟨k9 + 1, by omega, by go_num, _, Hls.out, H15⟩
      case measure => simp [intOf]; omega
     ·have hkn9 : ¬ (k9 : Int) < (more.length : Int) := by omega
      have HE : Hid (Ps w1 n1 wr pb lb sb b g mb vb rb rg bb c L m (n + 4194304)) := H14.out.done (by have := Hn0.out; omega)
      clear H14 hls
      go_wp2
      go_ret
      exact ⟨rfl, HE.out⟩
end
end Go.Proofs.YtlkengnefhhppaaGreatDoor
