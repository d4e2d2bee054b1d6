import Derived.Test.YtckgcpoheodbcaaGreatDoorQ29
set_option linter.unusedVariables false
set_option maxHeartbeats 8000000
set_option maxRecDepth 20000
namespace Go.Proofs.YtckgcpoheodbcaaGreatDoor
open Go.RowKit Go.Shelf Go.Proofs.YtckgcpoheodbcaaGreatDoor.Lt Go.Proofs.YtckgcpoheodbcaaGreatDoor.Lp
theorem que_out {W : World} {base b N : Nat} {m : Int} {xs : List Int} {F : List Nat} (h : Kg.Que W base b m N xs F) {c t : Nat} {cs : Array Value} (hc : W.heap[c]? = some (.cells cs t (0, 0))) (h1 : t ≠ 104) (h2 : t ≠ 3) : c ∉ F := by
 obtain ⟨v, ts, f, hh, hb, hr, -, -, -, rfl⟩ := h
 intro hm
 rcases List.mem_cons.1 hm with e | hm
 ·rw [e, hh] at hc
  simp only [Option.some.injEq, Obj.cells.injEq] at hc
  exact h1 hc.2.1.symm
 ·rw [Option.mem_toList] at hm
  exact Kg.row_ne hc hr h2 hm.symm
def MeetC (w0 : World) (lo : Value) (d m : Nat) : Prop := ∀ (B Q c2 c3 c4 bb N : Nat) (f : Nat → Int) (x b : Nat) (xs : List Int) (F : List Nat) (w : World), Below w0.heap.size w0 w → w.heap[c2]? = some (Obj.cells #[.slice (some ⟨bb, 0, none⟩) m m] 24 (0, 0)) → w.heap[c3]? = some (Obj.cells #[lo] 93 (0, 0)) → w.heap[c4]? = some (Obj.cells #[.pointer (some ⟨Q, 0, none⟩)] 73 (0, 0)) → Fy w bb m f → Kg.Que w B Q 0 N xs F → bb ∉ F → x < m → B ≤ w.heap.size → N < 8796093022208 →
  Calls Tryz.prog 81 #[.int .i64 (x : Nat), .int .i64 (b : Nat), .pointer (some ⟨c2, 0, none⟩), .pointer (some ⟨c3, 0, none⟩), .pointer (some ⟨c4, 0, none⟩)] w fun e w' => e = .returned (.tuple #[]) ∧ (((x = 0 ∨ f x ≠ -1 ∨ x = d) ∧ w' = w) ∨ (x ≠ 0 ∧ f x = -1 ∧ x ≠ d ∧ ∃ F', Fy w' bb m (fun y => if y = x then (b : Int) else f y) ∧ Kg.Que w' B Q 0 (N + 1) (xs ++ [(x : Int)]) F' ∧ Kg.Touch (bb :: F) w w' ∧ Kg.Newer w.heap.size F F'))
theorem meetC1 (w0 : World) (m : Nat) : MeetC w0 (.func (.func 55) #[] #[]) 0 m := fun B Q c2 c3 c4 bb N f x b xs F w _ h2 h3 h4 hb hq hbF hx hB hN => by
 refine (meet1_any B Q c2 c3 c4 bb m N 73 f x b xs F w h2 h3 h4 (by decide) hb hq hbF hx hB hN).mono ?_
 rintro e w' ⟨h1, h | ⟨h5, h6, h7⟩⟩
 ·exact ⟨h1, .inl ⟨h.1.imp id .inl, h.2⟩⟩
 ·exact ⟨h1, .inr ⟨h5, h6, h5, h7⟩⟩
theorem meetC2 (w0 : World) (m : Nat) (pn : Addr) (n : Nat) (hl : pn.block < w0.heap.size) (hc : w0.cell? pn = some (.int .i64 (n : Nat))) : MeetC w0 (.func (.func 61) #[] #[.pointer (some pn)]) n m := fun B Q c2 c3 c4 bb N f x b xs F w hb0 h2 h3 h4 hb hq hbF hx hB hN =>
 meet2_any pn n B Q c2 c3 c4 bb m N 73 f x b xs F w h2 h3 h4 (by decide) hb hq hbF hx hB hN ((hb0.cell hl).trans hc)
structure Sr (W : Nat → List Nat) (P : List Ep) (d m : Nat) (lo : Value) (B Q c2 c3 c4 bb : Nat) (seq : List Nat) (by' : Nat → Nat) (s : Nat) (wr : World) (F : List Nat) : Prop where
 ry : Ry W P d seq by'
 lt : ∀ y, y ∈ seq → y < m
 h2 : wr.heap[c2]? = some (Obj.cells #[.slice (some ⟨bb, 0, none⟩) m m] 24 (0, 0))
 h3 : wr.heap[c3]? = some (Obj.cells #[lo] 93 (0, 0))
 h4 : wr.heap[c4]? = some (Obj.cells #[.pointer (some ⟨Q, 0, none⟩)] 73 (0, 0))
 fy : Fy wr bb m (byv seq by')
 q : Kg.Que wr B Q 0 seq.length ((seq.drop s).map Int.ofNat) F
 s : s ≤ seq.length
 bB : bb < B
 BS : B ≤ wr.heap.size
variable {W : Nat → List Nat} {P : List Ep} {d m : Nat} {lo : Value} {B Q c2 c3 c4 bb : Nat} {seq : List Nat} {by' : Nat → Nat} {s : Nat} {w0 wr w' : World} {F : List Nat}
theorem Sr.bF (h : Sr W P d m lo B Q c2 c3 c4 bb seq by' s wr F) : bb ∉ F := fun hm => by
 have := (h.q.mem bb hm).1
 have := h.bB
 omega
theorem Sr.out (h : Sr W P d m lo B Q c2 c3 c4 bb seq by' s wr F) {c t : Nat} {cs : Array Value} (hc : wr.heap[c]? = some (.cells cs t (0, 0))) (h1 : t ≠ 104) (h2 : t ≠ 3) : c ∉ bb :: F := fun hm => by
 rcases List.mem_cons.1 hm with e | hm
 ·obtain ⟨ds, hds, -⟩ := h.fy.ex
  exact block_ne hc hds h2 e
 ·exact que_out h.q hc h1 h2 hm
theorem Sr.below (h : Sr W P d m lo B Q c2 c3 c4 bb seq by' s wr F) (hb : Below wr.heap.size wr w') : Sr W P d m lo B Q c2 c3 c4 bb seq by' s w' F :=
 ⟨h.ry, h.lt, (hb.block _ (Kg.heap_lt h.h2)).trans h.h2, (hb.block _ (Kg.heap_lt h.h3)).trans h.h3, (hb.block _ (Kg.heap_lt h.h4)).trans h.h4, h.fy.touch (Kg.Touch.of_below hb []) (List.not_mem_nil), h.q.keep (Kg.Touch.of_below hb []) (fun _ _ => List.not_mem_nil), h.s, h.bB, Nat.le_trans h.BS hb.size⟩
theorem Sr.meet (h : Sr W P d m lo B Q c2 c3 c4 bb seq by' s wr F) (hC : MeetC w0 lo d m) (hb : Below w0.heap.size w0 wr) (hB : w0.heap.size ≤ B) (hbb : w0.heap.size ≤ bb) (hmm : m ≤ 2000001) {x b : Nat} (hx : x < m) (hm : x ≠ 0 → x ≠ d → (b = 0 ∧ x ∈ W 0) ∨ (b ∈ seq ∧ b ≠ 0 ∧ x ∈ W b) ∨ (∃ κ, (b, κ, x) ∈ P ∧ b ∈ seq ∧ κ ∈ seq)) :
  Calls Tryz.prog 81 #[.int .i64 (x : Nat), .int .i64 (b : Nat), .pointer (some ⟨c2, 0, none⟩), .pointer (some ⟨c3, 0, none⟩), .pointer (some ⟨c4, 0, none⟩)] wr fun e w' => e = .returned (.tuple #[]) ∧ ∃ new by2 F', Sr W P d m lo B Q c2 c3 c4 bb (seq ++ new) by2 s w' F' ∧ (x ≠ 0 → x ≠ d → x ∈ seq ++ new) ∧ Below w0.heap.size w0 w' ∧ Kp wr w' := by
 have hlen := ry_len h.ry h.lt
 refine (hC B Q c2 c3 c4 bb seq.length _ x b _ F wr hb h.h2 h.h3 h.h4 h.fy h.q h.bF hx h.BS (by omega)).mono ?_
 rintro e w6 ⟨h1, ⟨h5, rfl⟩ | ⟨h5, h6, h7, F', u1, u2, u3, u4⟩⟩
 ·refine ⟨h1, [], by', F, by rw [List.append_nil]; exact h, fun a1 a2 => ?_, hb, fun _ _ hX => hX⟩
  rw [List.append_nil]
  rcases h5 with h5 | h5 | h5
  ·exact absurd h5 a1
  ·exact Classical.byContradiction (fun k => h5 (byv_neg.2 k))
  ·exact absurd h5 a2
 ·have hxs := byv_neg.1 h6
  have blk : ∀ {c t : Nat} {cs : Array Value}, wr.heap[c]? = some (.cells cs t (0, 0)) → t ≠ 104 → t ≠ 3 → w6.heap[c]? = some (.cells cs t (0, 0)) := fun hc k1 k2 => (u3.block _ (Kg.heap_lt hc) (h.out hc k1 k2)).trans hc
  refine ⟨h1, [x], fun y => if y = x then b else by' y, F', ⟨h.ry.add hxs h5 h7 (hm h5 h7), fun y hy => ?_, blk h.h2 (by decide) (by decide), blk h.h3 (by decide) (by decide), blk h.h4 (by decide) (by decide), ?_, ?_, by rw [List.length_append]; have := h.s; omega, h.bB, Nat.le_trans h.BS u3.size⟩, fun _ _ => by simp, ?_, fun X cs hX => blk hX (by decide) (by decide)⟩
  ·rcases List.mem_append.1 hy with h8 | h8
   ·exact h.lt y h8
   ·rw [List.mem_singleton.1 h8]; exact hx
  ·rw [← byv_add]; exact u1
  ·rw [List.drop_append_of_le_length h.s, List.map_append, List.length_append]
   exact u2
  ·exact hb.trans (u3.below hb.size (fun k hk => by
    rcases List.mem_cons.1 hk with rfl | h8
    ·exact hbb
    ·exact Nat.le_trans hB (h.q.mem k h8).1))
theorem Sr.took (h : Sr W P d m lo B Q c2 c3 c4 bb seq by' s wr F) (u1 : Kg.Que w' B Q 0 seq.length ((seq.drop (s + 1)).map Int.ofNat) F) (u2 : Kg.Touch F wr w') (hs : s + 1 ≤ seq.length) : Sr W P d m lo B Q c2 c3 c4 bb seq by' (s + 1) w' F := by
 have blk : ∀ {c t : Nat} {cs : Array Value}, wr.heap[c]? = some (.cells cs t (0, 0)) → t ≠ 104 → t ≠ 3 → w'.heap[c]? = some (.cells cs t (0, 0)) := fun hc k1 k2 => (u2.block _ (Kg.heap_lt hc) (que_out h.q hc k1 k2)).trans hc
 exact ⟨h.ry, h.lt, blk h.h2 (by decide) (by decide), blk h.h3 (by decide) (by decide), blk h.h4 (by decide) (by decide), h.fy.touch u2 h.bF, u1, hs, h.bB, Nat.le_trans h.BS u2.size⟩
def Sx (W : Nat → List Nat) (P : List Ep) (d m : Nat) (lo : Value) (B Q c2 c3 c4 bb : Nat) (w0 : World) (v8 v9 : Value) (wr : World) (j : Nat) : Prop :=
 ∃ (nv : Nat) (ok : Bool) (seq : List Nat) (by' : Nat → Nat) (s : Nat) (F : List Nat), v8 = .int .i64 (nv : Nat) ∧ v9 = .bool ok ∧ nv < m ∧ Sr W P d m lo B Q c2 c3 c4 bb seq by' s wr F ∧ Below w0.heap.size w0 wr ∧
  (ok = true → j = m + 1 - s ∧ ((s = 0 ∧ nv = 0 ∧ seq = []) ∨ (1 ≤ s ∧ Rx W P d seq (s - 1) by' ∧ seq[s - 1]? = some nv))) ∧ (ok = false → j = 0 ∧ Rx W P d seq seq.length by')
theorem number_done {nv : Nat} {new : List Nat} {by2 : Nat → Nat} (hp : ∀ i κ v, (i, κ, v) ∈ P → i ≠ 0 ∧ κ ≠ 0) (h : (s = 0 ∧ nv = 0 ∧ seq = []) ∨ (1 ≤ s ∧ Rx W P d seq (s - 1) by' ∧ seq[s - 1]? = some nv)) (h2 : Ry W P d (seq ++ new) by2) (hw : ∀ y, y ∈ W nv → y ≠ d → y ∈ seq ++ new) (he : ∀ e, e ∈ P → (e.1 = nv ∨ e.2.1 = nv) → e.1 ∈ seq → e.2.1 ∈ seq → e.2.2 ≠ d → e.2.2 ∈ seq ++ new) : Rx W P d (seq ++ new) s by2 := by
 rcases h with ⟨rfl, rfl, rfl⟩ | ⟨h3, h4, h5⟩
 ·exact h2.start hw
 ·have h6 := h4.next h5 h2 hw (fun i κ v a1 a2 a3 a4 a5 => he (i, κ, v) a1 a3 (List.mem_of_mem_take a4) (List.mem_of_mem_take a5) a2)
  rw [Nat.sub_add_cancel h3] at h6
  exact h6
end Go.Proofs.YtckgcpoheodbcaaGreatDoor
namespace Go.Proofs.YtckgcpoheodbcaaGreatDoor
open Go.RowKit Go.Shelf Go.Proofs.YtckgcpoheodbcaaGreatDoor.Lt
set_option maxHeartbeats 16000000 in
theorem add_any (B wb R m : Nat) (hm : m ≤ 2000001) (vw vp : Value) (vs : Nat → Value) (P : List Ep) (L : Nat → List Ep) (e : Ep) (hf0 : e.1 < m) (hf1 : e.2.1 < m) (hPl : P.length ≤ 2000000) (hLl : ∀ n, (L n).length ≤ 4000000) (w : World) (hw : Wb w B wb R m vw vp vs P L) :
  Calls Tryz.prog 79 #[.pointer (some ⟨wb, 0, none⟩), epv e] w fun r w' => r = .returned (.tuple #[]) ∧ ∃ vp' vs', Wb w' B wb R m vw vp' vs' (P ++ [e]) (lpt (lpt L e.1 e) e.2.1 e) ∧ Kg.Touch (wbF wb R m vp vs) w w' ∧ Kg.Newer w.heap.size (wbF wb R m vp vs) (wbF wb R m vp' vs') := by
 obtain ⟨i0, hi0, hj0, hj1, hj2⟩ := info_p17 infoEP
 have HI : Hid (Tryz.prog.info? 119 = some i0 ∧ i0.zero = some (.agg #[.int .i64 0, .int .i64 0, .int .i64 0]) ∧ i0.size = 3 ∧ i0.bytes = 24) := ⟨hi0, hj0, hj1, hj2⟩
 clear hi0 hj0 hj1 hj2
 have HLl : Hid (True ∧ ∀ n, (L n).length ≤ 5000000) := ⟨trivial, fun n => Nat.le_trans (hLl n) (by omega)⟩
 have HLl3 : Hid (True ∧ ∀ n, (lpt L e.1 e n).length ≤ 5000000) := ⟨trivial, fun n => by
  show (if n = e.1 then L e.1 ++ [e] else L n).length ≤ _
  have h1 := hLl e.1
  have h2 := hLl n
  split
  ·rw [List.length_append, List.length_singleton]; omega
  ·omega⟩
 have HB0 : Hid (B ≤ w.heap.size) := Nat.le_trans hw.lo (Nat.le_of_lt (Kg.heap_lt hw.h))
 have b1 : Below w.heap.size w (w.alloc (.cells (epc e) 119)) := Below.alloc (Below.refl _ _) (Nat.le_refl _) _
 have hx1 := heap_alloc_new w (.cells (epc e) 119 (0, 0))
 have HW1 : Hid (Wb (w.alloc (.cells (epc e) 119)) B wb R m vw vp vs P L) := hw.below b1
 have HF1 : Hid (w.heap.size ∉ wbF wb R m vp vs) := fun hm => by have := (hw.mem _ hm).2; omega
 obtain ⟨pa, pc, ep⟩ := own_sl17 hw.p
 subst ep
 clear hw hLl
 go_enter Tryz.func79, Tryz.ntmps79
 go_upto_region 1 with fail
 change Code.wp _ _ _ _ (w.alloc (.cells (epc e) 119))
 obtain ⟨X, hX⟩ : ∃ X, X = w.heap.size := ⟨_, rfl⟩
 rw [← hX] at hx1 HF1 ⊢
 have HXe : Hid (X = w.heap.size) := hX
 have HS1 : Hid ((w.alloc (.cells (epc e) 119)).heap.size = w.heap.size + 1) := by show _ = _; simp
 have HT1 : Hid (Kg.Touch (wbF wb R m (.slice pa P.length pc) vs) w (w.alloc (.cells (epc e) 119))) := Kg.Touch.of_below b1 _
 have HX1 : Hid ((w.alloc (.cells (epc e) 119)).heap[X]? = some (.cells (epc e) 119 (0, 0))) := hx1
 clear hX b1 hx1
 generalize w.alloc (.cells (epc e) 119) = w1 at *
 have c1 := Kg.heap_cell HW1.out.h 1
 have k0 := Kg.heap_cell HX1.out 0
 have k1 := Kg.heap_cell HX1.out 1
 have k2 := Kg.heap_cell HX1.out 2
 simp only [epc, List.getElem?_toArray, List.getElem?_cons_zero, List.getElem?_cons_succ] at c1 k0 k1 k2
 have HBS1 : Hid (B ≤ w1.heap.size) := Nat.le_trans HB0.out HT1.out.size
 go_cut [] from 4 to 14 (fun wq => ∃ v1 : Value, Hid (Wb wq B wb R m vw v1 vs (P ++ [e]) L) ∧ Hid (wq.heap[X]? = some (.cells (epc e) 119 (0, 0))) ∧ Hid (Kg.Touch (wbF wb R m (.slice pa P.length pc) vs) w wq) ∧ Hid (Kg.Newer (w.heap.size + 1) (wbF wb R m (.slice pa P.length pc) vs) (wbF wb R m v1 vs)))
 case first =>
  have hcA : (w1.alloc (.cells (epc e) 119)).cell? ⟨wb, 1, none⟩ = some (.slice pa P.length pc) := (Below.cell (p := ⟨wb, 1, none⟩) (Below.alloc (Below.refl w1.heap.size w1) (Nat.le_refl _) _) (Kg.heap_lt HW1.out.h)).trans c1
  have HRow : Hid ((w1.drew.alloc (.cells (epc e) 119)).ownsRow B 119 3 (.slice pa P.length pc) P.length (epl P)) := Kg.row_keep2 (G := []) HW1.out.p ((Kg.Touch.drew _ w1).trans (Kg.Touch.alloc _ _ (.cells (epc e) 119))) (fun _ _ => List.not_mem_nil)
  have HRd : Hid (Wb w1.drew B wb R m vw (.slice pa P.length pc) vs P L) := HW1.out.keep (Kg.Touch.drew [] w1) (fun _ _ => List.not_mem_nil)
  have hsz := HBS1.out
  go_region_law (refine step_append_own_at rfl (.tmp 8) (.tmp 10) 94 rfl B 119 i0 (.agg #[.int .i64 0, .int .i64 0, .int .i64 0]) 3 24 Tryz.underlying94 HI.out.1 HI.out.2.1 HI.out.2.2.1 HI.out.2.2.2 rfl (by decide) (.slice pa P.length pc) P.length (epl P) rfl HRow.out ⟨w1.drew.heap.size, 0, none⟩ 1 1 (epc e).toList rfl rfl (cells_new17 _ _ _) (by simp [Value.oneCell']) (by simp only [maxLen]; omega) (by omega) (by simp; omega) ?_; intro v8 w8 h8 g8 e8; obtain ⟨a8, c8, rfl, d8, z8, HN⟩ := HRd.out.push h8 g8 e8)
  all_goals
   have HZ : Hid (∃ v1 : Value, Hid (Wb (w8.setCell ⟨wb, 1, none⟩ (.slice a8 (P.length + 1) c8)) B wb R m vw v1 vs (P ++ [e]) L) ∧ Hid ((w8.setCell ⟨wb, 1, none⟩ (.slice a8 (P.length + 1) c8)).heap[X]? = some (.cells (epc e) 119 (0, 0))) ∧ Hid (Kg.Touch (wbF wb R m (.slice pa P.length pc) vs) w (w8.setCell ⟨wb, 1, none⟩ (.slice a8 (P.length + 1) c8))) ∧ Hid (Kg.Newer (w.heap.size + 1) (wbF wb R m (.slice pa P.length pc) vs) (wbF wb R m v1 vs))) := by
    obtain ⟨f1, f2, f3⟩ := HN.out
    have f2' := (Kg.Touch.drew _ w1).trans f2
    exact ⟨_, f1, (f2'.block X (Kg.heap_lt HX1.out) HF1.out).trans HX1.out, HT1.out.trans f2', fun k hk => (f3 k hk).imp id (fun h => by have h2 := HS1.out; have h3 : w1.drew.heap.size = w1.heap.size := rfl; omega)⟩
   clear h8 g8 e8 d8 z8 HN HRd HRow hcA
   generalize w8.setCell ⟨wb, 1, none⟩ (.slice a8 (P.length + 1) c8) = w9 at *
   go_wp2
   go_meet
   case rel => exact HZ.out
 case rest =>
 obtain ⟨v1, HW2, HX, HT2, HN2⟩ := hcut
 clear c1 k0 k1 k2 HW1 HX1 HT1 HBS1
 obtain ⟨w2, hw2⟩ : ∃ w2, w2 = wc := ⟨_, rfl⟩
 subst hw2
 have HF1' : Hid (X ∉ wbF wb R m (.slice pa P.length pc) vs) := HF1
 clear HF1
 have HXs : Hid (X < w.heap.size + 1) := by show _ < _; rw [HXe.out]; omega
 have HXw : Hid (X < w2.heap.size) := Kg.heap_lt HX.out
 have HXF : Hid (X ∉ wbF wb R m v1 vs) := fun hm => by
  rcases HN2.out X hm with h1 | h1
  ·exact HF1'.out h1
  ·have := HXe.out; omega
 clear HF1'
 have HBS : Hid (B ≤ w2.heap.size) := Nat.le_trans HB0.out HT2.out.size
 go_upto_region 2 with fail
 obtain ⟨ln, hln⟩ : ∃ ln, ln = (L e.1).length := ⟨_, rfl⟩
 have HLN : Hid (ln = (L e.1).length) := hln
 have hlnb : ln ≤ 5000000 := by have h := HLl.out.2 e.1; rw [← hln] at h; exact h
 obtain ⟨va, vc, ev⟩ := own_sl17 (HW2.out.l.l e.1 hf0)
 rw [← hln] at ev
 have HEV : Hid (vs e.1 = (.slice va ln vc)) := ev
 have hRlt := HW2.out.l.lt
 have hWlt := Kg.heap_lt HW2.out.h
 have hXlt := Kg.heap_lt HX.out
 have s4 : w2.drew.cell? ⟨R, e.1, none⟩ = some (.slice va ln vc) := by have h9 := HW2.out.l.cell (i := e.1) hf0; rw [ev] at h9; exact h9
 have s0 : w2.drew.cell? ⟨wb, 2, none⟩ = some (.slice (some ⟨R, 0, none⟩) m m) := Kg.heap_cell HW2.out.h 2
 have s1 : w2.drew.cell? ⟨X, 0, none⟩ = some (.int .i64 (e.1 : Nat)) := Kg.heap_cell HX.out 0
 have s2 : w2.drew.cell? ⟨X, 1, none⟩ = some (.int .i64 (e.2.1 : Nat)) := Kg.heap_cell HX.out 1
 have s3 : w2.drew.cell? ⟨X, 2, none⟩ = some (.int .i64 (e.2.2 : Nat)) := Kg.heap_cell HX.out 2
 have hfI : ((e.1 : Nat) : Int) < (m : Int) := by omega
 clear hln ev
 refine Kg.wp_region_E (S := fun w' => w'.cell? ⟨wb, 2, none⟩ = some (.slice (some ⟨R, 0, none⟩) m m) ∧ w'.cell? ⟨X, 0, none⟩ = some (.int .i64 (e.1 : Nat)) ∧ w'.cell? ⟨X, 1, none⟩ = some (.int .i64 (e.2.1 : Nat)) ∧ w'.cell? ⟨X, 2, none⟩ = some (.int .i64 (e.2.2 : Nat)) ∧ w'.cell? ⟨R, e.1, none⟩ = some (.slice va ln vc)) 18 Kg.mixed ⟨s0, s1, s2, s3, s4⟩ (fun hHeld => ?_)
 clear s0 s1 s2 s3 s4
 refine Kg.wpAnyE_take (i := 0) (v := (.pointer (some ⟨wb, 0, none⟩))) (by kernel_rfl) (by decide) rfl (by kernel_rfl) (by kernel_rfl) (by kernel_rfl) (fun _ _ _ h => h) (Or.inl ⟨by rfl, fun wx hSw => ?_⟩) (by assumption) ?_
 ·obtain ⟨s0, s1, s2, s3, s4⟩ := hSw
  go_simp
 change Kg.wpAnyE _ _ _ _ _ _ _ _ (Act.put _ (some 14) (.pointer (some ⟨wb, 0, none⟩))) _
 simp only [Act.put, List.setIfInBounds_toArray, List.set_cons_zero, List.set_cons_succ]
 refine Kg.wpAnyE_take (i := 1) (v := (.pointer (some ⟨wb, 0, none⟩))) (by kernel_rfl) (by decide) rfl (by kernel_rfl) (by kernel_rfl) (by kernel_rfl) (fun _ _ _ h => h) (Or.inl ⟨by rfl, fun wx hSw => ?_⟩) (by assumption) ?_
 ·obtain ⟨s0, s1, s2, s3, s4⟩ := hSw
  go_simp
 change Kg.wpAnyE _ _ _ _ _ _ _ _ (Act.put _ (some 15) (.pointer (some ⟨wb, 0, none⟩))) _
 simp only [Act.put, List.setIfInBounds_toArray, List.set_cons_zero, List.set_cons_succ]
 refine Kg.wpAnyE_take (i := 2) (v := (.pointer (some ⟨wb, 2, none⟩))) (by kernel_rfl) (by decide) rfl (by kernel_rfl) (by kernel_rfl) (by kernel_rfl) (fun _ _ _ h => h) (Or.inl ⟨by rfl, fun wx hSw => ?_⟩) (by assumption) ?_
 ·obtain ⟨s0, s1, s2, s3, s4⟩ := hSw
  go_simp
 change Kg.wpAnyE _ _ _ _ _ _ _ _ (Act.put _ (some 16) (.pointer (some ⟨wb, 2, none⟩))) _
 simp only [Act.put, List.setIfInBounds_toArray, List.set_cons_zero, List.set_cons_succ]
 refine Kg.wpAnyE_take (i := 3) (v := (.slice (some ⟨R, 0, none⟩) m m)) (by kernel_rfl) (by decide) rfl (by kernel_rfl) (by kernel_rfl) (by kernel_rfl) (fun _ _ _ h => h) (Or.inl ⟨by rfl, fun wx hSw => ?_⟩) (by assumption) ?_
 ·obtain ⟨s0, s1, s2, s3, s4⟩ := hSw
  go_simp
 change Kg.wpAnyE _ _ _ _ _ _ _ _ (Act.put _ (some 17) (.slice (some ⟨R, 0, none⟩) m m)) _
 simp only [Act.put, List.setIfInBounds_toArray, List.set_cons_zero, List.set_cons_succ]
 refine Kg.wpAnyE_take (i := 4) (v := (.pointer (some ⟨X, 0, none⟩))) (by kernel_rfl) (by decide) rfl (by kernel_rfl) (by kernel_rfl) (by kernel_rfl) (fun _ _ _ h => h) (Or.inl ⟨by rfl, fun wx hSw => ?_⟩) (by assumption) ?_
 ·obtain ⟨s0, s1, s2, s3, s4⟩ := hSw
  go_simp
 change Kg.wpAnyE _ _ _ _ _ _ _ _ (Act.put _ (some 18) (.pointer (some ⟨X, 0, none⟩))) _
 simp only [Act.put, List.setIfInBounds_toArray, List.set_cons_zero, List.set_cons_succ]
 refine Kg.wpAnyE_take (i := 5) (v := (.int .i64 (e.1 : Nat))) (by kernel_rfl) (by decide) rfl (by kernel_rfl) (by kernel_rfl) (by kernel_rfl) (fun _ _ _ h => h) (Or.inl ⟨by rfl, fun wx hSw => ?_⟩) (by assumption) ?_
 ·obtain ⟨s0, s1, s2, s3, s4⟩ := hSw
  go_simp
 change Kg.wpAnyE _ _ _ _ _ _ _ _ (Act.put _ (some 19) (.int .i64 (e.1 : Nat))) _
 simp only [Act.put, List.setIfInBounds_toArray, List.set_cons_zero, List.set_cons_succ]
 refine Kg.wpAnyE_take (i := 6) (v := (.pointer (some ⟨wb, 0, none⟩))) (by kernel_rfl) (by decide) rfl (by kernel_rfl) (by kernel_rfl) (by kernel_rfl) (fun _ _ _ h => h) (Or.inl ⟨by rfl, fun wx hSw => ?_⟩) (by assumption) ?_
 ·obtain ⟨s0, s1, s2, s3, s4⟩ := hSw
  go_simp
 change Kg.wpAnyE _ _ _ _ _ _ _ _ (Act.put _ (some 20) (.pointer (some ⟨wb, 0, none⟩))) _
 simp only [Act.put, List.setIfInBounds_toArray, List.set_cons_zero, List.set_cons_succ]
 refine Kg.wpAnyE_take (i := 7) (v := (.pointer (some ⟨wb, 0, none⟩))) (by kernel_rfl) (by decide) rfl (by kernel_rfl) (by kernel_rfl) (by kernel_rfl) (fun _ _ _ h => h) (Or.inl ⟨by rfl, fun wx hSw => ?_⟩) (by assumption) ?_
 ·obtain ⟨s0, s1, s2, s3, s4⟩ := hSw
  go_simp
 change Kg.wpAnyE _ _ _ _ _ _ _ _ (Act.put _ (some 21) (.pointer (some ⟨wb, 0, none⟩))) _
 simp only [Act.put, List.setIfInBounds_toArray, List.set_cons_zero, List.set_cons_succ]
 refine Kg.wpAnyE_take (i := 8) (v := (.pointer (some ⟨wb, 2, none⟩))) (by kernel_rfl) (by decide) rfl (by kernel_rfl) (by kernel_rfl) (by kernel_rfl) (fun _ _ _ h => h) (Or.inl ⟨by rfl, fun wx hSw => ?_⟩) (by assumption) ?_
 ·obtain ⟨s0, s1, s2, s3, s4⟩ := hSw
  go_simp
 change Kg.wpAnyE _ _ _ _ _ _ _ _ (Act.put _ (some 22) (.pointer (some ⟨wb, 2, none⟩))) _
 simp only [Act.put, List.setIfInBounds_toArray, List.set_cons_zero, List.set_cons_succ]
 refine Kg.wpAnyE_take (i := 9) (v := (.slice (some ⟨R, 0, none⟩) m m)) (by kernel_rfl) (by decide) rfl (by kernel_rfl) (by kernel_rfl) (by kernel_rfl) (fun _ _ _ h => h) (Or.inl ⟨by rfl, fun wx hSw => ?_⟩) (by assumption) ?_
 ·obtain ⟨s0, s1, s2, s3, s4⟩ := hSw
  go_simp
 change Kg.wpAnyE _ _ _ _ _ _ _ _ (Act.put _ (some 23) (.slice (some ⟨R, 0, none⟩) m m)) _
 simp only [Act.put, List.setIfInBounds_toArray, List.set_cons_zero, List.set_cons_succ]
 refine Kg.wpAnyE_take (i := 10) (v := (.pointer (some ⟨X, 0, none⟩))) (by kernel_rfl) (by decide) rfl (by kernel_rfl) (by kernel_rfl) (by kernel_rfl) (fun _ _ _ h => h) (Or.inl ⟨by rfl, fun wx hSw => ?_⟩) (by assumption) ?_
 ·obtain ⟨s0, s1, s2, s3, s4⟩ := hSw
  go_simp
 change Kg.wpAnyE _ _ _ _ _ _ _ _ (Act.put _ (some 24) (.pointer (some ⟨X, 0, none⟩))) _
 simp only [Act.put, List.setIfInBounds_toArray, List.set_cons_zero, List.set_cons_succ]
 refine Kg.wpAnyE_take (i := 11) (v := (.int .i64 (e.1 : Nat))) (by kernel_rfl) (by decide) rfl (by kernel_rfl) (by kernel_rfl) (by kernel_rfl) (fun _ _ _ h => h) (Or.inl ⟨by rfl, fun wx hSw => ?_⟩) (by assumption) ?_
 ·obtain ⟨s0, s1, s2, s3, s4⟩ := hSw
  go_simp
 change Kg.wpAnyE _ _ _ _ _ _ _ _ (Act.put _ (some 25) (.int .i64 (e.1 : Nat))) _
 simp only [Act.put, List.setIfInBounds_toArray, List.set_cons_zero, List.set_cons_succ]
 refine Kg.wpAnyE_take (i := 12) (v := (.pointer (some ⟨R, e.1, none⟩))) (by kernel_rfl) (by decide) rfl (by kernel_rfl) (by kernel_rfl) (by kernel_rfl) (fun _ _ _ h => h) (Or.inl ⟨by rfl, fun wx hSw => ?_⟩) (by assumption) ?_
 ·obtain ⟨s0, s1, s2, s3, s4⟩ := hSw
  go_simp
 change Kg.wpAnyE _ _ _ _ _ _ _ _ (Act.put _ (some 26) (.pointer (some ⟨R, e.1, none⟩))) _
 simp only [Act.put, List.setIfInBounds_toArray, List.set_cons_zero, List.set_cons_succ]
 refine Kg.wpAnyE_take (i := 13) (v := (.slice va ln vc)) (by kernel_rfl) (by decide) rfl (by kernel_rfl) (by kernel_rfl) (by kernel_rfl) (fun _ _ _ h => h) (Or.inl ⟨by rfl, fun wx hSw => ?_⟩) (by assumption) ?_
 ·obtain ⟨s0, s1, s2, s3, s4⟩ := hSw
  go_simp
 change Kg.wpAnyE _ _ _ _ _ _ _ _ (Act.put _ (some 27) (.slice va ln vc)) _
 simp only [Act.put, List.setIfInBounds_toArray, List.set_cons_zero, List.set_cons_succ]
 refine Kg.wpAnyE_take (i := 14) (v := (epv e)) (by kernel_rfl) (by decide) rfl (by kernel_rfl) (by kernel_rfl) (by kernel_rfl) (fun _ _ _ h => h) (Or.inl ⟨by rfl, fun wx hSw => ?_⟩) (by assumption) ?_
 ·obtain ⟨s0, s1, s2, s3, s4⟩ := hSw
  go_simp
 change Kg.wpAnyE _ _ _ _ _ _ _ _ (Act.put _ (some 28) (epv e)) _
 simp only [Act.put, List.setIfInBounds_toArray, List.set_cons_zero, List.set_cons_succ]
 have hwd : w2.drew.heap.size = w2.heap.size := rfl
 have b2 := Below.alloc (Below.refl w2.drew.heap.size w2.drew) (Nat.le_refl _) (.cells (epc e) 119 (0, 0))
 have hS2 : (w2.drew.alloc (.cells (epc e) 119)).cell? ⟨wb, 2, none⟩ = some (.slice (some ⟨R, 0, none⟩) m m) ∧ (w2.drew.alloc (.cells (epc e) 119)).cell? ⟨X, 0, none⟩ = some (.int .i64 (e.1 : Nat)) ∧ (w2.drew.alloc (.cells (epc e) 119)).cell? ⟨X, 1, none⟩ = some (.int .i64 (e.2.1 : Nat)) ∧ (w2.drew.alloc (.cells (epc e) 119)).cell? ⟨X, 2, none⟩ = some (.int .i64 (e.2.2 : Nat)) ∧ (w2.drew.alloc (.cells (epc e) 119)).cell? ⟨R, e.1, none⟩ = some (.slice va ln vc) :=
  ⟨(b2.cell (p := ⟨wb, 2, none⟩) hWlt).trans hHeld.1, (b2.cell (p := ⟨X, 0, none⟩) hXlt).trans hHeld.2.1, (b2.cell (p := ⟨X, 1, none⟩) hXlt).trans hHeld.2.2.1, (b2.cell (p := ⟨X, 2, none⟩) hXlt).trans hHeld.2.2.2.1, (b2.cell (p := ⟨R, e.1, none⟩) hRlt).trans hHeld.2.2.2.2⟩
 refine Kg.wpAnyE_one (i := 15) (by kernel_rfl) rfl (fun K hK => ?_)
 go_simp
 refine hK.out _ _ hS2 (fun hHeld2 => ?_)
 clear hK K hHeld
 have hWd : Wb w2.drew B wb R m vw v1 vs (P ++ [e]) L := HW2.out.keep (Kg.Touch.drew [] w2) (fun _ _ => List.not_mem_nil)
 have HRow : Hid ((w2.drew.alloc (.cells (epc e) 119)).ownsRow B 119 3 (.slice va ln vc) ln (epl (L e.1))) := by
  have h9 := Kg.row_keep2 (G := []) (hWd.l.l e.1 hf0) (Kg.Touch.alloc _ _ (.cells (epc e) 119)) (fun _ _ => List.not_mem_nil)
  rw [HEV.out, ← HLN.out] at h9
  exact h9
 refine Kg.wpAnyE_one (i := 16) (by kernel_rfl) rfl (fun K hK => ?_)
 refine step_append_own_at rfl (.tmp 27) (.tmp 29) 94 rfl B 119 i0 (.agg #[.int .i64 0, .int .i64 0, .int .i64 0]) 3 24 Tryz.underlying94 HI.out.1 HI.out.2.1 HI.out.2.2.1 HI.out.2.2.2 rfl (by decide) (.slice va ln vc) ln (epl (L e.1)) rfl HRow.out ⟨w2.drew.heap.size, 0, none⟩ 1 1 (epc e).toList rfl rfl (cells_new17 _ _ _) (by simp [Value.oneCell']) (by simp only [maxLen]; omega) (by omega) (by have := HBS.out; simp; omega) ?_
 intro v8 w8 h8 g8 e8
 obtain ⟨a8, c8, ev8, hp2', hp3', HN⟩ := hWd.part hf0 (by rw [← HLN.out]; exact h8) (by rw [HEV.out]; exact g8) (by rw [HEV.out]; exact e8)
 rw [← HLN.out] at ev8
 subst ev8
 have t9 : Kg.Touch (Value.slice va ln vc).ownBlock.toList w2.drew w8 := (Kg.Touch.alloc _ _ _).trans (Kg.Touch.grown g8 (fun k hk => by rw [Option.mem_toList]; exact hk.symm ▸ rfl))
 have hown : wb ∉ (Value.slice va ln vc).ownBlock.toList ∧ X ∉ (Value.slice va ln vc).ownBlock.toList := by
  refine ⟨fun hm => ?_, fun hm => ?_⟩
  ·rw [Option.mem_toList, ← HEV.out] at hm
   exact hWd.nR (mem_llF.2 (.inr ⟨_, hf0, hm⟩))
  ·rw [Option.mem_toList, ← HEV.out] at hm
   exact HXF.out (mem_wbF.2 (.inr (.inr (mem_llF.2 (.inr ⟨_, hf0, hm⟩)))))
 have hS3 : (w8).cell? ⟨wb, 2, none⟩ = some (.slice (some ⟨R, 0, none⟩) m m) ∧ (w8).cell? ⟨X, 0, none⟩ = some (.int .i64 (e.1 : Nat)) ∧ (w8).cell? ⟨X, 1, none⟩ = some (.int .i64 (e.2.1 : Nat)) ∧ (w8).cell? ⟨X, 2, none⟩ = some (.int .i64 (e.2.2 : Nat)) ∧ (w8).cell? ⟨R, e.1, none⟩ = some (.slice va ln vc) :=
  ⟨(touch_cell t9 hWlt hown.1 2).trans ((b2.cell (p := ⟨wb, 2, none⟩) hWlt).symm.trans hHeld2.1), (touch_cell t9 hXlt hown.2 0).trans ((b2.cell (p := ⟨X, 0, none⟩) hXlt).symm.trans hHeld2.2.1), (touch_cell t9 hXlt hown.2 1).trans ((b2.cell (p := ⟨X, 1, none⟩) hXlt).symm.trans hHeld2.2.2.1), (touch_cell t9 hXlt hown.2 2).trans ((b2.cell (p := ⟨X, 2, none⟩) hXlt).symm.trans hHeld2.2.2.2.1), by rw [← HEV.out]; exact hp2'⟩
 refine hK.out _ _ hS3 (fun hHeld3 => ?_)
 clear hK K hHeld2 hS2 h8 g8 e8 HRow t9 hown b2
 change Kg.wpAnyE _ _ _ _ _ _ _ _ (Act.put _ (some 30) (.slice a8 (ln + 1) c8)) _
 simp only [Act.put, List.setIfInBounds_toArray, List.set_cons_zero, List.set_cons_succ]
 refine Kg.wpAnyE_take (i := 17) (v := (.pointer (some ⟨R, e.1, none⟩))) (by kernel_rfl) (by decide) rfl (by kernel_rfl) (by kernel_rfl) (by kernel_rfl) (fun _ _ _ h => h) (Or.inl ⟨by rfl, fun wx hSw => ?_⟩) (by assumption) ?_
 ·obtain ⟨s0, s1, s2, s3, s4⟩ := hSw
  go_simp
 change Kg.wpAnyE _ _ _ _ _ _ _ _ (Act.put _ (some 31) (.pointer (some ⟨R, e.1, none⟩))) _
 simp only [Act.put, List.setIfInBounds_toArray, List.set_cons_zero, List.set_cons_succ]
 refine Kg.wpAnyE_last (by kernel_rfl) (by kernel_rfl) rfl (fun K hK => ?_)
 have s4 := hHeld3.2.2.2.2
 clear hHeld3 hS3
 go_simp
 refine hK.out _ _ ?_
 clear hK K
 obtain ⟨f1, f2, f3⟩ := HN.out
 have f2' := (Kg.Touch.drew _ w2).trans f2
 obtain ⟨vs3, hvs3⟩ : ∃ vs3 : Nat → Value, vs3 = fun j => if j = e.1 then .slice a8 (ln + 1) c8 else vs j := ⟨_, rfl⟩
 rw [← hvs3] at f1 f3
 have HW3 : Hid (Wb (w8.setCell ⟨R, e.1, none⟩ (.slice a8 (ln + 1) c8)) B wb R m vw v1 vs3 (P ++ [e]) (lpt L e.1 e)) := f1
 have HX3 : Hid ((w8.setCell ⟨R, e.1, none⟩ (.slice a8 (ln + 1) c8)).heap[X]? = some (.cells (epc e) 119 (0, 0))) := (f2'.block X HXw.out HXF.out).trans HX.out
 have hsz2 : w.heap.size + 1 ≤ w2.heap.size := by have h1 := HXw.out; have h2 := HXe.out; omega
 have HT3 : Hid (Kg.Touch (wbF wb R m (.slice pa P.length pc) vs) w (w8.setCell ⟨R, e.1, none⟩ (.slice a8 (ln + 1) c8))) := HT2.out.then f2' (fun k hk => (HN2.out k hk).imp id (fun h => by omega))
 have HN3 : Hid (Kg.Newer (w.heap.size + 1) (wbF wb R m (.slice pa P.length pc) vs) (wbF wb R m v1 vs3)) := fun k hk => by
  rcases f3 k hk with h1 | h1
  ·exact HN2.out k h1
  ·exact .inr (Nat.le_trans hsz2 h1)
 have HXF3 : Hid (X ∉ wbF wb R m v1 vs3) := fun hm => by
  rcases f3 X hm with h1 | h1
  ·exact HXF.out h1
  ·have h2 := HXe.out
   have h3 : w2.drew.heap.size = w2.heap.size := rfl
   omega
 clear f1 f2 f3 f2' HN HW2 HX HT2 HN2 HXF hsz2 hvs3 HLN hlnb HEV hRlt hWlt hXlt s4 hwd hWd hp2' hp3' HLl HXw HBS
 generalize w8.setCell ⟨R, e.1, none⟩ (.slice a8 (ln + 1) c8) = w3 at *
 clear w8
 have HX : Hid (w3.heap[X]? = some (.cells (epc e) 119 (0, 0))) := HX3
 have HXF : Hid (X ∉ wbF wb R m v1 vs3) := HXF3
 have HXw : Hid (X < w3.heap.size) := Kg.heap_lt HX.out
 have HBS : Hid (B ≤ w3.heap.size) := Nat.le_trans HB0.out HT3.out.size
 clear HX3 HXF3
 go_upto_region 3 with fail
 obtain ⟨lnb, hlnb⟩ : ∃ lnb, lnb = ((lpt L e.1 e) e.2.1).length := ⟨_, rfl⟩
 have HLNb : Hid (lnb = ((lpt L e.1 e) e.2.1).length) := hlnb
 have hlnbb : lnb ≤ 5000000 := by have h := HLl3.out.2 e.2.1; rw [← hlnb] at h; exact h
 obtain ⟨vab, vcb, ev⟩ := own_sl17 (HW3.out.l.l e.2.1 hf1)
 rw [← hlnb] at ev
 have HEVb : Hid (vs3 e.2.1 = (.slice vab lnb vcb)) := ev
 have hRlt := HW3.out.l.lt
 have hWlt := Kg.heap_lt HW3.out.h
 have hXlt := Kg.heap_lt HX.out
 have s4 : w3.drew.cell? ⟨R, e.2.1, none⟩ = some (.slice vab lnb vcb) := by have h9 := HW3.out.l.cell (i := e.2.1) hf1; rw [ev] at h9; exact h9
 have s0 : w3.drew.cell? ⟨wb, 2, none⟩ = some (.slice (some ⟨R, 0, none⟩) m m) := Kg.heap_cell HW3.out.h 2
 have s1 : w3.drew.cell? ⟨X, 0, none⟩ = some (.int .i64 (e.1 : Nat)) := Kg.heap_cell HX.out 0
 have s2 : w3.drew.cell? ⟨X, 1, none⟩ = some (.int .i64 (e.2.1 : Nat)) := Kg.heap_cell HX.out 1
 have s3 : w3.drew.cell? ⟨X, 2, none⟩ = some (.int .i64 (e.2.2 : Nat)) := Kg.heap_cell HX.out 2
 have hfI : ((e.2.1 : Nat) : Int) < (m : Int) := by omega
 clear hlnb ev
 refine Kg.wp_region_E (S := fun w' => w'.cell? ⟨wb, 2, none⟩ = some (.slice (some ⟨R, 0, none⟩) m m) ∧ w'.cell? ⟨X, 0, none⟩ = some (.int .i64 (e.1 : Nat)) ∧ w'.cell? ⟨X, 1, none⟩ = some (.int .i64 (e.2.1 : Nat)) ∧ w'.cell? ⟨X, 2, none⟩ = some (.int .i64 (e.2.2 : Nat)) ∧ w'.cell? ⟨R, e.2.1, none⟩ = some (.slice vab lnb vcb)) 18 Kg.mixed ⟨s0, s1, s2, s3, s4⟩ (fun hHeld => ?_)
 clear s0 s1 s2 s3 s4
 refine Kg.wpAnyE_take (i := 0) (v := (.pointer (some ⟨wb, 0, none⟩))) (by kernel_rfl) (by decide) rfl (by kernel_rfl) (by kernel_rfl) (by kernel_rfl) (fun _ _ _ h => h) (Or.inl ⟨by rfl, fun wx hSw => ?_⟩) (by assumption) ?_
 ·obtain ⟨s0, s1, s2, s3, s4⟩ := hSw
  go_simp
 change Kg.wpAnyE _ _ _ _ _ _ _ _ (Act.put _ (some 32) (.pointer (some ⟨wb, 0, none⟩))) _
 simp only [Act.put, List.setIfInBounds_toArray, List.set_cons_zero, List.set_cons_succ]
 refine Kg.wpAnyE_take (i := 1) (v := (.pointer (some ⟨wb, 0, none⟩))) (by kernel_rfl) (by decide) rfl (by kernel_rfl) (by kernel_rfl) (by kernel_rfl) (fun _ _ _ h => h) (Or.inl ⟨by rfl, fun wx hSw => ?_⟩) (by assumption) ?_
 ·obtain ⟨s0, s1, s2, s3, s4⟩ := hSw
  go_simp
 change Kg.wpAnyE _ _ _ _ _ _ _ _ (Act.put _ (some 33) (.pointer (some ⟨wb, 0, none⟩))) _
 simp only [Act.put, List.setIfInBounds_toArray, List.set_cons_zero, List.set_cons_succ]
 refine Kg.wpAnyE_take (i := 2) (v := (.pointer (some ⟨wb, 2, none⟩))) (by kernel_rfl) (by decide) rfl (by kernel_rfl) (by kernel_rfl) (by kernel_rfl) (fun _ _ _ h => h) (Or.inl ⟨by rfl, fun wx hSw => ?_⟩) (by assumption) ?_
 ·obtain ⟨s0, s1, s2, s3, s4⟩ := hSw
  go_simp
 change Kg.wpAnyE _ _ _ _ _ _ _ _ (Act.put _ (some 34) (.pointer (some ⟨wb, 2, none⟩))) _
 simp only [Act.put, List.setIfInBounds_toArray, List.set_cons_zero, List.set_cons_succ]
 refine Kg.wpAnyE_take (i := 3) (v := (.slice (some ⟨R, 0, none⟩) m m)) (by kernel_rfl) (by decide) rfl (by kernel_rfl) (by kernel_rfl) (by kernel_rfl) (fun _ _ _ h => h) (Or.inl ⟨by rfl, fun wx hSw => ?_⟩) (by assumption) ?_
 ·obtain ⟨s0, s1, s2, s3, s4⟩ := hSw
  go_simp
 change Kg.wpAnyE _ _ _ _ _ _ _ _ (Act.put _ (some 35) (.slice (some ⟨R, 0, none⟩) m m)) _
 simp only [Act.put, List.setIfInBounds_toArray, List.set_cons_zero, List.set_cons_succ]
 refine Kg.wpAnyE_take (i := 4) (v := (.pointer (some ⟨X, 1, none⟩))) (by kernel_rfl) (by decide) rfl (by kernel_rfl) (by kernel_rfl) (by kernel_rfl) (fun _ _ _ h => h) (Or.inl ⟨by rfl, fun wx hSw => ?_⟩) (by assumption) ?_
 ·obtain ⟨s0, s1, s2, s3, s4⟩ := hSw
  go_simp
 change Kg.wpAnyE _ _ _ _ _ _ _ _ (Act.put _ (some 36) (.pointer (some ⟨X, 1, none⟩))) _
 simp only [Act.put, List.setIfInBounds_toArray, List.set_cons_zero, List.set_cons_succ]
 refine Kg.wpAnyE_take (i := 5) (v := (.int .i64 (e.2.1 : Nat))) (by kernel_rfl) (by decide) rfl (by kernel_rfl) (by kernel_rfl) (by kernel_rfl) (fun _ _ _ h => h) (Or.inl ⟨by rfl, fun wx hSw => ?_⟩) (by assumption) ?_
 ·obtain ⟨s0, s1, s2, s3, s4⟩ := hSw
  go_simp
 change Kg.wpAnyE _ _ _ _ _ _ _ _ (Act.put _ (some 37) (.int .i64 (e.2.1 : Nat))) _
 simp only [Act.put, List.setIfInBounds_toArray, List.set_cons_zero, List.set_cons_succ]
 refine Kg.wpAnyE_take (i := 6) (v := (.pointer (some ⟨wb, 0, none⟩))) (by kernel_rfl) (by decide) rfl (by kernel_rfl) (by kernel_rfl) (by kernel_rfl) (fun _ _ _ h => h) (Or.inl ⟨by rfl, fun wx hSw => ?_⟩) (by assumption) ?_
 ·obtain ⟨s0, s1, s2, s3, s4⟩ := hSw
  go_simp
 change Kg.wpAnyE _ _ _ _ _ _ _ _ (Act.put _ (some 38) (.pointer (some ⟨wb, 0, none⟩))) _
 simp only [Act.put, List.setIfInBounds_toArray, List.set_cons_zero, List.set_cons_succ]
 refine Kg.wpAnyE_take (i := 7) (v := (.pointer (some ⟨wb, 0, none⟩))) (by kernel_rfl) (by decide) rfl (by kernel_rfl) (by kernel_rfl) (by kernel_rfl) (fun _ _ _ h => h) (Or.inl ⟨by rfl, fun wx hSw => ?_⟩) (by assumption) ?_
 ·obtain ⟨s0, s1, s2, s3, s4⟩ := hSw
  go_simp
 change Kg.wpAnyE _ _ _ _ _ _ _ _ (Act.put _ (some 39) (.pointer (some ⟨wb, 0, none⟩))) _
 simp only [Act.put, List.setIfInBounds_toArray, List.set_cons_zero, List.set_cons_succ]
 refine Kg.wpAnyE_take (i := 8) (v := (.pointer (some ⟨wb, 2, none⟩))) (by kernel_rfl) (by decide) rfl (by kernel_rfl) (by kernel_rfl) (by kernel_rfl) (fun _ _ _ h => h) (Or.inl ⟨by rfl, fun wx hSw => ?_⟩) (by assumption) ?_
 ·obtain ⟨s0, s1, s2, s3, s4⟩ := hSw
  go_simp
 change Kg.wpAnyE _ _ _ _ _ _ _ _ (Act.put _ (some 40) (.pointer (some ⟨wb, 2, none⟩))) _
 simp only [Act.put, List.setIfInBounds_toArray, List.set_cons_zero, List.set_cons_succ]
 refine Kg.wpAnyE_take (i := 9) (v := (.slice (some ⟨R, 0, none⟩) m m)) (by kernel_rfl) (by decide) rfl (by kernel_rfl) (by kernel_rfl) (by kernel_rfl) (fun _ _ _ h => h) (Or.inl ⟨by rfl, fun wx hSw => ?_⟩) (by assumption) ?_
 ·obtain ⟨s0, s1, s2, s3, s4⟩ := hSw
  go_simp
 change Kg.wpAnyE _ _ _ _ _ _ _ _ (Act.put _ (some 41) (.slice (some ⟨R, 0, none⟩) m m)) _
 simp only [Act.put, List.setIfInBounds_toArray, List.set_cons_zero, List.set_cons_succ]
 refine Kg.wpAnyE_take (i := 10) (v := (.pointer (some ⟨X, 1, none⟩))) (by kernel_rfl) (by decide) rfl (by kernel_rfl) (by kernel_rfl) (by kernel_rfl) (fun _ _ _ h => h) (Or.inl ⟨by rfl, fun wx hSw => ?_⟩) (by assumption) ?_
 ·obtain ⟨s0, s1, s2, s3, s4⟩ := hSw
  go_simp
 change Kg.wpAnyE _ _ _ _ _ _ _ _ (Act.put _ (some 42) (.pointer (some ⟨X, 1, none⟩))) _
 simp only [Act.put, List.setIfInBounds_toArray, List.set_cons_zero, List.set_cons_succ]
 refine Kg.wpAnyE_take (i := 11) (v := (.int .i64 (e.2.1 : Nat))) (by kernel_rfl) (by decide) rfl (by kernel_rfl) (by kernel_rfl) (by kernel_rfl) (fun _ _ _ h => h) (Or.inl ⟨by rfl, fun wx hSw => ?_⟩) (by assumption) ?_
 ·obtain ⟨s0, s1, s2, s3, s4⟩ := hSw
  go_simp
 change Kg.wpAnyE _ _ _ _ _ _ _ _ (Act.put _ (some 43) (.int .i64 (e.2.1 : Nat))) _
 simp only [Act.put, List.setIfInBounds_toArray, List.set_cons_zero, List.set_cons_succ]
 refine Kg.wpAnyE_take (i := 12) (v := (.pointer (some ⟨R, e.2.1, none⟩))) (by kernel_rfl) (by decide) rfl (by kernel_rfl) (by kernel_rfl) (by kernel_rfl) (fun _ _ _ h => h) (Or.inl ⟨by rfl, fun wx hSw => ?_⟩) (by assumption) ?_
 ·obtain ⟨s0, s1, s2, s3, s4⟩ := hSw
  go_simp
 change Kg.wpAnyE _ _ _ _ _ _ _ _ (Act.put _ (some 44) (.pointer (some ⟨R, e.2.1, none⟩))) _
 simp only [Act.put, List.setIfInBounds_toArray, List.set_cons_zero, List.set_cons_succ]
 refine Kg.wpAnyE_take (i := 13) (v := (.slice vab lnb vcb)) (by kernel_rfl) (by decide) rfl (by kernel_rfl) (by kernel_rfl) (by kernel_rfl) (fun _ _ _ h => h) (Or.inl ⟨by rfl, fun wx hSw => ?_⟩) (by assumption) ?_
 ·obtain ⟨s0, s1, s2, s3, s4⟩ := hSw
  go_simp
 change Kg.wpAnyE _ _ _ _ _ _ _ _ (Act.put _ (some 45) (.slice vab lnb vcb)) _
 simp only [Act.put, List.setIfInBounds_toArray, List.set_cons_zero, List.set_cons_succ]
 refine Kg.wpAnyE_take (i := 14) (v := (epv e)) (by kernel_rfl) (by decide) rfl (by kernel_rfl) (by kernel_rfl) (by kernel_rfl) (fun _ _ _ h => h) (Or.inl ⟨by rfl, fun wx hSw => ?_⟩) (by assumption) ?_
 ·obtain ⟨s0, s1, s2, s3, s4⟩ := hSw
  go_simp
 change Kg.wpAnyE _ _ _ _ _ _ _ _ (Act.put _ (some 46) (epv e)) _
 simp only [Act.put, List.setIfInBounds_toArray, List.set_cons_zero, List.set_cons_succ]
 have hwd : w3.drew.heap.size = w3.heap.size := rfl
 have b2 := Below.alloc (Below.refl w3.drew.heap.size w3.drew) (Nat.le_refl _) (.cells (epc e) 119 (0, 0))
 have hS2 : (w3.drew.alloc (.cells (epc e) 119)).cell? ⟨wb, 2, none⟩ = some (.slice (some ⟨R, 0, none⟩) m m) ∧ (w3.drew.alloc (.cells (epc e) 119)).cell? ⟨X, 0, none⟩ = some (.int .i64 (e.1 : Nat)) ∧ (w3.drew.alloc (.cells (epc e) 119)).cell? ⟨X, 1, none⟩ = some (.int .i64 (e.2.1 : Nat)) ∧ (w3.drew.alloc (.cells (epc e) 119)).cell? ⟨X, 2, none⟩ = some (.int .i64 (e.2.2 : Nat)) ∧ (w3.drew.alloc (.cells (epc e) 119)).cell? ⟨R, e.2.1, none⟩ = some (.slice vab lnb vcb) :=
  ⟨(b2.cell (p := ⟨wb, 2, none⟩) hWlt).trans hHeld.1, (b2.cell (p := ⟨X, 0, none⟩) hXlt).trans hHeld.2.1, (b2.cell (p := ⟨X, 1, none⟩) hXlt).trans hHeld.2.2.1, (b2.cell (p := ⟨X, 2, none⟩) hXlt).trans hHeld.2.2.2.1, (b2.cell (p := ⟨R, e.2.1, none⟩) hRlt).trans hHeld.2.2.2.2⟩
 refine Kg.wpAnyE_one (i := 15) (by kernel_rfl) rfl (fun K hK => ?_)
 go_simp
 refine hK.out _ _ hS2 (fun hHeld2 => ?_)
 clear hK K hHeld
 have hWd : Wb w3.drew B wb R m vw v1 vs3 (P ++ [e]) (lpt L e.1 e) := HW3.out.keep (Kg.Touch.drew [] w3) (fun _ _ => List.not_mem_nil)
 have HRow : Hid ((w3.drew.alloc (.cells (epc e) 119)).ownsRow B 119 3 (.slice vab lnb vcb) lnb (epl ((lpt L e.1 e) e.2.1))) := by
  have h9 := Kg.row_keep2 (G := []) (hWd.l.l e.2.1 hf1) (Kg.Touch.alloc _ _ (.cells (epc e) 119)) (fun _ _ => List.not_mem_nil)
  rw [HEVb.out, ← HLNb.out] at h9
  exact h9
 refine Kg.wpAnyE_one (i := 16) (by kernel_rfl) rfl (fun K hK => ?_)
 refine step_append_own_at rfl (.tmp 45) (.tmp 47) 94 rfl B 119 i0 (.agg #[.int .i64 0, .int .i64 0, .int .i64 0]) 3 24 Tryz.underlying94 HI.out.1 HI.out.2.1 HI.out.2.2.1 HI.out.2.2.2 rfl (by decide) (.slice vab lnb vcb) lnb (epl ((lpt L e.1 e) e.2.1)) rfl HRow.out ⟨w3.drew.heap.size, 0, none⟩ 1 1 (epc e).toList rfl rfl (cells_new17 _ _ _) (by simp [Value.oneCell']) (by simp only [maxLen]; omega) (by omega) (by have := HBS.out; simp; omega) ?_
 intro v8b w8b h8 g8 e8
 obtain ⟨a8b, c8b, ev8, hp2', hp3', HN⟩ := hWd.part hf1 (by rw [← HLNb.out]; exact h8) (by rw [HEVb.out]; exact g8) (by rw [HEVb.out]; exact e8)
 rw [← HLNb.out] at ev8
 subst ev8
 have t9 : Kg.Touch (Value.slice vab lnb vcb).ownBlock.toList w3.drew w8b := (Kg.Touch.alloc _ _ _).trans (Kg.Touch.grown g8 (fun k hk => by rw [Option.mem_toList]; exact hk.symm ▸ rfl))
 have hown : wb ∉ (Value.slice vab lnb vcb).ownBlock.toList ∧ X ∉ (Value.slice vab lnb vcb).ownBlock.toList := by
  refine ⟨fun hm => ?_, fun hm => ?_⟩
  ·rw [Option.mem_toList, ← HEVb.out] at hm
   exact hWd.nR (mem_llF.2 (.inr ⟨_, hf1, hm⟩))
  ·rw [Option.mem_toList, ← HEVb.out] at hm
   exact HXF.out (mem_wbF.2 (.inr (.inr (mem_llF.2 (.inr ⟨_, hf1, hm⟩)))))
 have hS3 : (w8b).cell? ⟨wb, 2, none⟩ = some (.slice (some ⟨R, 0, none⟩) m m) ∧ (w8b).cell? ⟨X, 0, none⟩ = some (.int .i64 (e.1 : Nat)) ∧ (w8b).cell? ⟨X, 1, none⟩ = some (.int .i64 (e.2.1 : Nat)) ∧ (w8b).cell? ⟨X, 2, none⟩ = some (.int .i64 (e.2.2 : Nat)) ∧ (w8b).cell? ⟨R, e.2.1, none⟩ = some (.slice vab lnb vcb) :=
  ⟨(touch_cell t9 hWlt hown.1 2).trans ((b2.cell (p := ⟨wb, 2, none⟩) hWlt).symm.trans hHeld2.1), (touch_cell t9 hXlt hown.2 0).trans ((b2.cell (p := ⟨X, 0, none⟩) hXlt).symm.trans hHeld2.2.1), (touch_cell t9 hXlt hown.2 1).trans ((b2.cell (p := ⟨X, 1, none⟩) hXlt).symm.trans hHeld2.2.2.1), (touch_cell t9 hXlt hown.2 2).trans ((b2.cell (p := ⟨X, 2, none⟩) hXlt).symm.trans hHeld2.2.2.2.1), by rw [← HEVb.out]; exact hp2'⟩
 refine hK.out _ _ hS3 (fun hHeld3 => ?_)
 clear hK K hHeld2 hS2 h8 g8 e8 HRow t9 hown b2
 change Kg.wpAnyE _ _ _ _ _ _ _ _ (Act.put _ (some 48) (.slice a8b (lnb + 1) c8b)) _
 simp only [Act.put, List.setIfInBounds_toArray, List.set_cons_zero, List.set_cons_succ]
 refine Kg.wpAnyE_take (i := 17) (v := (.pointer (some ⟨R, e.2.1, none⟩))) (by kernel_rfl) (by decide) rfl (by kernel_rfl) (by kernel_rfl) (by kernel_rfl) (fun _ _ _ h => h) (Or.inl ⟨by rfl, fun wx hSw => ?_⟩) (by assumption) ?_
 ·obtain ⟨s0, s1, s2, s3, s4⟩ := hSw
  go_simp
 change Kg.wpAnyE _ _ _ _ _ _ _ _ (Act.put _ (some 49) (.pointer (some ⟨R, e.2.1, none⟩))) _
 simp only [Act.put, List.setIfInBounds_toArray, List.set_cons_zero, List.set_cons_succ]
 refine Kg.wpAnyE_last (by kernel_rfl) (by kernel_rfl) rfl (fun K hK => ?_)
 have s4 := hHeld3.2.2.2.2
 clear hHeld3 hS3
 go_simp
 refine hK.out _ _ ?_
 clear hK K
 obtain ⟨f1, f2, f3⟩ := HN.out
 have f2' := (Kg.Touch.drew _ w3).trans f2
 have hsz3 : w.heap.size ≤ w3.heap.size := HT3.out.size
 have HZ : Hid (∃ vp' vs', Wb (w8b.setCell ⟨R, e.2.1, none⟩ (.slice a8b (lnb + 1) c8b)) B wb R m vw vp' vs' (P ++ [e]) (lpt (lpt L e.1 e) e.2.1 e) ∧ Kg.Touch (wbF wb R m (.slice pa P.length pc) vs) w (w8b.setCell ⟨R, e.2.1, none⟩ (.slice a8b (lnb + 1) c8b)) ∧ Kg.Newer w.heap.size (wbF wb R m (.slice pa P.length pc) vs) (wbF wb R m vp' vs')) :=
  ⟨_, _, f1, HT3.out.then f2' (fun k hk => (HN3.out k hk).imp id (fun h => by omega)), fun k hk => by
   rcases f3 k hk with h1 | h1
   ·exact (HN3.out k h1).imp id (fun h => by omega)
   ·exact .inr (Nat.le_trans hsz3 h1)⟩
 clear f1 f2 f3 f2' HN
 generalize w8b.setCell ⟨R, e.2.1, none⟩ (.slice a8b (lnb + 1) c8b) = w9 at *
 go_wp2
 go_end0
 exact ⟨rfl, HZ.out⟩
end Go.Proofs.YtckgcpoheodbcaaGreatDoor
