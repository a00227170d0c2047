/- Own texts, packed: R01, R02. -/
import Derived.Test.YtboofamenpcnhaaGreatDoorV38
namespace Go.Proofs.YtboofamenpcnhaaGreatDoor
set_option maxRecDepth 100000
open Go.RowKit Go.Shelf
set_option linter.unusedVariables false
set_option linter.unusedSimpArgs false
attribute [local go_sem] Oper.semAt_some
theorem Tryz.info32p : (Tryz.prog.info? 32).map (fun i => (i.zero, i.size, i.bytes)) = some (some (.agg z32.toArray), 32, 32) := by kernel_rfl
def keysV (xs : List OX) : List Value := xs.flatMap fun x => keyV x.1.2.key
theorem build36 (key : List Int) (hk : key.length = 32) (w : World) : (Instr.buildSlice 36 1 #[(0, .agg (keyV key).toArray)]).run Tryz.prog w = .ok (.slice (some ⟨w.heap.size, 0, none⟩) 1 1) (w.alloc (.cells (keyV key).toArray 32)) := by
  obtain ⟨i0, hi, hz0, hz1, hz2⟩ := info_parts Tryz.info32p
  refine run_buildSlice (P := Tryz.prog) w 36 32 1 _ _ i0 _ Tryz.underlying36 hi hz0 (by rw [hz1]; decide) (by rw [hz1]; decide) ?_
  rw [hz1]
  exact fill_one 32 _ _ (by simp [keyV, hk]) (by simp [z32])
theorem exec_build36 (ev : Operand → Value) (op : Oper) (y : Operand) (ho : op.op = .buildSlice 36 1 #[(0, y)]) (key : List Int) (hk : key.length = 32) (hy : ev y = .agg (keyV key).toArray) (w : World) : (execOp ev op).run Tryz.prog w = .ok (.value (.slice (some ⟨w.heap.size, 0, none⟩) 1 1)) (w.alloc (.cells (keyV key).toArray 32)) := by
  unfold execOp
  simp only [ho, List.map_toArray, List.map_cons, List.map_nil, hy, Sem.run_bind, Sem.run_pure, build36 key hk, Result.andThen_ok]
/-- What the loop of Keys has made. -/
structure KeyI (W0 W : World) (Bl : Nat) (lv : Value) (xs : List OX) : Prop where
  box : W.heap[Bl]? = some (.cells #[lv] 36 (0, 0))
  row : W.ownsRow W0.heap.size 32 32 lv xs.length (keysV xs)
  turn : Turn (fun q => q = Bl) W0 W
theorem KeyI.own (W0 : World) (Bl : Nat) : OwnFrom W0.heap.size (fun (pre : List OX) W => ∃ lv, KeyI W0 W Bl lv pre) := fun s A B row hs hg hr => by
  obtain ⟨lv, h⟩ := hs
  have hne : some Bl ≠ row := fun e => by
    obtain ⟨o, ho, hc⟩ := (hr Bl e.symm).2
    rw [h.box] at ho
    cases ho
    cases hc
  refine ⟨lv, (hg.block Bl (Array.getElem?_eq_some_iff.1 h.box).1 hne).trans h.box, h.row.kept hg ?_, ⟨hg.os.trans h.turn.os, hg.tape.trans h.turn.tape, hg.output.trans h.turn.output, Nat.le_trans h.turn.size hg.size, fun k hk hq => ?_⟩⟩
  · rcases h.row.2 with ⟨rfl, _⟩ | ⟨g', cap, cur, rfl, _, hgb, _⟩
    · exact .inl rfl
    · refine .inr fun e' => ?_
      obtain ⟨o, ho, hc⟩ := (hr g' (by simpa [Value.ownBlock] using e'.symm)).2
      rw [hgb] at ho
      cases ho
      cases hc
  · refine (hg.block k (by have := h.turn.size; omega) (fun e => ?_)).trans (h.turn.block k hk hq)
    have := (hr k e.symm).1
    omega
theorem row_form36 {W : World} {B n : Nat} {lv : Value} {xs : List Value} (h : W.ownsRow B 32 32 lv n xs) : ∃ a c, lv = .slice a n c := by
  rcases h.2 with ⟨rfl, rfl⟩ | ⟨g, cap, cur, rfl, _⟩
  · exact ⟨_, _, rfl⟩
  · exact ⟨_, _, rfl⟩
theorem keyss_start (w : World) (S : Nat) : ((w.alloc (.cells #[.slice none 0 0] 36)).alloc (.cells #[.pointer (some ⟨S, 0, none⟩)] 26)).heap[w.heap.size]? = some (.cells #[.slice none 0 0] 36 (0, 0)) ∧ ((w.alloc (.cells #[.slice none 0 0] 36)).alloc (.cells #[.pointer (some ⟨S, 0, none⟩)] 26)).cell? ⟨w.heap.size + 1, 0, none⟩ = some (.pointer (some ⟨S, 0, none⟩)) ∧ ((w.alloc (.cells #[.slice none 0 0] 36)).alloc (.cells #[.pointer (some ⟨S, 0, none⟩)] 26)).heap.size = w.heap.size + 1 + 1 ∧ Turn (fun _ => False) w ((w.alloc (.cells #[.slice none 0 0] 36)).alloc (.cells #[.pointer (some ⟨S, 0, none⟩)] 26)) := by
  have b1 := box_alloc w 36 [.slice none 0 0]
  have b2 := box_alloc (w.alloc (.cells #[.slice none 0 0] 36)) 26 [.pointer (some ⟨S, 0, none⟩)]
  have e2 := b2.cell 0 _ rfl
  rw [World.size_alloc] at e2
  exact ⟨b1.later b2.turn, e2, by simp, b1.turn.trans b2.turn (fun _ _ => id)⟩
/-- The keys, whatever SortFunc makes of them in place: a contract of it is handed in. -/
def Sorts (sl : List Ob) (hg : SGood sl) (R : List Value → Prop) : Prop := ∀ (W : World) (B : Nat) (lv : Value), W.ownsRow B 32 32 lv (objsTo sl hg 48).length (keysV (objsTo sl hg 48)) → Calls Tryz.prog 34 #[lv, .func (.func 35) #[] #[]] W fun e W' => (∃ v, e = .returned v) ∧ ∃ ys, R ys ∧ W'.ownsRow B 32 32 lv (objsTo sl hg 48).length ys ∧ Turn (fun q => lv.ownBlock = some q) W W'
set_option maxHeartbeats 8000000 in
theorem keyss_in (w : World) (S J M : Nat) (sl : List Ob) (hs : ShAt w S J M sl) (R : List Value → Prop) (hso : Sorts sl hs.sgood R) :
    CallsIn (FW none) 3 Tryz.prog 13 #[.pointer (some ⟨S, 0, none⟩)] w fun e w' => ∃ lv ys, e = .returned lv ∧ R ys ∧ w'.ownsRow w.heap.size 32 32 lv (nOb sl hs.sgood) ys ∧ Turn (fun _ => False) w w' := by
  have hg := hs.sgood
  have HSO := Lib.hid hso
  have hz := zero62
  have hfs := keyss_start w S
  refine callsIn_of_wp_marks Tryz.func13 rfl trivial ?_ rfl
  simp only [Tryz.ntmps13, List.size_toArray, List.length_cons, List.length_nil, Nat.reduceAdd, Nat.reduceSub, Array.replicate_succ, Array.replicate_zero, List.push_toArray, List.append_toArray, List.nil_append, List.cons_append]
  gi_wp2
  refine ⟨trivial, ?_⟩
  refine (calls_wide (ro := none) (objects_any _ _ ⟨_, rfl⟩)).mono ?_
  rintro e w' ⟨rfl, rfl⟩
  generalize ((w.alloc (.cells #[.slice none 0 0] 36)).alloc (.cells #[.pointer (some ⟨S, 0, none⟩)] 26)) = W5 at hfs ⊢
  simp only [World.size_alloc]
  obtain ⟨q0, q1, hsz, qt⟩ := hfs
  have H0 := Lib.hid q0
  have H1 := Lib.hid q1
  have HT := Lib.hid qt
  clear q0 q1 qt
  gi_wp2
  refine wpIn_rangeFunc_ownH rfl (by omega) (gf := 65) (lb := #[.pointer (some ⟨w.heap.size + 1, 0, none⟩)]) rfl trivial (enters_of Tryz.func65 (by kernel_rfl) rfl)
    (encs := fun x : OX => #[.int .i64 (x.1.1 : Int), .agg x.1.2.vals.toArray]) (Kp := KeepsWalks)
    (seqStopsA_iff.1 (objs_stops (3 - 1) (w.heap.size + 1) S J M sl hg W5 (by rw [hsz]; omega) H1.out (hs.turn HT.out id))) walksK_t walksK_b (Below.refl _ _) (fun _ => rfl)
    (fun pre W => ∃ lv, KeyI W5 W w.heap.size lv pre) (fun c pre W => False)
    (KeyI.own W5 w.heap.size) (fun c s A B row hs hg hr => hs) ⟨_, H0.out, World.ownsRow_nil W5 _ _ _, Turn.refl _ _⟩
    (fun x a' W => ∃ Bx, W5.heap.size ≤ Bx ∧ W.heap[Bx]? = some (.cells x.1.2.vals.toArray 62 (0, 0)) ∧ a' = { tmps := #[.pointer (some ⟨S, 0, none⟩), undef, .slice none 0 0, .pointer (some ⟨w.heap.size, 0, none⟩), undef, .pointer (some ⟨Bx, 0, none⟩), .pointer (some ⟨S, 0, none⟩), .func (.func 65) #[] #[.pointer (some ⟨w.heap.size + 1, 0, none⟩)], .int .i64 (x.1.1 : Int), .agg x.1.2.vals.toArray, undef, undef, undef, undef, undef, undef, undef, undef], defers := [] })
    (fun x a' s A B row hs hg hr => by
      obtain ⟨Bx, e1, e2, e3⟩ := hs
      exact ⟨Bx, e1, (grownBy_keeps_cells hg (fun r e => (hr r e).2) e2 rfl).trans e2, e3⟩) ?assign ?body ?done ?stop
  case assign =>
    rintro l pre x W K ⟨lv, hI⟩ hK
    have hok := x.2.2
    gi_wp2_with (with_reducible (show wpListIn _ _ _ _ _ (Oper.mk none (.store 62 (.tmp 5) (.tmp 9)) _ _ _ _ :: _) _ _); refine still ?_)
    refine inL_box (ro := some l) W 62 z62 x.1.2.vals (by rw [hok.vlen]; rfl) x.1.2.vals_one (by rw [hok.vlen]; exact info62) rfl (.tmp 5) (.tmp 9) rfl rfl rfl ?_
    intro W2 hB
    gi_wp2
    have hgr := grown_of_turn hB.turn
    exact hK _ _ (KeepsFrom.of_grownBy hgr (fun j e => by cases e)) (KeepsWalks.of_grownBy hgr (fun j o e => by cases e)) ⟨lv, (hB.turn.block _ (Array.getElem?_eq_some_iff.1 hI.box).1 id).trans hI.box, hI.row.kept hgr (by rcases hI.row.2 with ⟨rfl, _⟩ | ⟨g', cap, cur, rfl, _⟩ <;> simp [Value.ownBlock]) , hI.turn.trans hB.turn (fun _ _ h => h.elim)⟩ ⟨W.heap.size, hI.turn.size, hB.heap, rfl⟩
  case body =>
    rintro l pre x a' W hl hr ⟨lv, hI⟩ ⟨Bx, hBx, hbx, rfl⟩ hlen
    have hok := x.2.2
    have hpn : pre.length < 48 := hlen
    obtain ⟨la, lc, rfl⟩ := row_form36 hI.row
    have HI := Lib.hid hI
    have hszW := hI.turn.size
    have c3 : W.cell? ⟨w.heap.size, 0, none⟩ = some (.slice la pre.length lc) := cell_of_row _ _ 0 _ 36 (0, 0) hI.box
    have hbr : W.rangeAt Bx 0 x.1.2.vals := fun j v hj => by rw [Nat.zero_add, cell_of_row W _ j _ 62 (0, 0) hbx]; simpa using hj
    have hbk : W.rangeAt Bx 0 (keyV x.1.2.key) := fun j v hj => hbr j v (by unfold keyV at hj; rw [Ob.vals, List.getElem?_append_left (List.getElem?_eq_some_iff.1 hj).1]; exact hj)
    have hrow := hI.row
    obtain ⟨i, hi⟩ : ∃ i, pre.length = i := ⟨_, rfl⟩
    rw [hi] at c3 hrow hpn
    have HROW := Lib.hid hrow
    have HPI := Lib.hid hi
    obtain ⟨key, hkey⟩ : ∃ key, x.1.2.key = key := ⟨_, rfl⟩
    have hkl : key.length = 32 := by rw [← hkey]; exact hok.len
    rw [hkey] at hbk
    have HKEY := Lib.hid hkey
    clear hrow hI hi hlen hbr hbx hkey
    gi_wp2_with (with_reducible (show wpListIn _ _ _ _ _ (Oper.mk (some 12) (.load 32 (.tmp 11)) _ _ _ _ :: _) _ _); refine still ?_)
    refine inL_load (ro := some l) rfl 32 (.tmp 11) rfl Bx 0 rfl (keyV key) _ hbk Tryz.underlying32 rfl (info32k hkl) ?_
    gi_wp2_with (with_reducible (show wpListIn _ _ _ _ _ (Oper.mk (some 13) _ _ _ _ _ :: _) _ _); refine still ?_)
    refine inL_exec (ro := some l) rfl (by intro c h; cases h) _ _ (exec_build36 _ _ (.tmp 12) rfl key hkl rfl W) ?_
    obtain ⟨i0, hi0, hz0, hz1, hz2⟩ := info_parts Tryz.info32p
    have hal := heap_alloc_new W (.cells (keyV key).toArray 32)
    have t1 : Turn (fun _ => False) W (W.alloc (.cells (keyV key).toArray 32)) := (Turn.refl _ W).alloc _
    obtain ⟨W1, hW1⟩ : ∃ W1, W.alloc (.cells (keyV key).toArray 32) = W1 := ⟨_, rfl⟩
    rw [hW1] at hal t1 ⊢
    have hrow1 := HROW.out.kept (grown_of_turn t1) (by cases la <;> simp [Value.ownBlock])
    have hkv : (keyV key).length = 32 := by rw [keyV, List.length_map]; exact hkl
    refine wpListIn_append_own W1 rfl (.tmp 10) (.tmp 13) 36 rfl W5.heap.size 32 i0 _ 32 32 Tryz.underlying36 hi0 hz0 hz1 hz2 rfl (by decide) _ i _ rfl hrow1 ⟨W.heap.size, 0, none⟩ 1 1 (keyV key) rfl (by rw [hkv])
      (fun j u hj => by have := cell_of_row W1 W.heap.size j _ 32 (0, 0) hal; rw [show (⟨W.heap.size, 0, none⟩ : Addr).add j = ⟨W.heap.size, j, none⟩ by cases j <;> simp [Addr.add], this]; simpa using hj) (fun u hu => by obtain ⟨y, _, rfl⟩ := List.mem_map.1 hu; rfl) (by unfold maxLen; omega) (by omega) (by have := t1.size; omega) ?_
    intro v' W2 ho2 hg2 hnil
    obtain ⟨la2, lc2, rfl⟩ := row_form36 ho2
    have hlt1 : ∀ k, (Value.slice la i lc).ownBlock = some k → W5.heap.size ≤ k := fun k hk => (hrow1.lt k hk).1
    have t2 : Turn (fun k => (Value.slice la i lc).ownBlock = some k) W1 W2 := ⟨hg2.os, hg2.tape, hg2.output, hg2.size, fun k hk hq => hg2.block k hk (fun e => hq e.symm)⟩
    have hsz1 := t1.size
    have hsz2 := t2.size
    have hbx2 : W2.heap[w.heap.size]? = some (.cells #[.slice la i lc] 36 (0, 0)) := by
      have := HI.out.box
      rw [HPI.out] at this
      exact (t2.block _ (by omega) (fun e => by have := hlt1 _ e; omega)).trans ((t1.block _ (by omega) id).trans this)
    have c9' : W2.cell? ⟨w.heap.size, 0, none⟩ = some (.slice la i lc) := cell_of_row _ _ 0 _ 36 (0, 0) hbx2
    have f9' : W2.frozen? ⟨w.heap.size, 0, none⟩ = false := frozen_of_row _ _ 0 _ 36 hbx2
    obtain ⟨W3, hW3⟩ : ∃ W3, W2.setCell ⟨w.heap.size, 0, none⟩ (.slice la2 (i + 1) lc2) = W3 := ⟨_, rfl⟩
    have hbx3 := heap_setCell_same W2 w.heap.size 0 #[.slice la i lc] 36 (.slice la2 (i + 1) lc2) hbx2
    have t3 : Turn (fun q => q = w.heap.size) W2 W3 := by rw [← hW3]; exact Turn.setCell (S := fun q => q = w.heap.size) (Turn.refl _ _) (p := ⟨w.heap.size, 0, none⟩) (fun _ => rfl) _
    have g3 := grownBy_setCell' W2 w.heap.size (.slice la2 (i + 1) lc2)
    have k12 : KeepsOthers W W2 := (by rw [← hW1]; exact KeepsOthers.alloc W _ : KeepsOthers W W1).trans (KeepsOthers.of_grownBy hg2 (fun j ob e hj => by
      rcases hrow1.2 with ⟨h9, _⟩ | ⟨g', cap, cur, h9, _, hgb, _⟩
      · rw [h9] at e; cases e
      · rw [h9] at e; cases e; rw [hgb] at hj; cases hj; rfl))
    have k3 : KeepsOthers W2 W3 := by rw [← hW3]; exact KeepsOthers.setCell _ _ _
    rw [hW3] at hbx3 g3
    have HT3 := Lib.hid (show Turn (fun q => q = w.heap.size ∨ W5.heap.size ≤ q) W W3 from ((t1.mono (fun _ _ h => h.elim)).trans (t2.mono (T := fun q => q = w.heap.size ∨ W5.heap.size ≤ q) (fun q _ h => .inr (hlt1 q h))) (fun _ _ h => h)).trans (t3.mono (T := fun q => q = w.heap.size ∨ W5.heap.size ≤ q) (fun q _ h => .inl h)) (fun _ _ h => h))
    have HKP := Lib.hid (k12.trans k3)
    have HB3 := Lib.hid hbx3
    have HO3 := Lib.hid (ho2.kept g3 (.inr (fun e => by have := (ho2.lt _ e).1; omega)))
    clear t1 t2 t3 g3 k12 k3 hbx3 hal hW1 hbx2 hrow1 ho2 hg2 hnil
    gi_wp2
    refine ⟨HKP.out.from _, HKP.out.walks, _, HB3.out, ?_, HI.out.turn.trans HT3.out (fun k hk h => by omega)⟩
    have e1 : keysV (pre ++ [x]) = keysV pre ++ keyV key := by simp [keysV, HKEY.out]
    rw [e1, List.length_append, List.length_singleton, HPI.out]
    exact HO3.out
  case done =>
    rintro D xs W hD rfl ⟨lv, hI⟩ hK
    obtain ⟨la, lc, rfl⟩ := row_form36 hI.row
    have hcall := HSO.out W W5.heap.size _ hI.row
    obtain ⟨m, hm⟩ : ∃ m, (objsTo sl hg 48).length = m := ⟨_, rfl⟩
    have hrow := hI.row
    have hbox := hI.box
    rw [hm] at hcall hrow hbox
    have hszW := hI.turn.size
    have c3 : W.cell? ⟨w.heap.size, 0, none⟩ = some (.slice la m lc) := cell_of_row _ _ 0 _ 36 (0, 0) hbox
    have HC := Lib.hid hcall
    have HROW := Lib.hid hrow
    have HBOX := Lib.hid hbox
    have HTW := Lib.hid (show Turn (fun _ => False) w W from HT.out.trans hI.turn (fun k hk e => by omega))
    have HKD := Lib.hid hK
    have HM := Lib.hid hm
    clear hI hcall hrow hbox hK hm
    gi_wp2
    refine ⟨trivial, ?_⟩
    refine (calls_wide (ro := none) HC.out).mono ?_
    rintro e W2 ⟨⟨v, rfl⟩, ys, hR, hrow2, t2⟩
    have hlt : ∀ k, (Value.slice la m lc).ownBlock = some k → W5.heap.size ≤ k ∧ k < W.heap.size := HROW.out.lt
    have hsz2 := t2.size
    have b2 : W2.heap[w.heap.size]? = some (.cells #[.slice la m lc] 36 (0, 0)) := (t2.block _ (by omega) (fun e => by have := (hlt _ e).1; omega)).trans HBOX.out
    have c2 : W2.cell? ⟨w.heap.size, 0, none⟩ = some (.slice la m lc) := cell_of_row _ _ 0 _ 36 (0, 0) b2
    have hDlt : D < W.heap.size := (Array.getElem?_eq_some_iff.1 HKD.out).1
    have hDn : (Value.slice la m lc).ownBlock ≠ some D := fun e => by
      rcases HROW.out.2 with ⟨h9, _⟩ | ⟨g', cap, cur, h9, _, hgb, _⟩
      · rw [h9] at e; cases e
      · rw [h9] at e; cases e; rw [HKD.out] at hgb; cases hgb
    have hK7 : W2.heap[D]? = some (.deferred (some [])) := (t2.block D hDlt hDn).trans HKD.out
    have hgr := grownBy_putObj' W2 D (.deferred none)
    have tf : Turn (fun _ => False) w (W2.putObj D (.deferred none)) := (HTW.out.trans t2 (fun k hk e => by have := (hlt _ e).1; omega)).trans (show Turn (fun q => q = D) W2 _ from ⟨hgr.os, hgr.tape, hgr.output, hgr.size, fun k hk hq => hgr.block k hk (fun e => hq (by cases e; rfl))⟩) (fun k hk e => by have := HT.out.size; omega)
    have hrf := hrow2.kept hgr (.inr hDn)
    have hrf2 : (W2.putObj D (.deferred none)).ownsRow w.heap.size 32 32 (.slice la m lc) m ys := ⟨hrf.1, hrf.2.imp id (fun ⟨g', cap, cur, h1, h2, h3⟩ => ⟨g', cap, cur, h1, by omega, h3⟩)⟩
    have HTF := Lib.hid tf
    have HRF := Lib.hid hrf2
    have HRR := Lib.hid hR
    clear hgr tf hrf hrf2 hrow2 t2 b2 hR
    gi_wp2
    refine ⟨by simp, .inl ⟨_, _, rfl, run_takeDeferred hK7, ?_⟩⟩
    refine ⟨.slice la m lc, ?_, _, ys, rfl, HRR.out, ?_, HTF.out⟩
    · have hr : Tryz.f13.results = #[.tmp 2] := by kernel_rfl
      simp [results, hr]
    · rw [show nOb sl hs.sgood = m from HM.out]
      exact HRF.out
  case stop =>
    rintro D c pre W hD _ h
    exact h.elim
end Go.Proofs.YtboofamenpcnhaaGreatDoor
namespace Go.Proofs.YtboofamenpcnhaaGreatDoor
set_option maxRecDepth 100000
open Go.RowKit Go.Shelf
set_option linter.unusedVariables false
set_option linter.unusedSimpArgs false
end Go.Proofs.YtboofamenpcnhaaGreatDoor
