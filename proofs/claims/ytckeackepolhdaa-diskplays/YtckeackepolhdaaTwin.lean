/- Own contracts: another disk like it. No statement is proved here. -/
import Derived.Test.YtckeackepolhdaaNew
namespace Go.Proofs.Ytckeackepolhdaa
open Go.RowKit
set_option linter.unusedVariables false
set_option linter.unusedSimpArgs false

def flatS (l : List (List Int)) : List Value := l.flatMap secV
theorem flatS_len (l : List (List Int)) (h : ∀ s ∈ l, s.length = 64) : (flatS l).length = l.length * 64 := by
  induction l with
  | nil => rfl
  | cons x l ih =>
    have h1 : (secV x).length = 64 := by rw [secV_len]; exact h x List.mem_cons_self
    have h2 := ih (fun y hy => h y (List.mem_cons_of_mem _ hy))
    simp only [flatS, List.flatMap_cons, List.length_append, h1, List.length_cons] at h2 ⊢
    omega
theorem flatS_at (l : List (List Int)) (h : ∀ s ∈ l, s.length = 64) (i : Nat) (x : List Int) (hx : l[i]? = some x) (j : Nat) (hj : j < 64) : (flatS l)[i * 64 + j]? = (secV x)[j]? := by
  induction l generalizing i with
  | nil => simp at hx
  | cons y l ih =>
    have h1 : (secV y).length = 64 := by rw [secV_len]; exact h y List.mem_cons_self
    cases i with
    | zero =>
      obtain rfl : y = x := by simpa using hx
      simp only [flatS, List.flatMap_cons]
      rw [List.getElem?_append_left (by omega)]; simp
    | succ i =>
      simp only [flatS, List.flatMap_cons]
      rw [List.getElem?_append_right (by omega), h1, show (i + 1) * 64 + j - 64 = i * 64 + j by omega]
      exact ih (fun z hz => h z (List.mem_cons_of_mem _ hz)) i (by simpa using hx)
theorem flatS_one (l : List (List Int)) : ∀ v ∈ flatS l, v.oneCell' = true := fun v hv => by
  obtain ⟨s, _, hs⟩ := List.mem_flatMap.1 hv
  exact secV_one s v hs
theorem flatW_one (l : List (Nat × List Int)) : ∀ v ∈ flatW l, v.oneCell' = true := fun v hv => by
  obtain ⟨s, _, hs⟩ := List.mem_flatMap.1 hv
  exact wrV_one s v hs
theorem safe_cells {w : World} {S : Nat} {l : List (List Int)} (h : SafeAt w S l) (hl : ∀ s ∈ l, s.length = 64) : ∀ (j : Nat) u, (flatS l)[j]? = some u → w.cell? ((⟨S, 0, none⟩ : Addr).add j) = some u := fun j u hj => by
  have hjl : j < (flatS l).length := (List.getElem?_eq_some_iff.1 hj).1
  rw [flatS_len l hl] at hjl
  have hi : j / 64 < l.length := by omega
  have hx : l[j / 64]? = some (l[j / 64]) := List.getElem?_eq_getElem hi
  have h1 := flatS_at l hl (j / 64) _ hx (j % 64) (Nat.mod_lt _ (by omega))
  rw [show j / 64 * 64 + j % 64 = j by omega, hj] at h1
  have h2 := (h (j / 64) _ hx).1 (j % 64) u h1.symm
  rw [show j / 64 * 64 + j % 64 = j by omega] at h2
  rw [Addr.add_mid, Nat.zero_add]; exact h2
theorem safe_of_owns {w : World} {base g n c : Nat} {l : List (List Int)} (h : w.ownsRow base 53 64 (.slice (some ⟨g, 0, none⟩) n c) n (flatS l)) (hn : l.length = n) (hl : ∀ s ∈ l, s.length = 64) : SafeAt w g l ∧ n ≤ c := by
  rcases h.2 with ⟨h', _⟩ | ⟨g', cap', cur, h', _, hg, hnc, _, hcs, htake⟩
  · cases h'
  · simp only [Value.slice.injEq, Option.some.injEq, Addr.mk.injEq, and_true, true_and] at h'
    obtain ⟨rfl, rfl⟩ := h'
    refine ⟨fun i s hs => ?_, hnc⟩
    have hi : i < l.length := (List.getElem?_eq_some_iff.1 hs).1
    have h64 := hl s (List.mem_of_getElem? hs)
    have key : ∀ j, j < 64 → w.cell? ⟨g, i * 64 + j, none⟩ = (secV s)[j]? := fun j hj => by
      rw [h.cellAt (i * 64 + j) (by omega), flatS_at l hl i s hs j hj]
    refine ⟨fun j v hv => ?_, fun j hj => ⟨?_, frozen_of_row _ _ _ _ 53 hg⟩⟩
    · have hj : j < (secV s).length := (List.getElem?_eq_some_iff.1 hv).1
      rw [secV_len, h64] at hj
      rw [key j hj]; exact hv
    · rw [key j hj, List.getElem?_eq_getElem (by rw [secV_len, h64]; exact hj)]; rfl

set_option maxHeartbeats 1600000 in
set_option maxRecDepth 100000 in
theorem clone53_any (w : World) (S sc : Nat) (l : List (List Int)) (hs : SafeAt w S l) (hl : ∀ s ∈ l, s.length = 64) (hn : l.length ≤ 4096) :
    Calls Try.prog 27 #[.slice (some ⟨S, 0, none⟩) l.length sc] w fun e w' => ∃ g c, e = .returned (.slice (some ⟨g, 0, none⟩) l.length c) ∧ l.length ≤ c ∧ SafeAt w' g l ∧ w.heap.size ≤ g ∧ g < w'.heap.size ∧ Turn (fun _ => False) w w' := by
  obtain ⟨i0, hi, hz0, hz1, hz2⟩ := info_parts Try.info53
  have hnil : ∀ w, (binOp .eql 46 (.slice (some ⟨S, 0, none⟩) l.length sc) (.slice none 0 0)).run Try.prog w = .ok (.bool false) w := fun w => Lib.run_eql_slice_nil (P := Try.prog) w 46 53 _ _ _ 0 0 Try.underlying46
  have T0 := (Turn.refl (fun _ => False) w).alloc (.cells #[] 53)
  have HN := Lib.hid (safe_cells (hs.turn T0 id) hl)
  have HL := Lib.hid hl
  clear hs
  have ho := World.ownsRow_lit (base := w.heap.size) (e := 53) (size := 64) w #[] 0 (Nat.le_refl _) (by unfold maxLen; omega) (by simp)
  go_enter Try.func27, Try.ntmps27
  go_wp2_with (at_builtin; refine wpList_append_where _ rfl (.tmp 5) (.tmp 6) 46 rfl w.heap.size 53 i0 _ 64 64 Try.underlying46 hi hz0 hz1 hz2 (by simp [Value.cells, secV_len, noughts_len]) (by decide) _ 0 [] rfl ho ⟨S, 0, none⟩ l.length sc (flatS l) rfl (flatS_len l HL.out) HN.out (flatS_one l) ?c3 ?c4 ?c5 ?_)
  case c3 => unfold maxLen; omega
  case c4 => omega
  intro v' w1 hown hgrow hfresh hiff
  have hT : Turn (fun _ => False) w w1 := T0.grown hgrow (fun k h hk => by simp [Value.ownBlock] at h; omega)
  try simp only [Nat.zero_add, List.nil_append] at hown
  obtain ⟨g, c, rfl⟩ : ∃ g c, v' = .slice (some ⟨g, 0, none⟩) l.length c := by
    rcases hown.2 with ⟨h, _⟩ | ⟨g, cap, cur, h, _⟩
    · exact absurd h hiff
    · exact ⟨g, cap, h⟩
  have hge := hown.lt g rfl
  obtain ⟨hsafe, hc⟩ := safe_of_owns hown rfl HL.out
  clear hgrow hfresh ho hiff hown
  go_wp2
  go_ret
  exact ⟨g, c, rfl, hc, hsafe, hge.1, hge.2, hT⟩

set_option maxHeartbeats 1600000 in
set_option maxRecDepth 100000 in
theorem clone55_any (w : World) (wv : Value) (l : List (Nat × List Int)) (hw : w.ownsRow 0 55 65 wv l.length (flatW l)) (hl : WetOk l) (hn : l.length ≤ 1000000000000) :
    Calls Try.prog 28 #[wv] w fun e w' => ∃ v', e = .returned v' ∧ w'.ownsRow 0 55 65 v' l.length (flatW l) ∧ (∀ k, v'.ownBlock = some k → w.heap.size ≤ k) ∧ Turn (fun _ => False) w w' := by
  obtain ⟨i0, hi, hz0, hz1, hz2⟩ := info_parts Try.info55
  rcases hw.2 with ⟨rfl, h0⟩ | ⟨g, cap, cur, rfl, _, hgg, hnc, _⟩
  · have hnil : ∀ w, (binOp .eql 47 (.slice none 0 0) (.slice none 0 0)).run Try.prog w = .ok (.bool true) w := fun w => Lib.run_eql_slice_nil (P := Try.prog) w 47 55 none 0 0 0 0 Try.underlying47
    have HW := Lib.hid hw
    clear hw
    go_enter Try.func28, Try.ntmps28
    go_wp2
    go_ret
    exact ⟨_, rfl, HW.out, fun k hk => (by cases hk), Turn.refl _ _⟩
  · have hnil : ∀ w, (binOp .eql 47 (.slice (some ⟨g, 0, none⟩) l.length cap) (.slice none 0 0)).run Try.prog w = .ok (.bool false) w := fun w => Lib.run_eql_slice_nil (P := Try.prog) w 47 55 _ _ _ 0 0 Try.underlying47
    have T0 := (Turn.refl (fun _ => False) w).alloc (.cells #[] 55)
    have hw0 := T0.owns hw (fun _ _ => id)
    have HN := Lib.hid (hw0.cells (g := g) rfl)
    have HL := Lib.hid hl
    clear hw hw0 hgg
    have ho := World.ownsRow_lit (base := w.heap.size) (e := 55) (size := 65) w #[] 0 (Nat.le_refl _) (by unfold maxLen; omega) (by simp)
    go_enter Try.func28, Try.ntmps28
    go_wp2_with (at_builtin; refine wpList_append_where _ rfl (.tmp 5) (.tmp 6) 47 rfl w.heap.size 55 i0 _ 65 72 Try.underlying47 hi hz0 hz1 hz2 (by simp [Value.cells, zeroW]) (by decide) _ 0 [] rfl ho ⟨g, 0, none⟩ l.length cap (flatW l) rfl (flatW_len l HL.out) HN.out (flatW_one l) ?c3 ?c4 ?c5 ?_)
    case c3 => unfold maxLen; omega
    case c4 => omega
    intro v' w1 hown hgrow hfresh hiff
    have hT : Turn (fun _ => False) w w1 := T0.grown hgrow (fun k h hk => by simp [Value.ownBlock] at h; omega)
    try simp only [Nat.zero_add, List.nil_append] at hown
    have hge : ∀ k, v'.ownBlock = some k → w.heap.size ≤ k := fun k hk => (hown.lt k hk).1
    have hown0 : w1.ownsRow 0 55 65 v' l.length (flatW l) := by
      refine ⟨hown.1, ?_⟩
      rcases hown.2 with h | ⟨g', cap', cur', h1, h2, h3⟩
      · exact .inl h
      · exact .inr ⟨g', cap', cur', h1, Nat.zero_le _, h3⟩
    obtain ⟨a', c', rfl⟩ := wet_form hown0
    have HO := Lib.hid hown0
    clear hgrow hfresh ho hiff hown hown0
    go_wp2
    go_ret
    exact ⟨_, rfl, HO.out, hge, hT⟩

theorem zero49 (w : World) : (zeroValue 49).run Try.prog w = .ok (.agg #[.slice none 0 0, .slice none 0 0, .int .i64 0, .bool false, .int .i64 0, .bool false]) w := by kernel_rfl
theorem size49 : (Try.prog.info? 49).map (·.size) = some 6 := by kernel_rfl
def TwinPost (w : World) (d : DiskM) (e : Ending) (w' : World) : Prop :=
  ∃ F T S sc wv, e = .returned (.pointer (some ⟨T, 0, none⟩)) ∧ DiskIn w' F T S sc wv d ∧ (∀ k, F k → w.heap.size ≤ k) ∧ Turn (fun _ => False) w w'
theorem head_setCells {w : World} {D : Nat} {h : HeadM} (h' : HeadM) (hd : Head w D h) : ∀ (W : World), w.setCells D 0 h'.cells.toList = W → Head W D h' := by
  intro W hW
  have e : w.setCells D 0 h'.cells.toList = (((((w.setCell ⟨D, 0, none⟩ h'.sv).setCell ⟨D, 1, none⟩ h'.wv).setCell ⟨D, 2, none⟩ (.int .i64 (h'.acts : Int))).setCell ⟨D, 3, none⟩ (.bool h'.armed)).setCell ⟨D, 4, none⟩ (.int .i64 (h'.left : Int))).setCell ⟨D, 5, none⟩ (.bool h'.off) := rfl
  rw [← hW, e]
  have h1 : Head (w.setCell ⟨D, 0, none⟩ h'.sv) D { h with sv := h'.sv } := hd.set 0 _ rfl
  have h2 : Head _ D { h with sv := h'.sv, wv := h'.wv } := h1.set 1 h'.wv rfl
  have h3 : Head _ D { h with sv := h'.sv, wv := h'.wv, acts := h'.acts } := h2.set 2 (.int .i64 (h'.acts : Int)) rfl
  have h4 : Head _ D { h with sv := h'.sv, wv := h'.wv, acts := h'.acts, armed := h'.armed } := h3.set 3 (.bool h'.armed) rfl
  have h5 : Head _ D { h with sv := h'.sv, wv := h'.wv, acts := h'.acts, armed := h'.armed, left := h'.left } := h4.set 4 (.int .i64 (h'.left : Int)) rfl
  exact h5.set 5 (.bool h'.off) rfl

set_option maxHeartbeats 4000000 in
set_option maxRecDepth 100000 in
theorem twin_any (w : World) (F : Nat → Prop) (D S sc : Nat) (wv : Value) (d : DiskM) (h : DiskIn w F D S sc wv d) (hwl : d.wet.length ≤ 1000000000000) :
    Calls Try.prog 20 #[.pointer (some ⟨D, 0, none⟩)] w (TwinPost w d) := by
  have hz49 := zero49
  obtain ⟨wa, wc, rfl⟩ := wet_form h.wet
  have HD := Lib.hid h
  have hcells : w.rangeAt D 0 (d.head S sc (.slice wa d.wet.length wc)).cells.toList := fun j v hv => by
    rw [Nat.zero_add, h.head.cell j]; simpa using hv
  have hsz6 : (d.head S sc (.slice wa d.wet.length wc)).cells.size = 6 := rfl
  clear h
  obtain ⟨hm, hhm⟩ : ∃ hm, d.head S sc (.slice wa d.wet.length wc) = hm := ⟨_, rfl⟩
  rw [hhm] at hcells hsz6
  have HM := Lib.hid hhm
  have hone : hm.cells.all (·.oneCell') = true := by rw [← hhm]; simp [HeadM.cells, DiskM.head, Value.oneCell']
  clear hhm
  have hsz : (Try.prog.info? 49).map (·.size) = some hm.cells.size := by rw [hsz6]; exact size49
  have hsz' : (Try.prog.info? 49).map (·.size) = some hm.cells.toList.length := by rw [Array.length_toList, hsz6]; exact size49
  have hlt := HD.out.head.lt
  go_enter Try.func20, Try.ntmps20
  go_wp2_with (first
    | (with_reducible (show wpList _ _ _ (Oper.mk (some 8) (.load 49 (.tmp 7)) _ _ _ _ :: _) _ _)
       refine wpList_load_mid (op := ⟨some 8, .load 49 (.tmp 7), _, _, _, _⟩) rfl 49 (.tmp 7) rfl D 0 rfl hm.cells.toList _ hcells Try.underlying49 rfl hsz' ?_
       rw [Array.toArray_toList])
    | (with_reducible (show wpList _ _ _ (Oper.mk none (.store 49 (.tmp 3) (.tmp 8)) _ _ _ _ :: _) _ _)
       have hH0 : Head (w.alloc (.cells #[.slice none 0 0, .slice none 0 0, .int .i64 0, .bool false, .int .i64 0, .bool false] 49)) w.heap.size ⟨.slice none 0 0, .slice none 0 0, 0, false, 0, false⟩ := heap_alloc_new w _
       have T1 := (Turn.refl (fun _ => False) w).alloc (.cells #[.slice none 0 0, .slice none 0 0, .int .i64 0, .bool false, .int .i64 0, .bool false] 49)
       generalize w.alloc (.cells #[.slice none 0 0, .slice none 0 0, .int .i64 0, .bool false, .int .i64 0, .bool false] 49) = W at hH0 T1 ⊢
       refine wpList_store_mid (op := ⟨none, .store 49 (.tmp 3) (.tmp 8), _, _, _, _⟩) rfl 49 (.tmp 3) (.tmp 8) rfl w.heap.size 0 hm.cells rfl rfl (fun j hj => by rw [hsz6] at hj; rw [Nat.zero_add]; exact ⟨by rw [hH0.cell j]; match j, hj with | 0, _ => rfl | 1, _ => rfl | 2, _ => rfl | 3, _ => rfl | 4, _ => rfl | 5, _ => rfl, hH0.free j⟩) hsz hone ?_
       have hH2 := head_setCells hm hH0 _ rfl
       have T2 := T1.trans (turn_setCells w.heap.size hm.cells.toList 0 W) (fun q hq h => by omega)
       generalize W.setCells w.heap.size 0 hm.cells.toList = w2 at hH2 T2 ⊢
       clear T1 hH0
       generalize hT : w.heap.size = T at hH2 ⊢))
  have HD2 := Lib.hid (HD.out.turn T2 (fun _ _ => id))
  obtain ⟨c0, c1, _⟩ := HD2.out.head.all
  dsimp only [DiskM.head] at c0 c1
  have hDT : D ≠ T := by omega
  have hDlt2 : D < w2.heap.size := HD2.out.head.lt
  have hTlt2 : T < w2.heap.size := hH2.lt
  refine wp_region_held_drew (S := fun w' => w'.cell? ⟨D, 0, none⟩ = some (.slice (some ⟨S, 0, none⟩) d.safe.length sc) ∧ w'.cell? ⟨D, 1, none⟩ = some (.slice wa d.wet.length wc)) (by kernel_rfl) ⟨c0, c1⟩ (fun hHeld => ?_)
  refine wpAnyH_take (i := 0) (v := .pointer (some ⟨D, 0, none⟩)) rfl (by kernel_rfl) (by kernel_rfl) (by kernel_rfl) (fun _ _ _ h => h) (Or.inl ⟨by rfl, ?y0⟩) (by assumption) ?r0
  case y0 => (intro w hSw; (try dsimp only at hSw); (try simp only [List.getElem_toArray, List.getElem_cons_zero, List.getElem_cons_succ]); go_simp; try with_reducible rfl)
  case r0 =>
  try simp only [Act.put, List.setIfInBounds_toArray, List.set_cons_zero, List.set_cons_succ, List.getElem_toArray, List.getElem_cons_zero, List.getElem_cons_succ]
  refine wpAnyH_take (i := 1) (v := .pointer (some ⟨D, 0, none⟩)) rfl (by kernel_rfl) (by kernel_rfl) (by kernel_rfl) (fun _ _ _ h => h) (Or.inl ⟨by rfl, ?y1⟩) (by assumption) ?r1
  case y1 => (intro w hSw; (try dsimp only at hSw); (try simp only [List.getElem_toArray, List.getElem_cons_zero, List.getElem_cons_succ]); go_simp; try with_reducible rfl)
  case r1 =>
  try simp only [Act.put, List.setIfInBounds_toArray, List.set_cons_zero, List.set_cons_succ, List.getElem_toArray, List.getElem_cons_zero, List.getElem_cons_succ]
  refine wpAnyH_take (i := 2) (v := .pointer (some ⟨D, 0, none⟩)) rfl (by kernel_rfl) (by kernel_rfl) (by kernel_rfl) (fun _ _ _ h => h) (Or.inl ⟨by rfl, ?y2⟩) (by assumption) ?r2
  case y2 => (intro w hSw; (try dsimp only at hSw); (try simp only [List.getElem_toArray, List.getElem_cons_zero, List.getElem_cons_succ]); go_simp; try with_reducible rfl)
  case r2 =>
  try simp only [Act.put, List.setIfInBounds_toArray, List.set_cons_zero, List.set_cons_succ, List.getElem_toArray, List.getElem_cons_zero, List.getElem_cons_succ]
  refine wpAnyH_take (i := 3) (v := .slice (some ⟨S, 0, none⟩) d.safe.length sc) rfl (by kernel_rfl) (by kernel_rfl) (by kernel_rfl) (fun _ _ _ h => h) (Or.inl ⟨by rfl, ?y3⟩) (by assumption) ?r3
  case y3 => (intro wq hSw; (have hs1 := hSw.1); (have hs2 := hSw.2); (try simp only [List.getElem_toArray, List.getElem_cons_zero, List.getElem_cons_succ]); go_simp; try with_reducible rfl)
  case r3 =>
  try simp only [Act.put, List.setIfInBounds_toArray, List.set_cons_zero, List.set_cons_succ, List.getElem_toArray, List.getElem_cons_zero, List.getElem_cons_succ]
  refine wpAnyH_take (i := 5) (v := .pointer (some ⟨D, 0, none⟩)) rfl (by kernel_rfl) (by kernel_rfl) (by kernel_rfl) (fun _ _ _ h => h) (Or.inl ⟨by rfl, ?y5⟩) (by assumption) ?r5
  case y5 => (intro w hSw; (try dsimp only at hSw); (try simp only [List.getElem_toArray, List.getElem_cons_zero, List.getElem_cons_succ]); go_simp; try with_reducible rfl)
  case r5 =>
  try simp only [Act.put, List.setIfInBounds_toArray, List.set_cons_zero, List.set_cons_succ, List.getElem_toArray, List.getElem_cons_zero, List.getElem_cons_succ]
  refine wpAnyH_take (i := 6) (v := .pointer (some ⟨D, 0, none⟩)) rfl (by kernel_rfl) (by kernel_rfl) (by kernel_rfl) (fun _ _ _ h => h) (Or.inl ⟨by rfl, ?y6⟩) (by assumption) ?r6
  case y6 => (intro w hSw; (try dsimp only at hSw); (try simp only [List.getElem_toArray, List.getElem_cons_zero, List.getElem_cons_succ]); go_simp; try with_reducible rfl)
  case r6 =>
  try simp only [Act.put, List.setIfInBounds_toArray, List.set_cons_zero, List.set_cons_succ, List.getElem_toArray, List.getElem_cons_zero, List.getElem_cons_succ]
  refine wpAnyH_take (i := 7) (v := .pointer (some ⟨D, 1, none⟩)) rfl (by kernel_rfl) (by kernel_rfl) (by kernel_rfl) (fun _ _ _ h => h) (Or.inl ⟨by rfl, ?y7⟩) (by assumption) ?r7
  case y7 => (intro w hSw; (try dsimp only at hSw); (try simp only [List.getElem_toArray, List.getElem_cons_zero, List.getElem_cons_succ]); go_simp; try with_reducible rfl)
  case r7 =>
  try simp only [Act.put, List.setIfInBounds_toArray, List.set_cons_zero, List.set_cons_succ, List.getElem_toArray, List.getElem_cons_zero, List.getElem_cons_succ]
  refine wpAnyH_take (i := 8) (v := .slice wa d.wet.length wc) rfl (by kernel_rfl) (by kernel_rfl) (by kernel_rfl) (fun _ _ _ h => h) (Or.inl ⟨by rfl, ?y8⟩) (by assumption) ?r8
  case y8 => (intro wq hSw; (have hs1 := hSw.1); (have hs2 := hSw.2); (try simp only [List.getElem_toArray, List.getElem_cons_zero, List.getElem_cons_succ]); go_simp; try with_reducible rfl)
  case r8 =>
  try simp only [Act.put, List.setIfInBounds_toArray, List.set_cons_zero, List.set_cons_succ, List.getElem_toArray, List.getElem_cons_zero, List.getElem_cons_succ]
  refine wpAnyH_ready (rs := [4]) (by kernel_rfl) (by simp) ?_
  refine AllReadyH.cons rfl (fun K hK => ?_) AllReadyH.nil
  go_simp
  refine (clone53_any w2.drew S sc d.safe (HD2.out.safe.turn ((Turn.refl (fun _ => False) w2).drew) id) (fun s hs => (HD.out.ok.safe s hs).1) HD.out.few).mono ?_
  rintro e w3 ⟨g, gc, rfl, hgc, hsafe3, hg, hg2, t3'⟩
  have t3 : Turn (fun _ => False) w2 w3 := t3'.of_drew
  have hgd : w2.heap.size ≤ g := hg
  clear t3' hg
  have hS3 := And.intro ((t3.cell (p := ⟨D, 0, none⟩) hDlt2 id).trans c0) ((t3.cell (p := ⟨D, 1, none⟩) hDlt2 id).trans c1)
  refine hK.out _ _ hS3 (fun _ => ?_)
  clear hK K
  try simp only [Act.put, List.setIfInBounds_toArray, List.set_cons_zero, List.set_cons_succ, List.getElem_toArray, List.getElem_cons_zero, List.getElem_cons_succ]
  refine wpAnyH_ready (rs := [9]) (by kernel_rfl) (by simp) ?_
  refine AllReadyH.cons rfl (fun K hK => ?_) AllReadyH.nil
  go_simp
  have HD3 := Lib.hid (HD2.out.turn t3 (fun _ _ => id))
  refine (clone55_any w3 _ d.wet HD3.out.wet HD.out.ok.wetOk hwl).mono ?_
  rintro e w4 ⟨v4, rfl, ho4, hv4, t4⟩
  have hS4 := And.intro ((t4.cell (p := ⟨D, 0, none⟩) HD3.out.head.lt id).trans hS3.1) ((t4.cell (p := ⟨D, 1, none⟩) HD3.out.head.lt id).trans hS3.2)
  refine hK.out _ _ hS4 (fun _ => ?_)
  clear hK K
  try simp only [Act.put, List.setIfInBounds_toArray, List.set_cons_zero, List.set_cons_succ, List.getElem_toArray, List.getElem_cons_zero, List.getElem_cons_succ]
  have hH4 := (hH2.turn t3 id).turn t4 id
  obtain ⟨a4, c4, rfl⟩ := wet_form ho4
  obtain ⟨d0, d1, _⟩ := hH4.all
  have f0 := hH4.free 0
  have f1 := hH4.free 1
  have T4 := (T2.trans t3 (fun _ _ => id)).trans t4 (fun _ _ => id)
  have hsafe4 := hsafe3.turn t4 id
  have hz3 := t3.size
  have hz4 := t4.size
  refine wpAnyH_take (i := 10) (v := .pointer (some ⟨T, 0, none⟩)) rfl (by kernel_rfl) (by kernel_rfl) (by kernel_rfl) (fun _ _ _ h => h) (Or.inl ⟨by rfl, ?y10⟩) (by assumption) ?r10
  case y10 => (intro w hSw; (try dsimp only at hSw); (try simp only [List.getElem_toArray, List.getElem_cons_zero, List.getElem_cons_succ]); go_simp; try with_reducible rfl)
  case r10 =>
  try simp only [Act.put, List.setIfInBounds_toArray, List.set_cons_zero, List.set_cons_succ, List.getElem_toArray, List.getElem_cons_zero, List.getElem_cons_succ]
  refine wpAnyH_ready (rs := [11]) (by kernel_rfl) (by simp) ?_
  refine AllReadyH.cons rfl (fun K hK => ?_) AllReadyH.nil
  go_simp
  have hH5 : Head (w4.setCell ⟨T, 0, none⟩ (.slice (some ⟨g, 0, none⟩) d.safe.length gc)) T { hm with sv := .slice (some ⟨g, 0, none⟩) d.safe.length gc } := hH4.set 0 _ rfl
  have t5 := turn_cell w4 T 0 (.slice (some ⟨g, 0, none⟩) d.safe.length gc)
  generalize w4.setCell ⟨T, 0, none⟩ (.slice (some ⟨g, 0, none⟩) d.safe.length gc) = w5 at hH5 t5 ⊢
  have hz5 := t5.size
  refine hK.out _ _ ⟨(t5.cell (p := ⟨D, 0, none⟩) (by show D < _; omega) hDT).trans hS4.1, (t5.cell (p := ⟨D, 1, none⟩) (by show D < _; omega) hDT).trans hS4.2⟩ (fun _ => ?_)
  clear hK K
  try simp only [Act.put, List.setIfInBounds_toArray, List.set_cons_zero, List.set_cons_succ, List.getElem_toArray, List.getElem_cons_zero, List.getElem_cons_succ]
  obtain ⟨_, e1, _⟩ := hH5.all
  have g1 := hH5.free 1
  refine wpAnyH_take (i := 12) (v := .pointer (some ⟨T, 1, none⟩)) rfl (by kernel_rfl) (by kernel_rfl) (by kernel_rfl) (fun _ _ _ h => h) (Or.inl ⟨by rfl, ?y12⟩) (by assumption) ?r12
  case y12 => (intro w hSw; (try dsimp only at hSw); (try simp only [List.getElem_toArray, List.getElem_cons_zero, List.getElem_cons_succ]); go_simp; try with_reducible rfl)
  case r12 =>
  try simp only [Act.put, List.setIfInBounds_toArray, List.set_cons_zero, List.set_cons_succ, List.getElem_toArray, List.getElem_cons_zero, List.getElem_cons_succ]
  refine wpAnyH_ready (rs := [13]) (by kernel_rfl) (by simp) ?_
  refine AllReadyH.cons rfl (fun K hK => ?_) AllReadyH.nil
  go_simp
  have hH6 : Head (w5.setCell ⟨T, 1, none⟩ (.slice a4 d.wet.length c4)) T { hm with sv := .slice (some ⟨g, 0, none⟩) d.safe.length gc, wv := .slice a4 d.wet.length c4 } := hH5.set 1 _ rfl
  have t6 := turn_cell w5 T 1 (.slice a4 d.wet.length c4)
  generalize w5.setCell ⟨T, 1, none⟩ (.slice a4 d.wet.length c4) = w6 at hH6 t6 ⊢
  have hz6 := t6.size
  have t56 := t5.trans t6 (fun _ _ h => h)
  refine hK.out _ _ ⟨(t56.cell (p := ⟨D, 0, none⟩) (by show D < _; omega) hDT).trans hS4.1, (t56.cell (p := ⟨D, 1, none⟩) (by show D < _; omega) hDT).trans hS4.2⟩ (fun _ => ?_)
  clear hK K
  try simp only [Act.put, List.setIfInBounds_toArray, List.set_cons_zero, List.set_cons_succ, List.getElem_toArray, List.getElem_cons_zero, List.getElem_cons_succ]
  refine wpAnyH_done (by kernel_rfl) ?_ _
  have hnT : ∀ k, (Value.slice a4 d.wet.length c4).ownBlock = some k → k ≠ T ∧ k ≠ g := fun k hk => by
    have := hv4 k hk
    omega
  have hdisk : DiskIn w6 (fun q => q = T ∨ q = g ∨ (Value.slice a4 d.wet.length c4).ownBlock = some q) T g gc (.slice a4 d.wet.length c4) d := by
    refine { head := ?_, cap := hgc, safe := hsafe4.turn t56 (by omega), slt := by omega, wet := t56.owns ho4 (fun k hk e => (hnT k hk).1 e), fD := .inl rfl, fS := .inr (.inl rfl), fw := fun q hq => .inr (.inr hq), nDS := by omega, nDw := fun e => (hnT T e).1 rfl, nSw := fun e => (hnT g e).2 rfl, ok := HD.out.ok, few := HD.out.few }
    rw [← HM.out] at hH6
    exact hH6
  have HDK := Lib.hid hdisk
  have HT6 := Lib.hid (T4.trans t56 (fun q hq h => by omega))
  clear hdisk hH6 hsafe4 t56 t6 hS4 hS3 hHeld
  go_wp2_with fail
  go_ret
  refine ⟨_, T, g, gc, _, rfl, HDK.out, fun k hk => ?_, HT6.out⟩
  rcases hk with h | h | h
  · omega
  · omega
  · have := hv4 k h; omega
end Go.Proofs.Ytckeackepolhdaa
