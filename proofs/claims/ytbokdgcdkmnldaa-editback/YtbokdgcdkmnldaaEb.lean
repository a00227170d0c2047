/- Own contracts: edits: cloned, reversed. No statement is proved here. -/
import Derived.Test.YtbokdgcdkmnldaaEd
import Derived.Deep.RegionHeld3
namespace Go.Proofs.Ytbokdgcdkmnldaa
set_option maxRecDepth 100000
open Go.RowKit
set_option linter.unusedVariables false
set_option linter.unusedSimpArgs false

theorem clone_eds (w : World) (v : Value) (l : List Ed) (hv : EdV w v l) (hb : l.length ≤ 1000) : Calls Try.prog 37 #[v] w (NewEds w l) := by
  rcases hv with ⟨rfl, rfl⟩ | hq
  · have hnil : ∀ w, (binOp .eql 40 (.slice none 0 0) (.slice none 0 0)).run Try.prog w = .ok (.bool true) w := fun w => Lib.run_eql_slice_nil (P := Try.prog) w 40 28 none 0 0 0 0 Try.underlying40
    go_enter Try.func37, Try.ntmps37
    go_wp2_with fail
    go_ret
    exact ⟨_, rfl, World.ownsRow_nil _ _ _ _, Turn.refl _ _⟩
  · have hv : EdV w v l := .inr hq
    obtain ⟨g, o, c, rfl, hc, _, h4⟩ := hq
    obtain ⟨n, hn⟩ : ∃ n, l.length = n := ⟨_, rfl⟩
    rw [hn] at hv hb ⊢
    have hnil : ∀ w, (binOp .eql 40 (.slice (some ⟨g, o, none⟩) n c) (.slice none 0 0)).run Try.prog w = .ok (.bool false) w := fun w => Lib.run_eql_slice_nil (P := Try.prog) w 40 28 _ _ _ 0 0 Try.underlying40
    have hown := World.ownsRow_lit (base := w.heap.size) (e := 28) (size := 16) w #[] 0 (Nat.le_refl _) (by unfold maxLen; omega) (by simp)
    have T0 := (Turn.refl (fun _ => False) w).alloc (.cells #[] 28)
    obtain ⟨v', w', hr, ho, t⟩ := app_eds (w.alloc (.cells #[] 28)) w.heap.size 40 40 Try.underlying40 _ _ [] l hown (hv.turn T0 (fun _ _ => id)) (by simp) (by simp; omega)
    have t2 := turn_on_ed hown (Nat.le_refl _) T0 t
    obtain ⟨a5, c5, hv5⟩ := own_slice_ed ho
    subst hv5
    have HN := Lib.hid hn
    have HR := Lib.hid hr
    have HO := Lib.hid ho
    have HT := Lib.hid t2
    clear hr ho t2 t hown hv h4 hn hc T0
    go_enter Try.func37, Try.ntmps37
    go_wp2_with (with_reducible (show wpList _ _ _ (Oper.mk (some 7) _ _ _ _ _ :: _) _ _); refine still ?_)
    refine list_exec rfl _ _ (exec_append _ _ (.tmp 5) (.tmp 6) 40 rfl _ _ _ _ _ rfl rfl HR.out) ?_
    go_wp2_with fail
    go_ret
    exact ⟨_, rfl, by unfold OwE; simpa using HO.out, HT.out⟩
/-- In place, from both ends. -/
def revAt (l : List Ed) (i : Nat) (cur : List Ed) : Prop := cur.length = l.length ∧ ∀ k, k < l.length → cur.getD k ed0 = if k < i ∨ l.length < k + i + 1 then l.getD (l.length - 1 - k) ed0 else l.getD k ed0
theorem getD_set_ed (l : List Ed) (i k : Nat) (x : Ed) (hi : i < l.length) : (l.set i x).getD k ed0 = if k = i then x else l.getD k ed0 := by
  simp only [List.getD_eq_getElem?_getD, List.getElem?_set]
  by_cases e : i = k
  · subst e; simp [hi]
  · rw [if_neg e, if_neg (fun h => e h.symm)]
theorem revAt.step {l cur : List Ed} {i : Nat} (h : revAt l i cur) (hi : 2 * i + 1 < l.length) : revAt l (i + 1) ((cur.set i (cur.getD (l.length - 1 - i) ed0)).set (l.length - 1 - i) (cur.getD i ed0)) := by
  obtain ⟨hl, hg⟩ := h
  refine ⟨by simp [hl], fun k hk => ?_⟩
  rw [getD_set_ed _ _ _ _ (by simp [hl]; omega), getD_set_ed _ _ _ _ (by omega), hg i (by omega), hg (l.length - 1 - i) (by omega), hg k hk]
  rw [if_neg (show ¬ (i < i ∨ l.length < i + i + 1) by omega), if_neg (show ¬ (l.length - 1 - i < i ∨ l.length < l.length - 1 - i + i + 1) by omega)]
  by_cases h1 : k = l.length - 1 - i
  · subst h1
    rw [if_pos rfl, if_pos (by omega), show l.length - 1 - (l.length - 1 - i) = i by omega]
  · rw [if_neg h1]
    by_cases h2 : k = i
    · subst h2
      rw [if_pos rfl, if_pos (by omega)]
    · rw [if_neg h2]
      by_cases h3 : k < i ∨ l.length < k + i + 1
      · rw [if_pos h3, if_pos (by omega)]
      · rw [if_neg h3, if_neg (by omega)]
theorem revAt.done {l cur : List Ed} {i : Nat} (h : revAt l i cur) (hi : l.length ≤ 2 * i + 1) : cur = l.reverse := by
  obtain ⟨hl, hg⟩ := h
  refine getD_ext_ed (by simp [hl]) (fun k hk => ?_)
  have hk' : k < l.length := by omega
  rw [hg k hk', show l.reverse.getD k ed0 = l.getD (l.length - 1 - k) ed0 by simp [List.getD_eq_getElem?_getD, List.getElem?_reverse hk']]
  split
  · rfl
  · rw [show l.length - 1 - k = k by omega]
set_option maxHeartbeats 4000000 in
theorem reverse_any (w : World) (b : Nat) (a : Option Addr) (n c : Nat) (l : List Ed) (ho : OwE b w (.slice a n c) l) (hn : l.length = n) (hb : n ≤ 1000) : Calls Try.prog 38 #[.slice a n c] w fun e w' => e = .returned (.tuple #[]) ∧ OwE b w' (.slice a n c) l.reverse ∧ Turn (fun q => (Value.slice a n c).ownBlock = some q) w w' := by
  have HO := Lib.hid ho
  have HN := Lib.hid hn
  clear ho hn
  go_enter Try.func38, Try.ntmps38
  go_wp2_with fail
  go_loopw [2, 3] (fun iv jv wr => ∃ (i : Nat) (cur : List Ed), iv = .int .i64 (i : Int) ∧ jv = .int .i64 ((n : Int) - 1 - (i : Int)) ∧ 2 * i ≤ n + 1 ∧ revAt l i cur ∧ OwE b wr (.slice a n c) cur ∧ Turn (fun q => (Value.slice a n c).ownBlock = some q) w wr) (fun iv jv _ => (intOf jv - intOf iv + 1).toNat)
  case atStart => exact ⟨0, l, rfl, by go_num, by omega, ⟨rfl, fun k hk => by rw [if_neg (by omega)]⟩, HO.out, Turn.refl _ _⟩
  case round =>
    obtain ⟨i, cur, rfl, rfl, hi2, hrv, hoc, htr⟩ := hrel
    have HRV := Lib.hid hrv
    have HOC := Lib.hid hoc
    have HT := Lib.hid htr
    clear hrv hoc htr
    by_cases hlt : 2 * i + 1 < n
    · have dl : decide ((i : Int) < (n : Int) - 1 - (i : Int)) = true := decide_eq_true (by omega)
      have hcl : cur.length = n := HRV.out.1.trans HN.out
      obtain ⟨g, rfl, hg1, hg2⟩ := HOC.out.at hcl (by omega)
      obtain ⟨j, hj⟩ : ∃ j : Nat, n - 1 - i = j := ⟨_, rfl⟩
      have hji : (n : Int) - 1 - (i : Int) = (j : Int) := by omega
      have hij : i < j ∧ j < n := by omega
      have gi : (0 : Int) ≤ (i : Int) ∧ (i : Int) < (n : Int) := by omega
      have gj : (0 : Int) ≤ (j : Int) ∧ (j : Int) < (n : Int) := by omega
      obtain ⟨g1, o1, e1, _, hxi⟩ := HOC.out.row.one hcl i (by omega)
      obtain ⟨g2, o2, e2, _, hxj⟩ := HOC.out.row.one hcl j (by omega)
      injection e1 with e1
      injection e1 with e11 e12 _
      subst e11 e12
      injection e2 with e2
      injection e2 with e21 e22 _
      subst e21 e22
      obtain ⟨xi, hxi'⟩ : ∃ xi, cur.getD i ed0 = xi := ⟨_, rfl⟩
      obtain ⟨xj, hxj'⟩ : ∃ xj, cur.getD j ed0 = xj := ⟨_, rfl⟩
      rw [hxi'] at hxi
      rw [hxj'] at hxj
      obtain ⟨wd, hwd⟩ : ∃ wd, wr.drew = wd := ⟨_, rfl⟩
      have hod : OwE b wd (.slice (some ⟨g, 0, none⟩) n c) cur := by rw [← hwd]; exact HOC.out.turn (Turn.refl (fun _ => False) wr).drew (fun _ _ => id)
      have td : Turn (fun q => q = g) wr wd := by rw [← hwd]; exact (Turn.refl (fun q => q = g) wr).drew
      have hxi := rangeAt_turn hxi (show Turn (fun _ => False) wr wd by rw [← hwd]; exact (Turn.refl (fun _ => False) wr).drew) id
      have hxj := rangeAt_turn hxj (show Turn (fun _ => False) wr wd by rw [← hwd]; exact (Turn.refl (fun _ => False) wr).drew) id
      have s1 := hod.set hcl i (by omega) xj
      have t1 := turn_setCells g xj.vals (i * 16) wd
      have th1 := (own_set_ed (show wd.ownsRow b 28 16 (.slice (some ⟨g, 0, none⟩) n c) n (edsV cur) from by have := hod; unfold OwE at this; rwa [hcl] at this) hcl i (by omega) xj).2
      obtain ⟨ws, hws⟩ : ∃ ws, wd.setCells g (i * 16) xj.vals = ws := ⟨_, rfl⟩
      rw [hws] at s1 t1
      have s2 := s1.set (by rw [List.length_set, hcl]) j (by omega) xi
      have t2 := turn_setCells g xi.vals (j * 16) ws
      have th2 := (own_set_ed (show ws.ownsRow b 28 16 (.slice (some ⟨g, 0, none⟩) n c) n (edsV (cur.set i xj)) from by have := s1; unfold OwE at this; rwa [List.length_set, hcl] at this) (by rw [List.length_set, hcl]) j (by omega) xi).2
      obtain ⟨wn, hwn⟩ : ∃ wn, ws.setCells g (j * 16) xi.vals = wn := ⟨_, rfl⟩
      rw [hwn] at s2 t2
      have hst := HRV.out.step (by rw [HN.out]; omega)
      rw [HN.out, hj, hxi', hxj'] at hst
      rw [hji] at dl ⊢
      have HXI := Lib.hid hxi
      have HXJ := Lib.hid hxj
      have S2 := Lib.hid s2
      have TT := Lib.hid ((td.trans t1 (fun _ _ h => h)).trans t2 (fun _ _ h => h))
      have TH1 := Lib.hid th1
      have TH2 := Lib.hid th2
      have HST := Lib.hid hst
      have HIJ := Lib.hid (show 2 * i + 1 < n ∧ (n : Int) - 1 - (i : Int) = (j : Int) from ⟨hlt, hji⟩)
      have HWS := Lib.hid hws
      have HWN := Lib.hid hwn
      have HWD := Lib.hid hwd
      clear s1 t1 th1 s2 t2 th2 hst hlt hi2 hj hod td hws hwn hwd hxi hxj hxi' hxj' hcl hji
      go_wp2_with fail
      refine wp_region_held_drew (S := fun _ => True) (by kernel_rfl) trivial (fun hHeld => ?_)
      rw [HWD.out]
      refine wpAnyH_take (i := 0) (v := .slice (some ⟨g, 0, none⟩) n c) rfl (by kernel_rfl) (by kernel_rfl) (by kernel_rfl) (fun _ _ _ h => h) (Or.inl ⟨by rfl, ?yq1⟩) (by assumption) ?rq1
      case yq1 => (intro wq hSw; (try simp only [List.getElem_toArray, List.getElem_cons_zero, List.getElem_cons_succ]); go_simp; (try with_reducible rfl); all_goals (try omega))
      case rq1 =>
      try simp only [Act.put, List.setIfInBounds_toArray, List.set_cons_zero, List.set_cons_succ, List.getElem_toArray, List.getElem_cons_zero, List.getElem_cons_succ]
      refine wpAnyH_take (i := 1) (v := .int .i64 (i : Int)) rfl (by kernel_rfl) (by kernel_rfl) (by kernel_rfl) (fun _ _ _ h => h) (Or.inl ⟨by rfl, ?yq2⟩) (by assumption) ?rq2
      case yq2 => (intro wq hSw; (try simp only [List.getElem_toArray, List.getElem_cons_zero, List.getElem_cons_succ]); go_simp; (try with_reducible rfl); all_goals (try omega))
      case rq2 =>
      try simp only [Act.put, List.setIfInBounds_toArray, List.set_cons_zero, List.set_cons_succ, List.getElem_toArray, List.getElem_cons_zero, List.getElem_cons_succ]
      refine wpAnyH_take (i := 2) (v := .slice (some ⟨g, 0, none⟩) n c) rfl (by kernel_rfl) (by kernel_rfl) (by kernel_rfl) (fun _ _ _ h => h) (Or.inl ⟨by rfl, ?yq3⟩) (by assumption) ?rq3
      case yq3 => (intro wq hSw; (try simp only [List.getElem_toArray, List.getElem_cons_zero, List.getElem_cons_succ]); go_simp; (try with_reducible rfl); all_goals (try omega))
      case rq3 =>
      try simp only [Act.put, List.setIfInBounds_toArray, List.set_cons_zero, List.set_cons_succ, List.getElem_toArray, List.getElem_cons_zero, List.getElem_cons_succ]
      refine wpAnyH_take (i := 3) (v := .int .i64 (j : Int)) rfl (by kernel_rfl) (by kernel_rfl) (by kernel_rfl) (fun _ _ _ h => h) (Or.inl ⟨by rfl, ?yq4⟩) (by assumption) ?rq4
      case yq4 => (intro wq hSw; (try simp only [List.getElem_toArray, List.getElem_cons_zero, List.getElem_cons_succ]); go_simp; (try with_reducible rfl); all_goals (try omega))
      case rq4 =>
      try simp only [Act.put, List.setIfInBounds_toArray, List.set_cons_zero, List.set_cons_succ, List.getElem_toArray, List.getElem_cons_zero, List.getElem_cons_succ]
      refine wpAnyH_take (i := 4) (v := .slice (some ⟨g, 0, none⟩) n c) rfl (by kernel_rfl) (by kernel_rfl) (by kernel_rfl) (fun _ _ _ h => h) (Or.inl ⟨by rfl, ?yq5⟩) (by assumption) ?rq5
      case yq5 => (intro wq hSw; (try simp only [List.getElem_toArray, List.getElem_cons_zero, List.getElem_cons_succ]); go_simp; (try with_reducible rfl); all_goals (try omega))
      case rq5 =>
      try simp only [Act.put, List.setIfInBounds_toArray, List.set_cons_zero, List.set_cons_succ, List.getElem_toArray, List.getElem_cons_zero, List.getElem_cons_succ]
      refine wpAnyH_take (i := 5) (v := .int .i64 (j : Int)) rfl (by kernel_rfl) (by kernel_rfl) (by kernel_rfl) (fun _ _ _ h => h) (Or.inl ⟨by rfl, ?yq6⟩) (by assumption) ?rq6
      case yq6 => (intro wq hSw; (try simp only [List.getElem_toArray, List.getElem_cons_zero, List.getElem_cons_succ]); go_simp; (try with_reducible rfl); all_goals (try omega))
      case rq6 =>
      try simp only [Act.put, List.setIfInBounds_toArray, List.set_cons_zero, List.set_cons_succ, List.getElem_toArray, List.getElem_cons_zero, List.getElem_cons_succ]
      refine wpAnyH_take (i := 6) (v := .pointer (some ⟨g, j * 16, none⟩)) rfl (by kernel_rfl) (by kernel_rfl) (by kernel_rfl) (fun _ _ _ h => h) (Or.inl ⟨by rfl, ?yq7⟩) (by assumption) ?rq7
      case yq7 => (intro wq hSw; (try simp only [List.getElem_toArray, List.getElem_cons_zero, List.getElem_cons_succ]); go_simp; (try with_reducible rfl); all_goals (try omega))
      case rq7 =>
      try simp only [Act.put, List.setIfInBounds_toArray, List.set_cons_zero, List.set_cons_succ, List.getElem_toArray, List.getElem_cons_zero, List.getElem_cons_succ]
      refine wpAnyH_take (i := 8) (v := .slice (some ⟨g, 0, none⟩) n c) rfl (by kernel_rfl) (by kernel_rfl) (by kernel_rfl) (fun _ _ _ h => h) (Or.inl ⟨by rfl, ?yq8⟩) (by assumption) ?rq8
      case yq8 => (intro wq hSw; (try simp only [List.getElem_toArray, List.getElem_cons_zero, List.getElem_cons_succ]); go_simp; (try with_reducible rfl); all_goals (try omega))
      case rq8 =>
      try simp only [Act.put, List.setIfInBounds_toArray, List.set_cons_zero, List.set_cons_succ, List.getElem_toArray, List.getElem_cons_zero, List.getElem_cons_succ]
      refine wpAnyH_take (i := 9) (v := .int .i64 (i : Int)) rfl (by kernel_rfl) (by kernel_rfl) (by kernel_rfl) (fun _ _ _ h => h) (Or.inl ⟨by rfl, ?yq9⟩) (by assumption) ?rq9
      case yq9 => (intro wq hSw; (try simp only [List.getElem_toArray, List.getElem_cons_zero, List.getElem_cons_succ]); go_simp; (try with_reducible rfl); all_goals (try omega))
      case rq9 =>
      try simp only [Act.put, List.setIfInBounds_toArray, List.set_cons_zero, List.set_cons_succ, List.getElem_toArray, List.getElem_cons_zero, List.getElem_cons_succ]
      refine wpAnyH_take (i := 10) (v := .pointer (some ⟨g, i * 16, none⟩)) rfl (by kernel_rfl) (by kernel_rfl) (by kernel_rfl) (fun _ _ _ h => h) (Or.inl ⟨by rfl, ?yq10⟩) (by assumption) ?rq10
      case yq10 => (intro wq hSw; (try simp only [List.getElem_toArray, List.getElem_cons_zero, List.getElem_cons_succ]); go_simp; (try with_reducible rfl); all_goals (try omega))
      case rq10 =>
      try simp only [Act.put, List.setIfInBounds_toArray, List.set_cons_zero, List.set_cons_succ, List.getElem_toArray, List.getElem_cons_zero, List.getElem_cons_succ]
      refine wpAnyH_ready (rs := [7, 11]) (by kernel_rfl) (by simp) ?_
      refine AllReadyH.cons rfl (fun K hK => ?_) (AllReadyH.cons rfl (fun K hK => ?_) AllReadyH.nil)
      · refine oper_exec _ _ (exec_load_mid _ _ 28 (.tmp 20) rfl g (j * 16) rfl xj.vals _ _ (by have := HXJ.out; rwa [Nat.zero_add] at this) Try.underlying28 rfl ed_info) ?_
        refine hK.out _ _ trivial (fun _ => ?_)
        clear hK K
        try simp only [Act.put, List.setIfInBounds_toArray, List.set_cons_zero, List.set_cons_succ, List.getElem_toArray, List.getElem_cons_zero, List.getElem_cons_succ]
        refine wpAnyH_ready (rs := [11]) (by kernel_rfl) (by simp) ?_
        refine AllReadyH.cons rfl (fun K hK => ?_) AllReadyH.nil
        refine oper_exec _ _ (exec_load_mid _ _ 28 (.tmp 24) rfl g (i * 16) rfl xi.vals _ _ (by have := HXI.out; rwa [Nat.zero_add] at this) Try.underlying28 rfl ed_info) ?_
        refine hK.out _ _ trivial (fun _ => ?_)
        clear hK K
        try simp only [Act.put, List.setIfInBounds_toArray, List.set_cons_zero, List.set_cons_succ, List.getElem_toArray, List.getElem_cons_zero, List.getElem_cons_succ]
        refine wpAnyH_take (i := 12) (v := .pointer (some ⟨g, i * 16, none⟩)) rfl (by kernel_rfl) (by kernel_rfl) (by kernel_rfl) (fun _ _ _ h => h) (Or.inl ⟨by rfl, ?yq11⟩) (by assumption) ?rq11
        case yq11 => (intro wq hSw; (try simp only [List.getElem_toArray, List.getElem_cons_zero, List.getElem_cons_succ]); go_simp; (try with_reducible rfl); all_goals (try omega))
        case rq11 =>
        try simp only [Act.put, List.setIfInBounds_toArray, List.set_cons_zero, List.set_cons_succ, List.getElem_toArray, List.getElem_cons_zero, List.getElem_cons_succ]
        refine wpAnyH_ready (rs := [13]) (by kernel_rfl) (by simp) ?_
        refine AllReadyH.cons rfl (fun K hK => ?_) AllReadyH.nil
        rw [if_pos (by rfl)]
        refine wp_store_mid 28 (.tmp 26) (.tmp 21) rfl g (i * 16) xj.vals.toArray rfl rfl TH1.out ed_info (all_oneCell_toArray xj.vals_one) ?_
        rw [show wd.setCells g (i * 16) xj.vals.toArray.toList = ws from HWS.out]
        refine hK.out _ _ trivial (fun _ => ?_)
        clear hK K
        try simp only [Act.put, List.setIfInBounds_toArray, List.set_cons_zero, List.set_cons_succ, List.getElem_toArray, List.getElem_cons_zero, List.getElem_cons_succ]
        refine wpAnyH_take (i := 14) (v := .pointer (some ⟨g, j * 16, none⟩)) rfl (by kernel_rfl) (by kernel_rfl) (by kernel_rfl) (fun _ _ _ h => h) (Or.inl ⟨by rfl, ?yq12⟩) (by assumption) ?rq12
        case yq12 => (intro wq hSw; (try simp only [List.getElem_toArray, List.getElem_cons_zero, List.getElem_cons_succ]); go_simp; (try with_reducible rfl); all_goals (try omega))
        case rq12 =>
        try simp only [Act.put, List.setIfInBounds_toArray, List.set_cons_zero, List.set_cons_succ, List.getElem_toArray, List.getElem_cons_zero, List.getElem_cons_succ]
        refine wpAnyH_ready (rs := [15]) (by kernel_rfl) (by simp) ?_
        refine AllReadyH.cons rfl (fun K hK => ?_) AllReadyH.nil
        rw [if_pos (by rfl)]
        refine wp_store_mid 28 (.tmp 27) (.tmp 25) rfl g (j * 16) xi.vals.toArray rfl rfl TH2.out ed_info (all_oneCell_toArray xi.vals_one) ?_
        rw [show ws.setCells g (j * 16) xi.vals.toArray.toList = wn from HWN.out]
        refine hK.out _ _ trivial (fun _ => ?_)
        clear hK K
        try simp only [Act.put, List.setIfInBounds_toArray, List.set_cons_zero, List.set_cons_succ, List.getElem_toArray, List.getElem_cons_zero, List.getElem_cons_succ]
        refine wpAnyH_done (by kernel_rfl) ?_ _
        clear hHeld
        go_wp2_with fail
        go_roundw
        case rel => exact ⟨i + 1, _, by go_num, by have := HIJ.out.2; go_num, by have := HIJ.out.1; omega, HST.out, S2.out, HT.out.trans TT.out (fun q hq e => by rw [e]; rfl)⟩
        case measure => have := HIJ.out.1; have := HIJ.out.2; simp [intOf]; omega
      · refine oper_exec _ _ (exec_load_mid _ _ 28 (.tmp 24) rfl g (i * 16) rfl xi.vals _ _ (by have := HXI.out; rwa [Nat.zero_add] at this) Try.underlying28 rfl ed_info) ?_
        refine hK.out _ _ trivial (fun _ => ?_)
        clear hK K
        try simp only [Act.put, List.setIfInBounds_toArray, List.set_cons_zero, List.set_cons_succ, List.getElem_toArray, List.getElem_cons_zero, List.getElem_cons_succ]
        refine wpAnyH_ready (rs := [7]) (by kernel_rfl) (by simp) ?_
        refine AllReadyH.cons rfl (fun K hK => ?_) AllReadyH.nil
        refine oper_exec _ _ (exec_load_mid _ _ 28 (.tmp 20) rfl g (j * 16) rfl xj.vals _ _ (by have := HXJ.out; rwa [Nat.zero_add] at this) Try.underlying28 rfl ed_info) ?_
        refine hK.out _ _ trivial (fun _ => ?_)
        clear hK K
        try simp only [Act.put, List.setIfInBounds_toArray, List.set_cons_zero, List.set_cons_succ, List.getElem_toArray, List.getElem_cons_zero, List.getElem_cons_succ]
        refine wpAnyH_take (i := 12) (v := .pointer (some ⟨g, i * 16, none⟩)) rfl (by kernel_rfl) (by kernel_rfl) (by kernel_rfl) (fun _ _ _ h => h) (Or.inl ⟨by rfl, ?yq13⟩) (by assumption) ?rq13
        case yq13 => (intro wq hSw; (try simp only [List.getElem_toArray, List.getElem_cons_zero, List.getElem_cons_succ]); go_simp; (try with_reducible rfl); all_goals (try omega))
        case rq13 =>
        try simp only [Act.put, List.setIfInBounds_toArray, List.set_cons_zero, List.set_cons_succ, List.getElem_toArray, List.getElem_cons_zero, List.getElem_cons_succ]
        refine wpAnyH_ready (rs := [13]) (by kernel_rfl) (by simp) ?_
        refine AllReadyH.cons rfl (fun K hK => ?_) AllReadyH.nil
        rw [if_pos (by rfl)]
        refine wp_store_mid 28 (.tmp 26) (.tmp 21) rfl g (i * 16) xj.vals.toArray rfl rfl TH1.out ed_info (all_oneCell_toArray xj.vals_one) ?_
        rw [show wd.setCells g (i * 16) xj.vals.toArray.toList = ws from HWS.out]
        refine hK.out _ _ trivial (fun _ => ?_)
        clear hK K
        try simp only [Act.put, List.setIfInBounds_toArray, List.set_cons_zero, List.set_cons_succ, List.getElem_toArray, List.getElem_cons_zero, List.getElem_cons_succ]
        refine wpAnyH_take (i := 14) (v := .pointer (some ⟨g, j * 16, none⟩)) rfl (by kernel_rfl) (by kernel_rfl) (by kernel_rfl) (fun _ _ _ h => h) (Or.inl ⟨by rfl, ?yq14⟩) (by assumption) ?rq14
        case yq14 => (intro wq hSw; (try simp only [List.getElem_toArray, List.getElem_cons_zero, List.getElem_cons_succ]); go_simp; (try with_reducible rfl); all_goals (try omega))
        case rq14 =>
        try simp only [Act.put, List.setIfInBounds_toArray, List.set_cons_zero, List.set_cons_succ, List.getElem_toArray, List.getElem_cons_zero, List.getElem_cons_succ]
        refine wpAnyH_ready (rs := [15]) (by kernel_rfl) (by simp) ?_
        refine AllReadyH.cons rfl (fun K hK => ?_) AllReadyH.nil
        rw [if_pos (by rfl)]
        refine wp_store_mid 28 (.tmp 27) (.tmp 25) rfl g (j * 16) xi.vals.toArray rfl rfl TH2.out ed_info (all_oneCell_toArray xi.vals_one) ?_
        rw [show ws.setCells g (j * 16) xi.vals.toArray.toList = wn from HWN.out]
        refine hK.out _ _ trivial (fun _ => ?_)
        clear hK K
        try simp only [Act.put, List.setIfInBounds_toArray, List.set_cons_zero, List.set_cons_succ, List.getElem_toArray, List.getElem_cons_zero, List.getElem_cons_succ]
        refine wpAnyH_done (by kernel_rfl) ?_ _
        clear hHeld
        go_wp2_with fail
        go_roundw
        case rel => exact ⟨i + 1, _, by go_num, by have := HIJ.out.2; go_num, by have := HIJ.out.1; omega, HST.out, S2.out, HT.out.trans TT.out (fun q hq e => by rw [e]; rfl)⟩
        case measure => have := HIJ.out.1; have := HIJ.out.2; simp [intOf]; omega
    · have dl : decide ((i : Int) < (n : Int) - 1 - (i : Int)) = false := decide_eq_false (by omega)
      have HD := Lib.hid (HRV.out.done (by rw [HN.out]; omega))
      go_wp2_with fail
      go_end0
      exact ⟨rfl, by rw [← HD.out]; exact HOC.out, HT.out⟩

end Go.Proofs.Ytbokdgcdkmnldaa
