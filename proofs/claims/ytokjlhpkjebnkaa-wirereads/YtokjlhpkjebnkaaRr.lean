/- Own contracts: the document drops an element; a chart of some elements; the chapter's example. No statement is proved here. -/
import Derived.Test.YtokjlhpkjebnkaaRp
namespace Go.Proofs.Ytokjlhpkjebnkaa
set_option maxRecDepth 100000
open Go.RowKit
set_option linter.unusedVariables false
set_option linter.unusedSimpArgs false


theorem dropE_snoc (l : List El) (x : El) (nr : Int) : dropE (l ++ [x]) nr = if x.id = nr then dropE l nr else dropE l nr ++ [x] := by
  unfold dropE
  rw [List.filter_append]
  by_cases h : x.id = nr
  · rw [if_pos h, filter_none (l := [x]) (fun y hy => by rw [List.mem_singleton.1 hy, decide_eq_true h]; rfl), List.append_nil]
  · have f : ([x] : List El).filter (fun y => !decide (y.id = nr)) = [x] := List.filter_eq_self.2 (fun y hy => by rw [List.mem_singleton.1 hy, decide_eq_false h]; rfl)
    rw [if_neg h, f]
theorem dropE_len (l : List El) (nr : Int) : (dropE l nr).length ≤ l.length := List.length_filter_le _ _
set_option maxHeartbeats 4000000 in
theorem rdrop_any (w : World) (v : Value) (l : List El) (nr : Int) (hv : RowV w v l) (hb : l.length ≤ 1000) : Calls Try.prog 20 #[v, .int .i64 nr] w (NewEls w (dropE l nr)) := by
  obtain ⟨la, lc, rfl⟩ := hv.form
  obtain ⟨n, hn⟩ : ∃ n, l.length = n := ⟨_, rfl⟩
  rw [hn] at hv hb
  simp only [hn]
  have HV := Lib.hid hv
  have HN := Lib.hid hn
  clear hv hn
  go_enter Try.func20, Try.ntmps20
  go_wp2_with fail
  go_loopw [5, 6] (fun sv iv wr => ∃ k : Nat, k ≤ n ∧ iv = .int .i64 (k : Int) ∧ wr.ownsRow w.heap.size 24 10 sv (dropE (l.take k) nr).length (elsV (dropE (l.take k) nr)) ∧ Turn (fun _ => False) w wr) (fun _ iv _ => n - (intOf iv).toNat)
  case atStart => exact ⟨0, Nat.zero_le _, rfl, World.ownsRow_nil _ _ _ _, Turn.refl _ _⟩
  case round =>
    obtain ⟨k, hk, rfl, ho, htr⟩ := hrel
    have HO := Lib.hid ho
    have HT := Lib.hid htr
    clear ho htr
    by_cases hlt : k < n
    · have hsn := take_snoc l k (by rw [HN.out]; exact hlt)
      obtain ⟨g, o, rfl, hc, hs1⟩ := (HV.out.turn HT.out (fun _ _ => id)).one HN.out k hlt
      have gi : (0 : Int) ≤ (k : Int) ∧ (k : Int) < (n : Int) := by omega
      generalize hx : l.getD k el0 = x at *
      have c1 := range0 hs1
      have HS1 := Lib.hid hs1
      have hst := dropE_snoc (l.take k) x nr
      rw [← hsn] at hst
      have HST := Lib.hid hst
      clear hx hs1 hsn hst
      by_cases he : x.id = nr
      · have d1 : (x.id != nr) = false := by simpa using he
        have HE := Lib.hid he
        clear he
        go_wp2_with fail
        go_roundw
        case rel => exact ⟨k + 1, by omega, by go_num, by rw [HST.out, if_pos HE.out]; exact HO.out, HT.out⟩
        case measure => simp [intOf]; omega
      · have d1 : (x.id != nr) = true := by simpa using he
        have HE := Lib.hid he
        clear he
        obtain ⟨va, wa, hra, hoa, tta, aa, ca, hva⟩ := app_one wr w.heap.size 26 26 Try.underlying26 _ (dropE (l.take k) nr) x HO.out HT.out.size (by have := dropE_len (l.take k) nr; have : (l.take k).length ≤ k := List.length_take_le _ _; omega)
        have HRa := Lib.hid hra
        have HOa := Lib.hid hoa
        have HTa := Lib.hid (turn_on HO.out (Nat.le_refl _) HT.out tta)
        clear hra hoa tta hva
        go_wp2_with (with_reducible (show wpList _ _ _ (Oper.mk (some 24) (.load 24 (.tmp 23)) _ _ _ _ :: _) _ _); refine still ?_)
        refine wpList_load_mid rfl 24 (.tmp 23) rfl g (o + k * 10) rfl x.vals _ HS1.out Try.underlying24 rfl el_info ?_
        go_wp2_with (with_reducible (show wpList _ _ _ (Oper.mk (some 25) _ _ _ _ _ :: _) _ _); refine still ?_)
        refine list_exec rfl _ _ (exec_build_one _ _ (.tmp 24) 26 Try.underlying26 rfl x rfl _) ?_
        go_wp2_with (with_reducible (show wpList _ _ _ (Oper.mk (some 26) _ _ _ _ _ :: _) _ _); refine still ?_)
        refine list_exec rfl _ _ (exec_append _ _ (.tmp 20) (.tmp 25) 26 rfl _ _ _ _ _ rfl rfl HRa.out) ?_
        clear c1
        go_wp2_with fail
        go_roundw
        case rel => exact ⟨k + 1, by omega, by go_num, by rw [HST.out, if_neg HE.out]; exact HOa.out, HTa.out⟩
        case measure => simp [intOf]; omega
    · have hke : k = n := by omega
      have hto : l.take k = l := List.take_of_length_le (by rw [HN.out]; omega)
      have HTO := Lib.hid hto
      clear hto
      go_wp2_with fail
      go_ret
      refine ⟨_, rfl, ?_, HT.out⟩
      have := HO.out
      rwa [HTO.out] at this
theorem putE_len (l : List El) (e : El) : (putE l e).length ≤ 2 * l.length + 1 := by
  unfold putE
  have h1 := List.length_filter_le (fun x : El => decide (x.id < e.id)) l
  have h2 := List.length_filter_le (fun x : El => decide (e.id < x.id)) l
  simp only [List.length_append, List.length_cons]
  omega
theorem mem_putE {l : List El} {e x : El} : x ∈ putE l e ↔ x = e ∨ (x ∈ l ∧ x.id ≠ e.id) := by
  unfold putE
  simp only [List.mem_append, List.mem_filter, List.mem_cons, decide_eq_true_eq]
  constructor
  · rintro (⟨h1, h2⟩ | h | ⟨h1, h2⟩)
    · exact .inr ⟨h1, by omega⟩
    · exact .inl h
    · exact .inr ⟨h1, by omega⟩
  · rintro (h | ⟨h1, h2⟩)
    · exact .inr (.inl h)
    · by_cases h3 : x.id < e.id
      · exact .inl ⟨h1, h3⟩
      · exact .inr (.inr ⟨h1, by omega⟩)
theorem Rises.put {l : List El} (h : Rises l) (e : El) : Rises (putE l e) := by
  unfold Rises putE
  rw [List.pairwise_append, List.pairwise_cons]
  refine ⟨h.filter _, ⟨fun x hx => ?_, h.filter _⟩, fun x hx y hy => ?_⟩
  · simpa using (List.mem_filter.1 hx).2
  · have h1 : x.id < e.id := by simpa using (List.mem_filter.1 hx).2
    rcases List.mem_cons.1 hy with rfl | hy
    · exact h1
    · have h2 : e.id < y.id := by simpa using (List.mem_filter.1 hy).2
      omega
theorem Rises.drop_ {l : List El} (h : Rises l) (nr : Int) : Rises (dropE l nr) := h.filter _
/-- The chart of some elements. -/
def riseE (l : List El) : List El := l.foldl putE []
theorem riseE_snoc (l : List El) (x : El) : riseE (l ++ [x]) = putE (riseE l) x := by unfold riseE; rw [List.foldl_append]; rfl
theorem rises_riseE : ∀ (l : List El), Rises (riseE l) := by
  suffices h : ∀ (l c : List El), Rises c → Rises (l.foldl putE c) from fun l => h l [] Rises.nil
  intro l
  induction l with
  | nil => intro c h; exact h
  | cons x l ih => intro c h; exact ih _ (h.put x)
theorem putE_len1 {l : List El} (h : Rises l) (e : El) : (putE l e).length ≤ l.length + 1 := by
  unfold putE
  have h1 : (l.filter (fun x => decide (x.id < e.id))).length + (l.filter (fun x => !decide (x.id < e.id))).length = l.length := by
    rw [← List.length_append]
    exact (List.filter_append_perm _ l).length_eq
  have h2 : (l.filter (fun x => decide (e.id < x.id))).length ≤ (l.filter (fun x => !decide (x.id < e.id))).length := by
    rw [← List.countP_eq_length_filter, ← List.countP_eq_length_filter]
    apply List.countP_mono_left
    intro x _ hx
    simp only [decide_eq_true_eq, Bool.not_eq_true', decide_eq_false_iff_not] at hx ⊢
    omega
  simp only [List.length_append, List.length_cons]
  omega
theorem riseE_len : ∀ (l : List El), (riseE l).length ≤ l.length := by
  suffices h : ∀ (l c : List El), Rises c → (l.foldl putE c).length ≤ c.length + l.length from fun l => by have := h l [] Rises.nil; simpa [riseE] using this
  intro l
  induction l with
  | nil => intro c h; simp
  | cons x l ih =>
    intro c h
    have h1 := ih _ (h.put x)
    have h2 := putE_len1 h x
    simp only [List.foldl_cons, List.length_cons]
    omega
theorem riseE_mem (l : List El) : ∀ x ∈ riseE l, x ∈ l := by
  suffices h : ∀ (l c : List El), ∀ x ∈ l.foldl putE c, x ∈ l ∨ x ∈ c from fun x hx => by
    rcases h l [] x hx with h | h
    · exact h
    · simp at h
  intro l
  induction l with
  | nil => intro c x hx; exact .inr hx
  | cons y l ih =>
    intro c x hx
    rcases ih _ x hx with h | h
    · exact .inl (List.mem_cons_of_mem _ h)
    · rcases mem_putE.1 h with h | h
      · exact .inl (h ▸ List.mem_cons_self)
      · exact .inr h.1
set_option maxHeartbeats 4000000 in
theorem rise_any (w : World) (v : Value) (l : List El) (hv : RowV w v l) (hb : l.length ≤ 1000) : Calls Try.prog 13 #[v] w (NewEls w (riseE l)) := by
  obtain ⟨la, lc, rfl⟩ := hv.form
  obtain ⟨n, hn⟩ : ∃ n, l.length = n := ⟨_, rfl⟩
  rw [hn] at hv hb
  simp only [hn]
  have HV := Lib.hid hv
  have HN := Lib.hid hn
  clear hv hn
  go_enter Try.func13, Try.ntmps13
  go_wp2_with fail
  go_loopw [3, 4] (fun sv iv wr => ∃ k : Nat, k ≤ n ∧ iv = .int .i64 (k : Int) ∧ wr.ownsRow w.heap.size 24 10 sv (riseE (l.take k)).length (elsV (riseE (l.take k))) ∧ Turn (fun _ => False) w wr) (fun _ iv _ => n - (intOf iv).toNat)
  case atStart => exact ⟨0, Nat.zero_le _, rfl, World.ownsRow_nil _ _ _ _, Turn.refl _ _⟩
  case round =>
    obtain ⟨k, hk, rfl, ho, htr⟩ := hrel
    have HO := Lib.hid ho
    have HT := Lib.hid htr
    clear ho htr
    by_cases hlt : k < n
    · have hsn := take_snoc l k (by rw [HN.out]; exact hlt)
      obtain ⟨g, o, rfl, hc, hs1⟩ := (HV.out.turn HT.out (fun _ _ => id)).one HN.out k hlt
      have gi : (0 : Int) ≤ (k : Int) ∧ (k : Int) < (n : Int) := by omega
      generalize hx : l.getD k el0 = x at *
      have HS1 := Lib.hid hs1
      have hst := riseE_snoc (l.take k) x
      rw [← hsn] at hst
      have HST := Lib.hid hst
      clear hx hs1 hsn hst
      go_wp2_with (with_reducible (show wpList _ _ _ (Oper.mk (some 15) (.load 24 (.tmp 14)) _ _ _ _ :: _) _ _); refine still ?_)
      refine wpList_load_mid rfl 24 (.tmp 14) rfl g (o + k * 10) rfl x.vals _ HS1.out Try.underlying24 rfl el_info ?_
      go_wp2_with fail
      refine (rput_any wr _ (riseE (l.take k)) x (own_rowV HO.out) (rises_riseE _) (by have := riseE_len (l.take k); have : (l.take k).length ≤ k := List.length_take_le _ _; omega)).mono ?_
      rintro r wb ⟨vb, rfl, hob, tb⟩
      have HOb := Lib.hid (own_base hob HT.out.size)
      have HTb := Lib.hid (HT.out.trans tb (fun _ _ => id))
      clear hob tb
      go_wp2_with fail
      go_roundw
      case rel => exact ⟨k + 1, by omega, by go_num, by rw [HST.out]; exact HOb.out, HTb.out⟩
      case measure => simp [intOf]; omega
    · have hke : k = n := by omega
      have hto : l.take k = l := List.take_of_length_le (by rw [HN.out]; omega)
      have HTO := Lib.hid hto
      clear hto
      go_wp2_with fail
      go_ret
      refine ⟨_, rfl, ?_, HT.out⟩
      have := HO.out
      rwa [HTO.out] at this
theorem build_at (n : Int) (w : World) : (Instr.build 24 #[(0, .int .i64 n)]).run Try.prog w = .ok (.agg (El.at n).vals.toArray) w := by kernel_rfl
theorem exec_build_at (ev : Operand → Value) (op : Oper) (x : Operand) (n : Int) (ho : op.op = .build 24 #[(0, x)]) (hx : ev x = .int .i64 n) (w : World) : (execOp ev op).run Try.prog w = .ok (.value (.agg (El.at n).vals.toArray)) w := by
  unfold execOp
  simp only [ho, List.map_toArray, List.map_cons, List.map_nil, hx, Sem.run_bind, Sem.run_pure, build_at, Result.andThen_ok]
theorem build_two (w : World) : (Instr.buildSlice 26 2 #[(0, .agg (El.at 1).vals.toArray), (1, .agg (El.at 5).vals.toArray)]).run Try.prog w = .ok (.slice (some ⟨w.heap.size, 0, none⟩) 2 2) (w.alloc (.cells (elsV [El.at 1, El.at 5]).toArray 24)) := by
  obtain ⟨i0, hi, hz0, hz1, hz2⟩ := info_parts el_infop
  refine run_buildSlice (P := Try.prog) w 26 24 2 _ _ i0 _ Try.underlying26 hi hz0 (by rw [hz1]; decide) (by rw [hz1]; decide) ?_
  rw [hz1]
  kernel_rfl
theorem exec_build_two (ev : Operand → Value) (op : Oper) (x y : Operand) (ho : op.op = .buildSlice 26 2 #[(0, x), (1, y)]) (hx : ev x = .agg (El.at 1).vals.toArray) (hy : ev y = .agg (El.at 5).vals.toArray) (w : World) : (execOp ev op).run Try.prog w = .ok (.value (.slice (some ⟨w.heap.size, 0, none⟩) 2 2)) (w.alloc (.cells (elsV [El.at 1, El.at 5]).toArray 24)) := by
  unfold execOp
  simp only [ho, List.map_toArray, List.map_cons, List.map_nil, hx, hy, Sem.run_bind, Sem.run_pure, build_two, Result.andThen_ok]
theorem awake_put : putE [El.at 1, El.at 5] (El.at 3) = [El.at 1, El.at 3, El.at 5] := by decide +kernel
theorem awake09 (w : World) : Calls Try.prog 12 #[] w fun e w' => e = .returned (.bool true) ∧ Turn (fun _ => False) w w' := by
  have hbx := box_alloc w 24 (elsV [El.at 1, El.at 5])
  have hrow : RowV (w.alloc (.cells (elsV [El.at 1, El.at 5]).toArray 24)) (.slice (some ⟨w.heap.size, 0, none⟩) 2 2) [El.at 1, El.at 5] :=
    .inr ⟨w.heap.size, 0, 2, rfl, Nat.le_refl _, fun _ => by rw [hbx.size]; omega, fun k hk => own_cells (ex := []) (by simpa using hbx.heap) k hk⟩
  have hx2 : ∀ ev op x y, op.op = .buildSlice 26 2 #[(0, x), (1, y)] → ev x = .agg (El.at 1).vals.toArray → ev y = .agg (El.at 5).vals.toArray → (execOp ev op).run Try.prog w = .ok (.value (.slice (some ⟨w.heap.size, 0, none⟩) 2 2)) (w.alloc (.cells (elsV [El.at 1, El.at 5]).toArray 24)) := fun ev op x y ho hx hy => exec_build_two ev op x y ho hx hy w
  obtain ⟨w1, hw1⟩ : ∃ w1, w.alloc (.cells (elsV [El.at 1, El.at 5]).toArray 24) = w1 := ⟨_, rfl⟩
  rw [hw1] at hbx hrow hx2
  have HX2 := Lib.hid hx2
  have HB := Lib.hid hbx
  have HR := Lib.hid hrow
  clear hbx hrow hx2 hw1
  go_enter Try.func12, Try.ntmps12
  go_wp2_with (with_reducible (show wpList _ _ _ (Oper.mk (some 2) _ _ _ _ _ :: _) _ _); refine still ?_)
  refine list_exec rfl _ _ (exec_build_at _ _ _ 1 rfl rfl _) ?_
  go_wp2_with (with_reducible (show wpList _ _ _ (Oper.mk (some 3) _ _ _ _ _ :: _) _ _); refine still ?_)
  refine list_exec rfl _ _ (exec_build_at _ _ _ 5 rfl rfl _) ?_
  go_wp2_with (with_reducible (show wpList _ _ _ (Oper.mk (some 4) _ _ _ _ _ :: _) _ _); refine still ?_)
  refine list_exec rfl _ _ (HX2.out _ _ (.tmp 2) (.tmp 3) rfl rfl rfl) ?_
  go_wp2_with (with_reducible (show wpList _ _ _ (Oper.mk (some 5) _ _ _ _ _ :: _) _ _); refine still ?_)
  refine list_exec rfl _ _ (exec_build_at _ _ _ 3 rfl rfl _) ?_
  go_wp2_with fail
  refine (put_any w1 _ [El.at 1, El.at 5] (El.at 3) HR.out (by unfold Rises; decide) (by decide)).mono ?_
  rintro r w2 ⟨v2, rfl, ho, t⟩
  rw [awake_put] at ho
  have hv := own_rowV ho
  obtain ⟨a2, c2, hv2⟩ := own_slice24 ho
  subst hv2
  obtain ⟨g, o, rfl, hc, h1⟩ := hv.one rfl 1 (by decide)
  obtain ⟨g', o', e2, _, h2⟩ := hv.one rfl 2 (by decide)
  injection e2 with e2
  injection e2 with e2 e3 _
  subst e2 e3
  have k1 : w2.cell? ⟨g, o + 1 * 10, none⟩ = some (.int .i64 3) := range0 h1
  have k2 : w2.cell? ⟨g, o + 2 * 10, none⟩ = some (.int .i64 5) := range0 h2
  have k3 := k1
  have k4 := k2
  simp only [Nat.one_mul, Nat.reduceMul] at k3 k4
  have HT := Lib.hid (HB.out.turn.trans t (fun _ _ => id))
  clear ho hv t h1 h2
  go_wp2_with fail
  go_ret
  exact ⟨by first | rfl | simp, HT.out⟩
end Go.Proofs.Ytokjlhpkjebnkaa
