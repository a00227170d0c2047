/- Own contracts: the document drops an element; a chart of some elements; the chapter's example. No statement is proved here. -/
import Derived.Test.YtbokdgcdkmnldaaRp
namespace Go.Proofs.Ytbokdgcdkmnldaa
set_option maxRecDepth 100000
open Go.RowKit
set_option linter.unusedVariables false
set_option linter.unusedSimpArgs false


theorem dropE_snoc (l : List El) (x : El) (nr : Int) : dropE (l ++ [x]) nr = if x.id = nr then dropE l nr else dropE l nr ++ [x] := by
  unfold dropE
  rw [List.filter_append]
  by_cases h : x.id = nr
  · rw [if_pos h, filter_none (l := [x]) (fun y hy => by rw [List.mem_singleton.1 hy, decide_eq_true h]; rfl), List.append_nil]
  · have f : ([x] : List El).filter (fun y => !decide (y.id = nr)) = [x] := List.filter_eq_self.2 (fun y hy => by rw [List.mem_singleton.1 hy, decide_eq_false h]; rfl)
    rw [if_neg h, f]
theorem dropE_len (l : List El) (nr : Int) : (dropE l nr).length ≤ l.length := List.length_filter_le _ _
set_option maxHeartbeats 4000000 in
theorem rdrop_any (w : World) (v : Value) (l : List El) (nr : Int) (hv : RowV w v l) (hb : l.length ≤ 1000) : Calls Try.prog 34 #[v, .int .i64 nr] w (NewEls w (dropE l nr)) := by
  obtain ⟨la, lc, rfl⟩ := hv.form
  obtain ⟨n, hn⟩ : ∃ n, l.length = n := ⟨_, rfl⟩
  rw [hn] at hv hb
  simp only [hn]
  have HV := Lib.hid hv
  have HN := Lib.hid hn
  clear hv hn
  go_enter Try.func34, Try.ntmps34
  go_wp2_with fail
  go_loopw [5, 6] (fun sv iv wr => ∃ k : Nat, k ≤ n ∧ iv = .int .i64 (k : Int) ∧ wr.ownsRow w.heap.size 24 10 sv (dropE (l.take k) nr).length (elsV (dropE (l.take k) nr)) ∧ Turn (fun _ => False) w wr) (fun _ iv _ => n - (intOf iv).toNat)
  case atStart => exact ⟨0, Nat.zero_le _, rfl, World.ownsRow_nil _ _ _ _, Turn.refl _ _⟩
  case round =>
    obtain ⟨k, hk, rfl, ho, htr⟩ := hrel
    have HO := Lib.hid ho
    have HT := Lib.hid htr
    clear ho htr
    by_cases hlt : k < n
    · have hsn := take_snoc l k (by rw [HN.out]; exact hlt)
      obtain ⟨g, o, rfl, hc, hs1⟩ := (HV.out.turn HT.out (fun _ _ => id)).one HN.out k hlt
      have gi : (0 : Int) ≤ (k : Int) ∧ (k : Int) < (n : Int) := by omega
      generalize hx : l.getD k el0 = x at *
      have c1 := range0 hs1
      have HS1 := Lib.hid hs1
      have hst := dropE_snoc (l.take k) x nr
      rw [← hsn] at hst
      have HST := Lib.hid hst
      clear hx hs1 hsn hst
      by_cases he : x.id = nr
      · have d1 : (x.id != nr) = false := by simpa using he
        have HE := Lib.hid he
        clear he
        go_wp2_with fail
        go_roundw
        case rel => exact ⟨k + 1, by omega, by go_num, by rw [HST.out, if_pos HE.out]; exact HO.out, HT.out⟩
        case measure => simp [intOf]; omega
      · have d1 : (x.id != nr) = true := by simpa using he
        have HE := Lib.hid he
        clear he
        obtain ⟨va, wa, hra, hoa, tta, aa, ca, hva⟩ := app_one wr w.heap.size 30 30 Try.underlying30 _ (dropE (l.take k) nr) x HO.out HT.out.size (by have := dropE_len (l.take k) nr; have : (l.take k).length ≤ k := List.length_take_le _ _; omega)
        have HRa := Lib.hid hra
        have HOa := Lib.hid hoa
        have HTa := Lib.hid (turn_on HO.out (Nat.le_refl _) HT.out tta)
        clear hra hoa tta hva
        go_wp2_with (with_reducible (show wpList _ _ _ (Oper.mk (some 24) (.load 24 (.tmp 23)) _ _ _ _ :: _) _ _); refine still ?_)
        refine wpList_load_mid rfl 24 (.tmp 23) rfl g (o + k * 10) rfl x.vals _ HS1.out Try.underlying24 rfl el_info ?_
        go_wp2_with (with_reducible (show wpList _ _ _ (Oper.mk (some 25) _ _ _ _ _ :: _) _ _); refine still ?_)
        refine list_exec rfl _ _ (exec_build_one _ _ (.tmp 24) 30 Try.underlying30 rfl x rfl _) ?_
        go_wp2_with (with_reducible (show wpList _ _ _ (Oper.mk (some 26) _ _ _ _ _ :: _) _ _); refine still ?_)
        refine list_exec rfl _ _ (exec_append _ _ (.tmp 20) (.tmp 25) 30 rfl _ _ _ _ _ rfl rfl HRa.out) ?_
        clear c1
        go_wp2_with fail
        go_roundw
        case rel => exact ⟨k + 1, by omega, by go_num, by rw [HST.out, if_neg HE.out]; exact HOa.out, HTa.out⟩
        case measure => simp [intOf]; omega
    · have hke : k = n := by omega
      have hto : l.take k = l := List.take_of_length_le (by rw [HN.out]; omega)
      have HTO := Lib.hid hto
      clear hto
      go_wp2_with fail
      go_ret
      refine ⟨_, rfl, ?_, HT.out⟩
      have := HO.out
      rwa [HTO.out] at this
theorem Rises.put {l : List El} (h : Rises l) (e : El) : Rises (putE l e) := by
  unfold Rises putE
  rw [List.pairwise_append, List.pairwise_cons]
  refine ⟨h.filter _, ⟨fun x hx => ?_, h.filter _⟩, fun x hx y hy => ?_⟩
  · simpa using (List.mem_filter.1 hx).2
  · have h1 : x.id < e.id := by simpa using (List.mem_filter.1 hx).2
    rcases List.mem_cons.1 hy with rfl | hy
    · exact h1
    · have h2 : e.id < y.id := by simpa using (List.mem_filter.1 hy).2
      omega
theorem build_at (n : Int) (w : World) : (Instr.build 24 #[(0, .int .i64 n)]).run Try.prog w = .ok (.agg (El.at n).vals.toArray) w := by kernel_rfl
theorem exec_build_at (ev : Operand → Value) (op : Oper) (x : Operand) (n : Int) (ho : op.op = .build 24 #[(0, x)]) (hx : ev x = .int .i64 n) (w : World) : (execOp ev op).run Try.prog w = .ok (.value (.agg (El.at n).vals.toArray)) w := by
  unfold execOp
  simp only [ho, List.map_toArray, List.map_cons, List.map_nil, hx, Sem.run_bind, Sem.run_pure, build_at, Result.andThen_ok]
end Go.Proofs.Ytbokdgcdkmnldaa
