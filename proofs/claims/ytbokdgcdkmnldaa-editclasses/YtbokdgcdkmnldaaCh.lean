/- Own contracts: what stands in an element. No statement is proved here. -/
import Derived.Test.YtbokdgcdkmnldaaRr
namespace Go.Proofs.Ytbokdgcdkmnldaa
set_option maxRecDepth 100000
open Go.RowKit
set_option linter.unusedVariables false
set_option linter.unusedSimpArgs false


def childE (l : List El) (nr : Int) : List Int := (l.filter (fun x => decide (x.par = nr))).map (·.id)
theorem childE_snoc (l : List El) (x : El) (nr : Int) : childE (l ++ [x]) nr = if x.par = nr then childE l nr ++ [x.id] else childE l nr := by
  unfold childE
  rw [List.filter_append, List.map_append]
  by_cases h : x.par = nr
  · have f : ([x] : List El).filter (fun y => decide (y.par = nr)) = [x] := List.filter_eq_self.2 (fun y hy => by rw [List.mem_singleton.1 hy, decide_eq_true h])
    rw [if_pos h, f]
    rfl
  · rw [if_neg h, filter_none (l := [x]) (fun y hy => by rw [List.mem_singleton.1 hy, decide_eq_false h]), List.map_nil, List.append_nil]
theorem childE_len (l : List El) (nr : Int) : (childE l nr).length ≤ l.length := by
  unfold childE
  rw [List.length_map]
  exact List.length_filter_le _ _
def NewInts (w : World) (xs : List Int) (e : Ending) (w' : World) : Prop := ∃ v, e = .returned v ∧ w'.ownsRow w.heap.size 3 1 v xs.length (xs.map (Value.int .i64)) ∧ Turn (fun _ => False) w w'
theorem app_int (w : World) (base : Nat) (v : Value) (xs : List Int) (x : Int) (ho : w.ownsRow base 3 1 v xs.length (xs.map (Value.int .i64))) (hb : base ≤ w.heap.size) (hl : xs.length + 1 ≤ 1000000) :
    ∃ v' w', (Builtin.append_ #[70, 70] 70 #[v, .slice (some ⟨w.heap.size, 0, none⟩) 1 1]).run Try.prog (w.alloc (.cells #[.int .i64 x] 3)) = .ok v' w' ∧ w'.ownsRow base 3 1 v' (xs ++ [x]).length ((xs ++ [x]).map (Value.int .i64)) ∧ Turn (fun q => v.ownBlock = some q) w w' := by
  obtain ⟨i0, hi, hz0, hz1, hz2⟩ := info_parts (show (Try.prog.info? 3).map (fun i => (i.zero, i.size, i.bytes)) = some (some (.int .i64 0), 1, 8) by kernel_rfl)
  have tb := (box_alloc w 3 [.int .i64 x]).turn
  have h1 := tb.owns ho (fun _ _ => id)
  obtain ⟨v', w', hr, q1, q2, q3⟩ := run_append_own (P := Try.prog) (w.alloc (.cells #[.int .i64 x] 3)) base 70 70 3 i0 _ 1 8 Try.underlying70 hi hz0 hz1 hz2 rfl (by decide) v xs.length _ h1 ⟨w.heap.size, 0, none⟩ 1 1 [.int .i64 x] rfl (fun j u hj => by
    match j, hj with
    | 0, hj => simp at hj; subst hj; simp [Addr.add]) (fun u hu => by simp at hu; subst hu; rfl) (by unfold maxLen; omega) (by omega) (Nat.le_trans hb tb.size)
  refine ⟨v', w', hr, by simpa using q1, (tb.mono (fun _ _ h => h.elim)).trans ((Turn.refl (fun q => v.ownBlock = some q) _).grown q2 (fun k h _ => h)) (fun _ _ h => h)⟩
theorem turn_on3 {w0 w w' : World} {base : Nat} {v : Value} {n : Nat} {xs : List Value} (h : w.ownsRow base 3 1 v n xs) (hb : w0.heap.size ≤ base) (t : Turn (fun _ => False) w0 w) (t' : Turn (fun q => v.ownBlock = some q) w w') : Turn (fun _ => False) w0 w' :=
  t.trans t' (fun i hi hv => by have := (h.lt i hv).1; omega)
set_option maxHeartbeats 4000000 in
theorem children_any (w : World) (v : Value) (l : List El) (nr : Int) (hv : RowV w v l) (hb : l.length ≤ 1000) : Calls Try.prog 44 #[v, .int .i64 nr] w (NewInts w (childE l nr)) := by
  obtain ⟨la, lc, rfl⟩ := hv.form
  obtain ⟨n, hn⟩ : ∃ n, l.length = n := ⟨_, rfl⟩
  rw [hn] at hv hb
  simp only [hn]
  have HV := Lib.hid hv
  have HN := Lib.hid hn
  clear hv hn
  go_enter Try.func44, Try.ntmps44
  go_wp2_with fail
  go_loopw [5, 10] (fun sv iv wr => ∃ k : Nat, k ≤ n ∧ iv = .int .i64 (k : Int) ∧ wr.ownsRow w.heap.size 3 1 sv (childE (l.take k) nr).length ((childE (l.take k) nr).map (Value.int .i64)) ∧ Turn (fun _ => False) w wr) (fun _ iv _ => n - (intOf iv).toNat)
  case atStart => exact ⟨0, Nat.zero_le _, rfl, World.ownsRow_nil _ _ _ _, Turn.refl _ _⟩
  case round =>
    obtain ⟨k, hk, rfl, ho, htr⟩ := hrel
    have HO := Lib.hid ho
    have HT := Lib.hid htr
    clear ho htr
    by_cases hlt : k < n
    · have hsn := take_snoc l k (by rw [HN.out]; exact hlt)
      obtain ⟨g, o, rfl, hc, hs1⟩ := (HV.out.turn HT.out (fun _ _ => id)).one HN.out k hlt
      have gi : (0 : Int) ≤ (k : Int) ∧ (k : Int) < (n : Int) := by omega
      have dk : decide ((k : Int) < (n : Int)) = true := decide_eq_true (by omega)
      generalize hx : l.getD k el0 = x at *
      have HS1 := Lib.hid hs1
      have hst := childE_snoc (l.take k) x nr
      rw [← hsn] at hst
      have HST := Lib.hid hst
      clear hx hs1 hsn hst
      have hbb := box_alloc wr 24 el0.vals
      obtain ⟨B, hB⟩ : ∃ B, wr.heap.size = B := ⟨_, rfl⟩
      obtain ⟨wz, hwz⟩ : ∃ wz, wr.alloc (.cells el0.vals.toArray 24) = wz := ⟨_, rfl⟩
      have hx0 : ∀ ev op, op.op = .alloc 24 → (execOp ev op).run Try.prog wr = .ok (.value (.pointer (some ⟨B, 0, none⟩))) wz := fun ev op ho => by rw [← hwz, ← hB]; exact exec_zero24 ev op ho _
      rw [hwz] at hbb
      have hhh := hbb.heap
      rw [hB] at hhh
      have HX0 := Lib.hid hx0
      have HBB := Lib.hid hbb
      have HHB := Lib.hid hhh
      have HBE := Lib.hid hB
      clear hbb hB hwz hx0 hhh
      go_wp2_with (with_reducible (show wpList _ _ _ (Oper.mk (some 13) (.load 24 (.tmp 12)) _ _ _ _ :: _) _ _); refine still ?_)
      refine wpList_load_mid rfl 24 (.tmp 12) rfl g (o + k * 10) rfl x.vals _ HS1.out Try.underlying24 rfl el_info ?_
      go_wp2_with (with_reducible (show wpList _ _ _ (Oper.mk (some 7) (.alloc 24) _ _ _ _ :: _) _ _); refine still ?_)
      refine list_exec rfl _ _ (HX0.out _ _ rfl) ?_
      go_wp2_with (with_reducible (show wpList _ _ _ (Oper.mk none (.store 24 (.tmp 7) (.tmp 13)) _ _ _ _ :: _) _ _); refine still ?_)
      refine list_put wz B 24 el0.vals x.vals HHB.out rfl x.vals_one el_info rfl (.tmp 7) (.tmp 13) rfl rfl rfl (fun w2 h2 t2 => ?_)
      have T2 := Lib.hid (HBB.out.turn.trans t2 (fun q hq e => by have := HBE.out; omega))
      have HTT := Lib.hid (HT.out.trans T2.out (fun _ _ => id))
      have HO2 := Lib.hid (T2.out.owns HO.out (fun _ _ => id))
      have c0 : w2.cell? ⟨B, 0, none⟩ = some (.int .i64 x.id) := by rw [cell_of_row w2 B 0 _ 24 (0, 0) h2]; rfl
      have c2 : w2.cell? ⟨B, 2, none⟩ = some (.int .i64 x.par) := by rw [cell_of_row w2 B 2 _ 24 (0, 0) h2]; rfl
      clear h2 t2
      by_cases he : x.par = nr
      · have d1 : (x.par == nr) = true := by simpa using he
        have HE := Lib.hid he
        clear he
        obtain ⟨va, wa, hra, hoa, tta⟩ := app_int w2 w.heap.size _ (childE (l.take k) nr) x.id HO2.out HTT.out.size (by have := childE_len (l.take k) nr; have : (l.take k).length ≤ k := List.length_take_le _ _; omega)
        have HRa := Lib.hid hra
        have HOa := Lib.hid hoa
        have HTa := Lib.hid (turn_on3 HO2.out (Nat.le_refl _) HTT.out tta)
        clear hra hoa tta
        go_wp2_with (with_reducible (show wpList _ _ _ (Oper.mk (some 22) _ _ _ _ _ :: _) _ _); refine still ?_)
        refine list_exec rfl _ _ (exec_append _ _ (.tmp 18) (.tmp 21) 70 rfl _ _ _ _ _ rfl rfl HRa.out) ?_
        clear c0 c2
        go_wp2_with fail
        go_roundw
        case rel => exact ⟨k + 1, by omega, by go_num, by rw [HST.out, if_pos HE.out]; exact HOa.out, HTa.out⟩
        case measure => simp [intOf]; omega
      · have d1 : (x.par == nr) = false := by simpa using he
        have HE := Lib.hid he
        clear he
        go_wp2_with fail
        go_roundw
        case rel => exact ⟨k + 1, by omega, by go_num, by rw [HST.out, if_neg HE.out]; exact HO2.out, HTT.out⟩
        case measure => simp [intOf]; omega
    · have hke : k = n := by omega
      have dk : decide ((k : Int) < (n : Int)) = false := decide_eq_false (by omega)
      have hto : l.take k = l := List.take_of_length_le (by rw [HN.out]; omega)
      have HTO := Lib.hid hto
      clear hto
      go_wp2_with fail
      go_ret
      refine ⟨_, rfl, ?_, HT.out⟩
      have := HO.out
      rwa [HTO.out] at this
end Go.Proofs.Ytbokdgcdkmnldaa
