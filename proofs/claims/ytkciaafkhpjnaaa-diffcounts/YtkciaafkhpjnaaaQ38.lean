/- Own texts, packed: Id, To, Ri. No statement is proved here. -/
import Derived.Test.YtkciaafkhpjnaaaQ36
import Derived.Test.YtkciaafkhpjnaaaQ37
import Derived.Test.YtkciaafkhpjnaaaQ07
import Derived.Test.YtkciaafkhpjnaaaQ06
import Derived.Test.YtkciaafkhpjnaaaQ21
import Derived.Test.YtkciaafkhpjnaaaQ09
import Derived.Test.YtkciaafkhpjnaaaQ20
namespace Go.Proofs.Ytkciaafkhpjnaaa
set_option maxRecDepth 100000
open Go.RowKit
set_option linter.unusedVariables false
set_option linter.unusedSimpArgs false

theorem sort_int (w : World) (base : Nat) (a : Option Addr) (n c : Nat) (zs : List Int) (ho : w.ownsRow base 3 1 (.slice a n c) n (zs.map (Value.int .i64))) (hn : zs.length = n) (hb : n ≤ 100000) : Calls Try.prog 56 #[.slice a n c] w fun e w' => e = .returned (.tuple #[]) ∧ w'.ownsRow base 3 1 (.slice a n c) n ((zs.mergeSort fun x y => decide (x ≤ y)).map (Value.int .i64)) ∧ Turn (fun q => (Value.slice a n c).ownBlock = some q) w w' := by
  by_cases h0 : n = 0
  · subst h0
    have hl : zs = [] := List.length_eq_zero_iff.1 hn
    subst hl
    have h := AnyM.slices_Sort_int_none Try.sortInt a c w
    change Calls Try.prog 56 _ _ _ at h
    refine h.mono ?_
    rintro e w' ⟨rfl, rfl⟩
    exact ⟨rfl, by simpa using ho, Turn.refl _ _⟩
  · obtain ⟨g, rfl⟩ : ∃ g, a = some ⟨g, 0, none⟩ := by
      rcases ho.2 with ⟨h, h1⟩ | ⟨g, cap, cur, hv, _⟩
      · omega
      · cases hv; exact ⟨g, rfl⟩
    have hH := row_holds1 ho hn
    have hg := (own_blk_of ho (g := g) rfl).2.1
    have h := AnyM.slices_Sort_int Try.sortInt g 0 c zs w hH hg (by omega)
    change Calls Try.prog 56 _ _ _ at h
    rw [hn] at h
    refine h.mono ?_
    rintro e w' ⟨rfl, m, os, rfl⟩
    obtain ⟨q1, q2⟩ := put_own (l' := zs.mergeSort fun x y => decide (x ≤ y)) ho (by rw [List.length_mergeSort]; exact hn) n (Nat.le_refl _) m os
    rw [List.take_of_length_le (by rw [List.length_mergeSort]; omega)] at q1
    exact ⟨rfl, q1, q2.mono (fun q _ e => by rw [e]; rfl)⟩
theorem compact_int (w : World) (base : Nat) (a : Option Addr) (n c : Nat) (zs : List Int) (ho : w.ownsRow base 3 1 (.slice a n c) n (zs.map (Value.int .i64))) (hn : zs.length = n) (hb : n ≤ 100000) : Calls Try.prog 57 #[.slice a n c] w fun e w' => ∃ v, e = .returned v ∧ w'.ownsRow base 3 1 v (Lib.compact zs).length ((Lib.compact zs).map (Value.int .i64)) ∧ Turn (fun q => (Value.slice a n c).ownBlock = some q) w w' := by
  by_cases h0 : n = 0
  · subst h0
    have hl : zs = [] := List.length_eq_zero_iff.1 hn
    subst hl
    have h := AnyG.slices_Compact_int_empty Try.compactInt a c w
    change Calls Try.prog 57 _ _ _ at h
    refine h.mono ?_
    rintro e w' ⟨rfl, rfl⟩
    exact ⟨_, rfl, by simpa [Lib.compact, Lib.compactUpTo] using ho, Turn.refl _ _⟩
  · obtain ⟨g, rfl⟩ : ∃ g, a = some ⟨g, 0, none⟩ := by
      rcases ho.2 with ⟨h, h1⟩ | ⟨g, cap, cur, hv, _⟩
      · omega
      · cases hv; exact ⟨g, rfl⟩
    have hH := row_holds1 ho hn
    have hcap : n ≤ c := by
      rcases ho.2 with ⟨h, _⟩ | ⟨g, cap, cur, hv, _, _, h, _⟩
      · cases h
      · cases hv; exact h
    have h := AnyG.slices_Compact_int Try.compactInt g 0 c zs w hH (by omega) (by omega)
    change Calls Try.prog 57 _ _ _ at h
    rw [hn] at h
    have hcl := compact_len zs
    refine h.mono ?_
    rintro e w' ⟨rfl, m, rfl⟩
    obtain ⟨q1, q2⟩ := put_own (l' := Lib.compact zs ++ List.replicate (n - (Lib.compact zs).length) 0) ho (by rw [List.length_append, List.length_replicate]; omega) (Lib.compact zs).length (by omega) m #[]
    rw [Sort.grow_empty] at q1 q2
    rw [List.take_append_of_le_length (Nat.le_refl _), List.take_length] at q1
    exact ⟨_, rfl, q1, q2.mono (fun q _ e => by rw [e]; rfl)⟩
def idsU (L : List (List El)) : List Int := Lib.compact ((L.flatten.map (·.id)).mergeSort fun x y => decide (x ≤ y))
theorem idsU_up (L : List (List El)) : Up (idsU L) := (uniq_up _).1
theorem idsU_mem (L : List (List El)) (nr : Int) : nr ∈ idsU L ↔ ∃ c ∈ L, hasB c nr = true := by
  rw [show nr ∈ idsU L ↔ nr ∈ L.flatten.map (·.id) from (uniq_up _).2 nr, List.mem_map]
  constructor
  · rintro ⟨x, hx, rfl⟩
    obtain ⟨c, hc, hxc⟩ := List.mem_flatten.1 hx
    exact ⟨c, hc, hasB_iff.2 ⟨x, hxc, rfl⟩⟩
  · rintro ⟨c, hc, h⟩
    obtain ⟨x, hx, rfl⟩ := hasB_iff.1 h
    exact ⟨x, List.mem_flatten.2 ⟨c, hc, hx⟩, rfl⟩
def idsSo (L : List (List El)) (i k : Nat) : List Int := ((L.take i).flatten ++ (L.getD i []).take k).map (·.id)
theorem idsSo_next (L : List (List El)) (i : Nat) (hi : i < L.length) : idsSo L i (L.getD i []).length = idsSo L (i + 1) 0 := by
  unfold idsSo
  rw [List.take_length, flat_succ L i hi, List.take_zero, List.append_nil]
theorem idsSo_step (L : List (List El)) (i k : Nat) (hk : k < (L.getD i []).length) : idsSo L i (k + 1) = idsSo L i k ++ [((L.getD i []).getD k el0).id] := by
  unfold idsSo
  rw [take_snoc _ k hk, ← List.append_assoc, List.map_append]
  rfl
theorem exec_build_int (ev : Operand → Value) (op : Oper) (y : Operand) (ho : op.op = .buildSlice 45 1 #[(0, y)]) (x : Int) (hy : ev y = .int .i64 x) (w : World) : (execOp ev op).run Try.prog w = .ok (.value (.slice (some ⟨w.heap.size, 0, none⟩) 1 1)) (w.alloc (.cells #[.int .i64 x] 3)) := by
  have h : (Instr.buildSlice 45 1 #[(0, .int .i64 x)]).run Try.prog w = .ok (.slice (some ⟨w.heap.size, 0, none⟩) 1 1) (w.alloc (.cells #[.int .i64 x] 3)) := by kernel_rfl
  unfold execOp
  simp only [ho, hy, Sem.run_bind, Sem.run_pure, Result.andThen_ok, List.map_toArray, List.map_cons, List.map_nil, h]
set_option maxHeartbeats 4000000 in
theorem ids_any (w : World) (G c0 : Nat) (f : Nat → Value) (L : List (List El)) (n : Nat) (hn : L.length = n) (hc0 : n ≤ c0) (hv : ManyV w G f L) (hb : n ≤ 10) (hs : ∀ k, sumL L k ≤ 10000) : Calls Try.prog 39 #[.slice (some ⟨G, 0, none⟩) n c0] w (NewInts w (idsU L)) := by
  have HV := Lib.hid hv
  have HN := Lib.hid hn
  have HSM := Lib.hid hs
  clear hv hn hs
  go_enter Try.func39, Try.ntmps39
  go_wp2_with fail
  go_loopw [3, 10] (fun sv iv wr => ∃ i : Nat, i ≤ n ∧ iv = .int .i64 (i : Int) ∧ wr.ownsRow w.heap.size 3 1 sv (idsSo L i 0).length ((idsSo L i 0).map (Value.int .i64)) ∧ Turn (fun _ => False) w wr) (fun _ iv _ => n - (intOf iv).toNat)
  case atStart => exact ⟨0, Nat.zero_le _, rfl, World.ownsRow_nil _ _ _ _, Turn.refl _ _⟩
  case round =>
    obtain ⟨i, hin, rfl, ho, ht⟩ := hrel
    have HO := Lib.hid ho
    have HT := Lib.hid ht
    clear ho ht
    by_cases hlt : i < n
    · have gi : (0 : Int) ≤ (i : Int) ∧ (i : Int) < (n : Int) := by omega
      have dk : decide ((i : Int) < (n : Int)) = true := decide_eq_true (by omega)
      have hil : i < L.length := by rw [HN.out]; exact hlt
      have hcell := (HV.out.turn HT.out).at_ i hil
      obtain ⟨a, c, hf⟩ := (HV.out.row i hil).form
      have hrow := HV.out.row i hil
      have hnx := idsSo_next L i hil
      obtain ⟨m, hm⟩ : ∃ m, (L.getD i []).length = m := ⟨_, rfl⟩
      rw [hf] at hcell hrow
      rw [hm] at hcell hrow hnx
      have HR := Lib.hid hrow
      have HM := Lib.hid hm
      have HNX := Lib.hid hnx
      have hm1 : m ≤ 10000 := by have := HSM.out (i + 1); rw [sumL_succ L i hil, hm] at this; omega
      clear hrow hm hnx hf
      go_wp2_with fail
      go_loopw [3, 16] (fun sv kv ws => ∃ k : Nat, k ≤ m ∧ kv = .int .i64 (k : Int) ∧ ws.ownsRow w.heap.size 3 1 sv (idsSo L i k).length ((idsSo L i k).map (Value.int .i64)) ∧ Turn (fun _ => False) w ws) (fun _ kv _ => m - (intOf kv).toNat)
      case atStart => exact ⟨0, Nat.zero_le _, rfl, HO.out, HT.out⟩
      case round =>
        obtain ⟨k, hkm, rfl, ho, ht⟩ := hrel
        have HO2 := Lib.hid ho
        have HT2 := Lib.hid ht
        clear ho ht
        by_cases hk : k < m
        · have gk : (0 : Int) ≤ (k : Int) ∧ (k : Int) < (m : Int) := by omega
          have dq : decide ((k : Int) < (m : Int)) = true := decide_eq_true (by omega)
          obtain ⟨g, o, rfl, hcc, hs⟩ := (HR.out.turn HT2.out (fun _ _ => id)).one HM.out k hk
          have hst := idsSo_step L i k (by rw [HM.out]; exact hk)
          obtain ⟨x, hx⟩ : ∃ x, (L.getD i []).getD k el0 = x := ⟨_, rfl⟩
          rw [hx] at hs hst
          have HS := Lib.hid hs
          have HST := Lib.hid hst
          clear hx hs hst hcc hcell
          have hbb := box_alloc wr 38 el0.vals
          obtain ⟨X, hE⟩ : ∃ X, wr.heap.size = X := ⟨_, rfl⟩
          obtain ⟨wz, hwz⟩ : ∃ wz, wr.alloc (.cells el0.vals.toArray 38) = wz := ⟨_, rfl⟩
          have hx0 : ∀ ev op, op.op = .alloc 38 → (execOp ev op).run Try.prog wr = .ok (.value (.pointer (some ⟨X, 0, none⟩))) wz := fun ev op ho => by rw [← hwz, ← hE]; exact exec_zero24 ev op ho _
          rw [hwz] at hbb
          have hhh := hbb.heap
          rw [hE] at hhh
          have HX0 := Lib.hid hx0
          have HBB := Lib.hid hbb.turn
          have HHB := Lib.hid hhh
          have HEE := Lib.hid hE
          clear hbb hE hwz hx0 hhh
          go_wp2_with (with_reducible (show wpList _ _ _ (Oper.mk (some 19) (.load 38 (.tmp 18)) _ _ _ _ :: _) _ _); refine still ?_)
          refine wpList_load_mid rfl 38 (.tmp 18) rfl g (o + k * 10) rfl x.vals _ HS.out Try.underlying38 rfl el_info ?_
          go_wp2_with (with_reducible (show wpList _ _ _ (Oper.mk (some 7) (.alloc 38) _ _ _ _ :: _) _ _); refine still ?_)
          refine list_exec rfl _ _ (HX0.out _ _ rfl) ?_
          go_wp2_with (with_reducible (show wpList _ _ _ (Oper.mk none (.store 38 (.tmp 7) (.tmp 19)) _ _ _ _ :: _) _ _); refine still ?_)
          refine list_put wz X 38 el0.vals x.vals HHB.out rfl x.vals_one el_info rfl (.tmp 7) (.tmp 19) rfl rfl rfl (fun wa h2 t2 => ?_)
          have HX := Lib.hid h2
          have Twa := Lib.hid (show Turn (fun _ => False) wr wa from HBB.out.trans t2 (fun q hq e => by have := HEE.out; omega))
          have LX := Lib.hid (show wr.heap.size = X from HEE.out)
          clear h2 t2 HX0 HBB HHB HEE
          have HO3 := Lib.hid (Twa.out.owns HO2.out (fun _ _ => id))
          have T3 := Lib.hid (HT2.out.trans Twa.out (fun _ _ => id))
          have c0' : wa.cell? ⟨X, 0, none⟩ = some (.int .i64 x.id) := range_of HX.out 0 _ rfl
          obtain ⟨vy, wy, hry, hoy, ty⟩ := app_int wa w.heap.size _ (idsSo L i k) x.id HO3.out T3.out.size (by
            unfold idsSo
            rw [List.length_map, List.length_append, List.length_take, flat_len]
            have := HSM.out i
            omega)
          have HRY := Lib.hid hry
          have HOY := Lib.hid (show wy.ownsRow w.heap.size 3 1 vy (idsSo L i (k + 1)).length ((idsSo L i (k + 1)).map (Value.int .i64)) by rw [HST.out]; exact hoy)
          have TY := Lib.hid (turn_on3 HO3.out (Nat.le_refl _) T3.out ty)
          clear hry hoy ty
          go_wp2_with (with_reducible (show wpList _ _ _ (Oper.mk (some 23) (.buildSlice 45 _ _) _ _ _ _ :: _) _ _); refine still ?_)
          refine list_exec rfl _ _ (exec_build_int _ _ (.tmp 22) rfl x.id rfl _) ?_
          go_wp2_with (with_reducible (show wpList _ _ _ (Oper.mk (some 24) (_) _ _ _ _ :: _) _ _); refine still ?_)
          refine list_exec rfl _ _ (exec_append _ _ (.tmp 20) (.tmp 23) 45 rfl _ _ _ _ _ rfl rfl HRY.out) ?_
          go_wp2_with fail
          go_roundw
          case rel => exact ⟨k + 1, by omega, by go_num, HOY.out, TY.out⟩
          case measure => simp [intOf]; omega
        · have hkm2 : k = m := by omega
          subst hkm2
          go_wp2_with fail
          go_roundw
          case rel => exact ⟨i + 1, by omega, by go_num, by rw [← HNX.out]; exact HO2.out, HT2.out⟩
          case measure => simp [intOf]; omega
    · have hie : i = n := by omega
      subst hie
      have ho := HO.out
      have hall : idsSo L i 0 = L.flatten.map (·.id) := by unfold idsSo; rw [List.take_zero, List.append_nil, List.take_of_length_le (by rw [HN.out]; omega)]
      rw [hall] at ho
      obtain ⟨p, hp⟩ : ∃ p, (L.flatten.map (·.id)).length = p := ⟨_, rfl⟩
      have hp1 : p ≤ 10000 := by
        have h1 := HSM.out L.length
        rw [← flat_len, List.take_length] at h1
        rw [← hp, List.length_map]; exact h1
      rw [hp] at ho
      obtain ⟨sa, sc, rfl⟩ := own_slice3 ho
      have HO2 := Lib.hid ho
      have HP := Lib.hid hp
      clear ho hp hall
      go_wp2_with fail
      refine (sort_int wr w.heap.size sa p sc _ HO2.out HP.out (by omega)).mono ?_
      rintro r w2 ⟨rfl, o2, t2⟩
      have T2 := Lib.hid (turn_on3 HO2.out (Nat.le_refl _) HT.out t2)
      have O2 := Lib.hid o2
      clear o2 t2
      go_wp2_with fail
      refine (compact_int w2 w.heap.size sa p sc _ O2.out (by rw [List.length_mergeSort]; exact HP.out) (by omega)).mono ?_
      rintro r w3 ⟨v3, rfl, o3, t3⟩
      have T3 := Lib.hid (turn_on3 O2.out (Nat.le_refl _) T2.out t3)
      have O3 := Lib.hid o3
      clear o3 t3
      go_wp2_with fail
      go_ret
      exact ⟨_, rfl, O3.out, T3.out⟩

end Go.Proofs.Ytkciaafkhpjnaaa
namespace Go.Proofs.Ytkciaafkhpjnaaa
set_option maxRecDepth 100000
open Go.RowKit
set_option linter.unusedVariables false
set_option linter.unusedSimpArgs false

def touchE (l : List Ed) : List Int := idsU [l.map (·.e)]
theorem touch_up (l : List Ed) : Up (touchE l) := idsU_up _
theorem touch_mem (l : List Ed) (nr : Int) : nr ∈ touchE l ↔ ∃ d ∈ l, d.e.id = nr := by
  unfold touchE
  rw [idsU_mem]
  constructor
  · rintro ⟨c, hc, h⟩
    rw [List.mem_singleton] at hc
    subst hc
    obtain ⟨x, hx, e⟩ := hasB_iff.1 h
    obtain ⟨d, hd, rfl⟩ := List.mem_map.1 hx
    exact ⟨d, hd, e⟩
  · rintro ⟨d, hd, e⟩
    exact ⟨_, List.mem_singleton.2 rfl, hasB_iff.2 ⟨d.e, List.mem_map.2 ⟨d, hd, rfl⟩, e⟩⟩
theorem exec_build_row (ev : Operand → Value) (op : Oper) (y : Operand) (ho : op.op = .buildSlice 48 1 #[(0, y)]) (a : Option Addr) (n c : Nat) (hy : ev y = .slice a n c) (w : World) : (execOp ev op).run Try.prog w = .ok (.value (.slice (some ⟨w.heap.size, 0, none⟩) 1 1)) (w.alloc (.cells #[.slice a n c] 25)) := by
  have h : (Instr.buildSlice 48 1 #[(0, .slice a n c)]).run Try.prog w = .ok (.slice (some ⟨w.heap.size, 0, none⟩) 1 1) (w.alloc (.cells #[.slice a n c] 25)) := by kernel_rfl
  unfold execOp
  simp only [ho, hy, Sem.run_bind, Sem.run_pure, Result.andThen_ok, List.map_toArray, List.map_cons, List.map_nil, h]
theorem many1 {w w' : World} {T : TypeId} {v1 : Value} {l1 : List El} (hb : Box w w' T [v1]) (h1 : RowV w v1 l1) : ManyV w' w.heap.size (fun k => ([v1] : List Value).getD k undef) [l1] := by
  refine ⟨by rw [hb.size]; omega, fun k hk => ?_, fun k hk => ?_⟩
  · have hk : k = 0 := by simp at hk; omega
    subst hk
    exact hb.cell 0 _ rfl
  · have hk : k = 0 := by simp at hk; omega
    subst hk
    exact h1.turn hb.turn (fun _ _ => id)
theorem own_baseG {w : World} {base b' e size : Nat} {v : Value} {n : Nat} {xs : List Value} (h : w.ownsRow base e size v n xs) (hb : b' ≤ base) : w.ownsRow b' e size v n xs := by
  refine ⟨h.1, ?_⟩
  rcases h.2 with h1 | ⟨g, cap, cur, h1, h2, h3⟩
  · exact .inl h1
  · exact .inr ⟨g, cap, cur, h1, Nat.le_trans hb h2, h3⟩
set_option maxHeartbeats 4000000 in
theorem touched_any (w : World) (v : Value) (l : List Ed) (hv : EdV w v l) (hl : l.length ≤ 1000) : Calls Try.prog 18 #[v] w (NewInts w (touchE l)) := by
  obtain ⟨la, lc, rfl⟩ := hv.form
  obtain ⟨n, hn⟩ : ∃ n, l.length = n := ⟨_, rfl⟩
  simp only [hn] at hv hl ⊢
  have HV := Lib.hid hv
  have HN := Lib.hid hn
  have hn1 : n ≤ 1000 := hl
  clear hv hn hl
  obtain ⟨R, hR⟩ : ∃ R, w.heap.size = R := ⟨_, rfl⟩
  obtain ⟨w3, hw3⟩ : ∃ w3, w.alloc (.cells (elsV (List.replicate n el0)).toArray 38) = w3 := ⟨_, rfl⟩
  have hbx := box_alloc w 38 (elsV (List.replicate n el0))
  have hx : ∀ ev op x, op.op = .makeSlice 25 x x → ev x = .int .i64 (n : Int) → (execOp ev op).run Try.prog w = .ok (.value (.slice (some ⟨R, 0, none⟩) n n)) w3 := fun ev op x ho h => by rw [← hw3, ← hR]; exact exec_make_els ev op x ho n (by omega) h w
  rw [hw3] at hbx
  have hh := hbx.heap
  rw [hR] at hh
  have HXM := Lib.hid hx
  have T3 := Lib.hid hbx.turn
  have HH := Lib.hid hh
  have HRS := Lib.hid hR
  clear hx hbx hh hw3 hR
  go_enter Try.func18, Try.ntmps18
  go_wp2_with (with_reducible (show wpList _ _ _ (Oper.mk (some 8) (.makeSlice 25 _ _) _ _ _ _ :: _) _ _); refine still ?_)
  refine list_exec rfl _ _ (HXM.out _ _ (.tmp 7) rfl rfl) ?_
  go_wp2_with fail
  go_loopw [11] (fun iv wr => ∃ k : Nat, k ≤ n ∧ iv = .int .i64 (k : Int) ∧ wr.heap[R]? = some (.cells (elsV (fillE Ed.e el0 l k n)).toArray 38 (0, 0)) ∧ Turn (fun _ => False) w wr) (fun iv _ => n - (intOf iv).toNat)
  case atStart => exact ⟨0, Nat.zero_le _, rfl, by rw [fillE_none]; exact HH.out, T3.out⟩
  case round =>
    obtain ⟨k, hkn, rfl, hh, ht⟩ := hrel
    have HHK := Lib.hid hh
    have HTK := Lib.hid ht
    clear hh ht
    by_cases hlt : k < n
    · have gi : (0 : Int) ≤ (k : Int) ∧ (k : Int) < (n : Int) := by omega
      have dk : decide ((k : Int) < (n : Int)) = true := decide_eq_true (by omega)
      obtain ⟨g, o, rfl, hcc, hs⟩ := (HV.out.turn HTK.out (fun _ _ => id)).one HN.out k hlt
      obtain ⟨x, hx⟩ : ∃ x, l.getD k ed0 = x := ⟨_, rfl⟩
      rw [hx] at hs
      have HXE := Lib.hid hx
      have HS := Lib.hid hs
      clear hx hs hcc
      have hbb := box_alloc wr 53 ed0.vals
      obtain ⟨X, hE⟩ : ∃ X, wr.heap.size = X := ⟨_, rfl⟩
      obtain ⟨wz, hwz⟩ : ∃ wz, wr.alloc (.cells ed0.vals.toArray 53) = wz := ⟨_, rfl⟩
      have hx0 : ∀ ev op, op.op = .alloc 53 → (execOp ev op).run Try.prog wr = .ok (.value (.pointer (some ⟨X, 0, none⟩))) wz := fun ev op ho => by rw [← hwz, ← hE]; exact exec_zero_ed ev op ho _
      rw [hwz] at hbb
      have hhh := hbb.heap
      rw [hE] at hhh
      have HX0 := Lib.hid hx0
      have HBB := Lib.hid hbb.turn
      have HHB := Lib.hid hhh
      have HEE := Lib.hid hE
      clear hbb hE hwz hx0 hhh
      go_wp2_with (with_reducible (show wpList _ _ _ (Oper.mk (some 15) (.load 53 (.tmp 14)) _ _ _ _ :: _) _ _); refine still ?_)
      refine wpList_load_mid rfl 53 (.tmp 14) rfl g (o + k * 16) rfl x.vals _ HS.out Try.underlying53 rfl ed_info ?_
      go_wp2_with (with_reducible (show wpList _ _ _ (Oper.mk (some 5) (.alloc 53) _ _ _ _ :: _) _ _); refine still ?_)
      refine list_exec rfl _ _ (HX0.out _ _ rfl) ?_
      go_wp2_with (with_reducible (show wpList _ _ _ (Oper.mk none (.store 53 (.tmp 5) (.tmp 15)) _ _ _ _ :: _) _ _); refine still ?_)
      refine list_put wz X 53 ed0.vals x.vals HHB.out rfl x.vals_one ed_info rfl (.tmp 5) (.tmp 15) rfl rfl rfl (fun wa h2 t2 => ?_)
      have HX := Lib.hid h2
      have Twa := Lib.hid (show Turn (fun _ => False) wr wa from HBB.out.trans t2 (fun q hq e => by have := HEE.out; omega))
      have LX := Lib.hid (show wr.heap.size = X from HEE.out)
      clear h2 t2 HX0 HBB HHB HEE
      have HR4 := Lib.hid ((Twa.out.block R (Array.getElem?_eq_some_iff.1 HHK.out).1 id).trans HHK.out)
      have HST2 := Lib.hid (fillE_set Ed.e el0 l k n ed0 hlt HN.out)
      rw [HXE.out] at HST2
      go_wp2_with (with_reducible (show wpList _ _ _ (Oper.mk (some 19) (.load 38 (.tmp 18)) _ _ _ _ :: _) _ _); refine still ?_)
      refine wpList_load_mid rfl 38 (.tmp 18) rfl X 1 rfl x.e.vals _ (by have := edE (range_of HX.out); rwa [Nat.zero_add] at this) Try.underlying38 rfl el_info ?_
      go_wp2_with (with_reducible (show wpList _ _ _ (Oper.mk none (.store 38 (.tmp 20) (.tmp 19)) _ _ _ _ :: _) _ _); refine still ?_)
      refine row_put wa R k (fillE Ed.e el0 l k n) x.e HR4.out (by rw [fillE_len _ _ _ _ _ (by omega) HN.out]; exact hlt) rfl (.tmp 20) (.tmp 19) rfl rfl rfl (fun w5 h5 t5 => ?_)
      rw [HST2.out] at h5
      have H5 := Lib.hid h5
      have T5 := Lib.hid ((HTK.out.trans Twa.out (fun _ _ => id)).trans t5 (fun q hq e => by have := HRS.out; omega))
      clear h5 t5
      go_wp2_with fail
      go_roundw
      case rel => exact ⟨k + 1, by omega, by go_num, H5.out, T5.out⟩
      case measure => simp [intOf]; omega
    · have hke : k = n := by omega
      subst hke
      have hf : wr.heap[R]? = some (.cells (elsV (l.map Ed.e)).toArray 38 (0, 0)) := by have := HHK.out; rw [fillE_full _ _ _ _ HN.out] at this; exact this
      have hle : (l.map Ed.e).length = k := by rw [List.length_map]; exact HN.out
      have hrow : RowV wr (.slice (some ⟨R, 0, none⟩) k k) (l.map Ed.e) := own_rowV (base := 0) (by rw [hle]; exact own_all hf (Nat.zero_le _) hle (by omega))
      obtain ⟨G, hG⟩ : ∃ G, wr.heap.size = G := ⟨_, rfl⟩
      obtain ⟨w4, hw4⟩ : ∃ w4, wr.alloc (.cells #[.slice (some ⟨R, 0, none⟩) k k] 25) = w4 := ⟨_, rfl⟩
      have hb4 := box_alloc wr 25 [.slice (some ⟨R, 0, none⟩) k k]
      have hmv := many1 hb4 hrow
      rw [show wr.alloc (.cells [Value.slice (some ⟨R, 0, none⟩) k k].toArray 25) = w4 from hw4, hG] at hmv
      have hxb : ∀ ev op y, op.op = .buildSlice 48 1 #[(0, y)] → ev y = .slice (some ⟨R, 0, none⟩) k k → (execOp ev op).run Try.prog wr = .ok (.value (.slice (some ⟨G, 0, none⟩) 1 1)) w4 := fun ev op y ho hy => by rw [← hw4, ← hG]; exact exec_build_row ev op y ho _ _ _ hy wr
      have T4 := Lib.hid (show Turn (fun _ => False) w w4 by rw [← hw4]; exact HTK.out.alloc _)
      have HXB := Lib.hid hxb
      have HMV := Lib.hid hmv
      have HLE := Lib.hid hle
      clear hf hle hrow hG hw4 hb4 hmv hxb
      go_wp2_with (with_reducible (show wpList _ _ _ (Oper.mk (some 23) (.buildSlice 48 _ _) _ _ _ _ :: _) _ _); refine still ?_)
      refine list_exec rfl _ _ (HXB.out _ _ (.tmp 22) rfl rfl) ?_
      go_wp2_with fail
      refine (ids_any w4 G 1 _ [l.map Ed.e] 1 rfl (Nat.le_refl _) HMV.out (by omega) (fun j => by
        have h1 := sumL_mono [l.map Ed.e] j
        have h2 : sumL [l.map Ed.e] [l.map Ed.e].length = k := by simp [sumL]; exact HN.out
        omega)).mono ?_
      rintro r w5 ⟨v5, rfl, o5, t5⟩
      have T5 := Lib.hid (T4.out.trans t5 (fun _ _ => id))
      have O5 := Lib.hid o5
      have TS := Lib.hid T4.out.size
      clear o5 t5
      go_wp2_with fail
      go_ret
      refine ⟨_, rfl, ?_, T5.out⟩
      exact own_baseG O5.out TS.out

end Go.Proofs.Ytkciaafkhpjnaaa
namespace Go.Proofs.Ytkciaafkhpjnaaa
set_option maxRecDepth 100000
open Go.RowKit
set_option linter.unusedVariables false
set_option linter.unusedSimpArgs false

theorem int_at {w : World} {base : Nat} {a : Option Addr} {n c : Nat} {t : List Int} (h : w.ownsRow base 3 1 (.slice a n c) n (t.map (Value.int .i64))) (hn : t.length = n) (k : Nat) (hk : k < n) : ∃ g, a = some ⟨g, 0, none⟩ ∧ n ≤ c ∧ w.cell? ⟨g, k, none⟩ = some (.int .i64 (t.getD k 0)) := by
  rcases h.2 with ⟨h1, h2⟩ | ⟨g, cap, cur, hv, _, hh, hnc, _, hcs, htk⟩
  · omega
  · cases hv
    refine ⟨g, rfl, hnc, ?_⟩
    rw [cell_of_row w g k cur 3 (0, 0) hh]
    have h1 : (t.map (Value.int .i64))[k]? = some (.int .i64 (t.getD k 0)) := by simp [List.getD, show k < t.length by omega]
    rw [← htk, List.getElem?_take] at h1
    split at h1
    · rw [← h1]; simp
    · cases h1
theorem int_cells {w : World} {base g n c : Nat} {t : List Int} (h : w.ownsRow base 3 1 (.slice (some ⟨g, 0, none⟩) n c) n (t.map (Value.int .i64))) : ∃ cur : List Value, w.heap[g]? = some (.cells cur.toArray 3 (0, 0)) ∧ n ≤ cur.length ∧ base ≤ g ∧
    ∀ (w' : World) (k : Nat) (x : Int), w'.heap[g]? = some (.cells (cur.set k (.int .i64 x)).toArray 3 (0, 0)) → w'.ownsRow base 3 1 (.slice (some ⟨g, 0, none⟩) n c) n ((t.set k x).map (Value.int .i64)) := by
  rcases h.2 with ⟨h1, h2⟩ | ⟨g', cap, cur, hv, hb, hh, hnc, hcm, hcs, htk⟩
  · cases h1
  · cases hv
    refine ⟨cur.toList, by simpa using hh, by simp [hcs]; omega, hb, fun w' k x hw' => ⟨by have := h.1; simp at this ⊢; omega, .inr ⟨g, c, _, rfl, hb, hw', hnc, hcm, by simp [hcs], ?_⟩⟩⟩
    show ((cur.toList.set k (.int .i64 x)).take (n * 1)) = _
    rw [List.take_set, htk, List.map_set]
theorem up_take {t : List Int} (h : Up t) {x : Int} {p : Nat} (hp : p ≤ t.length) (h1 : ∀ j, j < p → t.getD j 0 < x) (h2 : p < t.length → x < t.getD p 0) : Up (t.take p ++ [x] ++ t.drop p) := by
  have hlt : ∀ i j, i < j → j < t.length → t.getD i 0 < t.getD j 0 := fun i j hij hj => by
    have := List.pairwise_iff_getElem.1 h i j (by omega) hj hij
    simpa [List.getD, hj, show i < t.length by omega] using this
  unfold Up
  rw [List.append_assoc, List.pairwise_append]
  refine ⟨List.Pairwise.sublist (List.take_sublist _ _) h, ?_, ?_⟩
  · rw [List.singleton_append, List.pairwise_cons]
    refine ⟨fun y hy => ?_, List.Pairwise.sublist (List.drop_sublist _ _) h⟩
    obtain ⟨i, hi, rfl⟩ := List.getElem_of_mem hy
    rw [List.length_drop] at hi
    rw [List.getElem_drop]
    have h3 := h2 (by omega)
    by_cases e : i = 0
    · subst e; simpa [List.getD, show p < t.length by omega] using h3
    · have := hlt p (p + i) (by omega) (by omega)
      have e2 : t.getD (p + i) 0 = t[p + i] := by simp [List.getD, show p + i < t.length by omega]
      omega
  · intro a ha b hb
    obtain ⟨i, hi, rfl⟩ := List.getElem_of_mem ha
    rw [List.length_take] at hi
    rw [List.getElem_take]
    have h4 := h1 i (by omega)
    have e1 : t.getD i 0 = t[i] := by simp [List.getD, show i < t.length by omega]
    rcases List.mem_append.1 hb with hb | hb
    · rw [List.mem_singleton] at hb; subst hb; omega
    · obtain ⟨j, hj, rfl⟩ := List.getElem_of_mem hb
      rw [List.length_drop] at hj
      rw [List.getElem_drop]
      have := hlt i (p + j) (by omega) (by omega)
      have e2 : t.getD (p + j) 0 = t[p + j] := by simp [List.getD, show p + j < t.length by omega]
      omega
theorem shift_step (t : List Int) (j : Nat) (z : Int) (hj : 0 < j) (hjl : j ≤ t.length) : (t.take j ++ [z] ++ t.drop j).set j (t.getD (j - 1) 0) = t.take (j - 1) ++ [t.getD (j - 1) 0] ++ t.drop (j - 1) := by
  have h1 : (t.take j).length = j := by rw [List.length_take]; omega
  rw [List.append_assoc, List.set_append_right _ _ (by omega), h1, Nat.sub_self, List.singleton_append, List.set_cons_zero]
  obtain ⟨i, rfl⟩ : ∃ i, j = i + 1 := ⟨j - 1, by omega⟩
  have e : t.getD i 0 = t[i]'(by omega) := by simp [List.getD, show i < t.length by omega]
  rw [Nat.add_sub_cancel, e, List.take_succ_eq_append_getElem (by omega), List.drop_eq_getElem_cons (show i < t.length by omega)]
theorem shift_end (t : List Int) (p : Nat) (z x : Int) (hp : p ≤ t.length) : (t.take p ++ [z] ++ t.drop p).set p x = t.take p ++ [x] ++ t.drop p := by
  have h1 : (t.take p).length = p := by rw [List.length_take]; omega
  rw [List.append_assoc, List.set_append_right _ _ (by omega), h1, Nat.sub_self, List.singleton_append, List.set_cons_zero]
  simp
theorem shift_at (t : List Int) (j : Nat) (z : Int) (hj : 0 < j) (hjl : j ≤ t.length) : (t.take j ++ [z] ++ t.drop j).getD (j - 1) 0 = t.getD (j - 1) 0 := by
  have h1 : (t.take j).length = j := by rw [List.length_take]; omega
  simp only [List.getD]
  rw [List.append_assoc, List.getElem?_append_left (by omega), List.getElem?_take]
  rw [if_pos (by omega)]
theorem shift_mem (t : List Int) (p : Nat) (x nr : Int) : nr ∈ t.take p ++ [x] ++ t.drop p ↔ nr ∈ t ∨ nr = x := by
  rw [List.mem_append, List.mem_append, List.mem_singleton]
  conv => rhs; rw [← List.take_append_drop p t, List.mem_append]
  constructor
  · rintro ((h | h) | h)
    · exact .inl (.inl h)
    · exact .inr h
    · exact .inl (.inr h)
  · rintro ((h | h) | h)
    · exact .inl (.inl h)
    · exact .inr h
    · exact .inl (.inr h)
def IntsR (b : Nat) (w : World) (v : Value) (t : List Int) : Prop := w.ownsRow b 3 1 v t.length (t.map (Value.int .i64))
set_option maxHeartbeats 8000000 in
theorem rids_any (w : World) (G c0 : Nat) (f : Nat → Value) (L : List (List El)) (n : Nat) (hn : L.length = n) (hc0 : n ≤ c0) (hv : ManyV w G f L) (hb : n ≤ 10) (hs : ∀ k, sumL L k ≤ 10000) : Calls Try.prog 19 #[.slice (some ⟨G, 0, none⟩) n c0] w (NewInts w (idsU L)) := by
  have HV := Lib.hid hv
  have HN := Lib.hid hn
  have HSM := Lib.hid hs
  clear hv hn hs
  go_enter Try.func19, Try.ntmps19
  go_wp2_with fail
  go_loopw [3, 4] (fun sv iv wr => ∃ (i : Nat) (t : List Int), i ≤ n ∧ iv = .int .i64 (i : Int) ∧ IntsR w.heap.size wr sv t ∧ Up t ∧ (∀ nr, nr ∈ t ↔ nr ∈ idsSo L i 0) ∧ t.length ≤ (idsSo L i 0).length ∧ Turn (fun _ => False) w wr) (fun _ iv _ => n - (intOf iv).toNat)
  case atStart => exact ⟨0, [], Nat.zero_le _, rfl, World.ownsRow_nil _ _ _ _, List.Pairwise.nil, fun nr => by simp [idsSo], by simp, Turn.refl _ _⟩
  case round =>
    obtain ⟨i, t0, hin, rfl, ho, hup, hmem, htl, ht⟩ := hrel
    have HO := Lib.hid ho
    have HT := Lib.hid ht
    have HUP := Lib.hid hup
    have HMEM := Lib.hid hmem
    have HTL := Lib.hid htl
    clear ho ht hup hmem htl
    by_cases hlt : i < n
    · have gi : (0 : Int) ≤ (i : Int) ∧ (i : Int) < (n : Int) := by omega
      have dk : decide ((i : Int) < (n : Int)) = true := decide_eq_true (by omega)
      have hil : i < L.length := by rw [HN.out]; exact hlt
      obtain ⟨a, c, hf⟩ := (HV.out.row i hil).form
      have hrow := HV.out.row i hil
      have hnx := idsSo_next L i hil
      obtain ⟨m, hm⟩ : ∃ m, (L.getD i []).length = m := ⟨_, rfl⟩
      rw [hf, hm] at hrow
      rw [hm] at hnx hf
      have HR := Lib.hid hrow
      have HM := Lib.hid hm
      have HNX := Lib.hid hnx
      have HF := Lib.hid hf
      have HCELL := Lib.hid (fun wz (tz : Turn (fun _ => False) w wz) => ((HV.out.turn tz).at_ i hil).trans (congrArg some hf))
      have hm1 : m ≤ 10000 := by have := HSM.out (i + 1); rw [sumL_succ L i hil, hm] at this; omega
      clear hrow hm hnx hf
      go_wp2_with fail
      go_loopw [3, 5] (fun sv kv ws => ∃ (k : Nat) (t : List Int), k ≤ m ∧ kv = .int .i64 (k : Int) ∧ IntsR w.heap.size ws sv t ∧ Up t ∧ (∀ nr, nr ∈ t ↔ nr ∈ idsSo L i k) ∧ t.length ≤ (idsSo L i k).length ∧ Turn (fun _ => False) w ws) (fun _ kv _ => m - (intOf kv).toNat)
      case atStart => exact ⟨0, t0, Nat.zero_le _, rfl, HO.out, HUP.out, HMEM.out, HTL.out, HT.out⟩
      case round =>
        obtain ⟨k, t, hkm, rfl, ho, hup, hmem, htl, ht⟩ := hrel
        have HO2 := Lib.hid ho
        have HT2 := Lib.hid ht
        have HUP2 := Lib.hid hup
        have HMEM2 := Lib.hid hmem
        have HTL2 := Lib.hid htl
        have hcell := HCELL.out wr ht
        have htl2 : t.length ≤ 20000 := by
          have h0 : (idsSo L i k).length ≤ 20000 := by
            unfold idsSo
            rw [List.length_map, List.length_append, List.length_take, flat_len]
            have := HSM.out i
            omega
          omega
        clear ho ht hup hmem htl
        by_cases hk : k < m
        · have gk : (0 : Int) ≤ (k : Int) ∧ (k : Int) < (m : Int) := by omega
          have dq : decide ((k : Int) < (m : Int)) = true := decide_eq_true (by omega)
          obtain ⟨g, o, rfl, hcc, hs⟩ := (HR.out.turn HT2.out (fun _ _ => id)).one HM.out k hk
          have hst := idsSo_step L i k (by rw [HM.out]; exact hk)
          obtain ⟨x, hx⟩ : ∃ x, (L.getD i []).getD k el0 = x := ⟨_, rfl⟩
          rw [hx] at hs hst
          have c0' := range0 hs
          have HST := Lib.hid hst
          obtain ⟨q, hq⟩ : ∃ q, t.length = q := ⟨_, rfl⟩
          have ho3 := HO2.out
          unfold IntsR at ho3
          rw [hq] at ho3 htl2
          obtain ⟨sa, sc, rfl⟩ := own_slice3 ho3
          have HO3 := Lib.hid ho3
          have HQ := Lib.hid hq
          clear hx hs hst hcc ho3 hq
          go_wp2_with fail
          go_loop [7] (fun av => ∃ p : Nat, p ≤ q ∧ av = .int .i64 (p : Int) ∧ ∀ j, j < p → t.getD j 0 < x.id) (fun a => q - (intOf a).toNat)
          case atStart => exact ⟨0, Nat.zero_le _, rfl, fun j hj => by omega⟩
          case round =>
            obtain ⟨p, hpq, rfl, hall⟩ := hrel
            have HALL := Lib.hid hall
            clear hall
            by_cases hp : p < q
            · have gp : (0 : Int) ≤ (p : Int) ∧ (p : Int) < (q : Int) := by omega
              have dp : decide ((p : Int) < (q : Int)) = true := decide_eq_true (by omega)
              obtain ⟨gt, rfl, hqc, hcp⟩ := int_at HO3.out HQ.out p hp
              by_cases hless : t.getD p 0 < x.id
              · have dl : decide (t.getD p 0 < x.id) = true := decide_eq_true hless
                have HLS := Lib.hid hless
                obtain ⟨y, hy⟩ : ∃ y, t.getD p 0 = y := ⟨_, rfl⟩
                rw [hy] at hcp dl HLS
                have HY := Lib.hid hy
                clear hless hy
                go_wp2_with fail
                go_round
                case rel => exact ⟨p + 1, by omega, by go_num, fun j hj => by
                  by_cases e : j = p
                  · subst e; rw [HY.out]; exact HLS.out
                  · exact HALL.out j (by omega)⟩
                case measure => simp [intOf]; omega
              · have dl : decide (t.getD p 0 < x.id) = false := decide_eq_false hless
                by_cases heq : t.getD p 0 = x.id
                · have de : (t.getD p 0 == x.id) = true := by simpa using heq
                  have hin : x.id ∈ t := by rw [← heq]; simp [List.getD, show p < t.length by rw [HQ.out]; exact hp]
                  have HIN := Lib.hid hin
                  obtain ⟨y, hy⟩ : ∃ y, t.getD p 0 = y := ⟨_, rfl⟩
                  rw [hy] at hcp dl de
                  clear hless heq hin hy
                  go_wp2_with fail
                  go_roundw
                  case rel => exact ⟨k + 1, t, by omega, by go_num, HO2.out, HUP2.out, fun nr => by
                    rw [HMEM2.out, HST.out, List.mem_append, List.mem_singleton]
                    constructor
                    · exact .inl
                    · rintro (h | h)
                      · exact h
                      · subst h; exact (HMEM2.out _).1 HIN.out, by rw [HST.out, List.length_append]; have := HTL2.out; omega, HT2.out⟩
                  case measure => simp [intOf]; omega
                · have de : (t.getD p 0 == x.id) = false := by simpa using heq
                  have HGT := Lib.hid (show p < t.length → x.id < t.getD p 0 from fun _ => by omega)
                  obtain ⟨y, hy⟩ : ∃ y, t.getD p 0 = y := ⟨_, rfl⟩
                  rw [hy] at hcp dl de
                  clear hless heq hy
                  obtain ⟨vy, wy, hry, hoy, ty⟩ := app_int wr w.heap.size (.slice (some ⟨gt, 0, none⟩) q sc) t 0 (by rw [HQ.out]; exact HO3.out) HT2.out.size (by rw [HQ.out]; omega)
                  have ty2 := turn_on3 HO3.out (Nat.le_refl _) HT2.out ty
                  have hl2 : (t ++ [0]).length = q + 1 := by rw [List.length_append, HQ.out]; rfl
                  rw [hl2] at hoy
                  obtain ⟨ya, yc, rfl⟩ := own_slice3 hoy
                  obtain ⟨gy, rfl⟩ : ∃ gy, ya = some ⟨gy, 0, none⟩ := by
                    obtain ⟨gy, h, _⟩ := int_at hoy hl2 0 (by omega)
                    exact ⟨gy, h⟩
                  have HRY := Lib.hid hry
                  have HOY := Lib.hid hoy
                  have TY := Lib.hid ty2
                  clear hry hoy ty ty2 hl2
                  go_wp2_with (with_reducible (show wpList _ _ _ (Oper.mk (some 59) (.buildSlice 45 _ _) _ _ _ _ :: _) _ _); refine still ?_)
                  refine list_exec rfl _ _ (exec_build_int _ _ (.const (.int .i64 0)) rfl 0 rfl _) ?_
                  go_wp2_with (with_reducible (show wpList _ _ _ (Oper.mk (some 60) (_) _ _ _ _ :: _) _ _); refine still ?_)
                  refine list_exec rfl _ _ (exec_append _ _ (.tmp 58) (.tmp 59) 45 rfl _ _ _ _ _ rfl rfl HRY.out) ?_
                  go_wp2_with fail
                  go_loopw [8] (fun jv ws => ∃ (j : Nat) (z : Int), p ≤ j ∧ j ≤ q ∧ jv = .int .i64 (j : Int) ∧ ws.ownsRow w.heap.size 3 1 (.slice (some ⟨gy, 0, none⟩) (q + 1) yc) (q + 1) ((t.take j ++ [z] ++ t.drop j).map (Value.int .i64)) ∧ Turn (fun _ => False) w ws) (fun jv _ => (intOf jv).toNat)
                  case atStart => exact ⟨q, 0, by omega, Nat.le_refl _, by go_num, by rw [List.take_of_length_le (by rw [HQ.out]; omega), List.drop_eq_nil_of_le (by rw [HQ.out]; omega), List.append_nil]; exact HOY.out, TY.out⟩
                  case round =>
                    obtain ⟨j, z, hpj, hjq, rfl, hoj, htj⟩ := hrel
                    have HLJ := Lib.hid (show (t.take j ++ [z] ++ t.drop j).length = q + 1 by
                      have := HQ.out
                      simp only [List.length_append, List.length_take, List.length_drop, List.length_singleton]
                      omega)
                    have HOJ := Lib.hid hoj
                    have HTJ := Lib.hid htj
                    clear hoj htj
                    by_cases hj : p < j
                    · have dj : decide ((p : Int) < (j : Int)) = true := decide_eq_true (by omega)
                      have gj : (0 : Int) ≤ (j : Int) ∧ (j : Int) < ((q + 1 : Nat) : Int) := by omega
                      have gj1 : (0 : Int) ≤ (j : Int) - 1 ∧ (j : Int) - 1 < ((q + 1 : Nat) : Int) := by omega
                      obtain ⟨j1, hj1⟩ : ∃ j1 : Nat, j = j1 + 1 := ⟨j - 1, by omega⟩
                      obtain ⟨g9, e9, _, hc9⟩ := int_at HOJ.out HLJ.out (j - 1) (by omega)
                      injection e9 with e9
                      injection e9 with e9 _ _
                      subst e9
                      rw [shift_at t j z (by omega) (by rw [HQ.out]; omega)] at hc9
                      obtain ⟨cur, hcu, hcl, hcb, hset⟩ := int_cells HOJ.out
                      have hnew := fun w' (h : w'.heap[gy]? = some (.cells (cur.set j (.int .i64 (t.getD (j - 1) 0))).toArray 3 (0, 0))) => hset w' j (t.getD (j - 1) 0) h
                      rw [shift_step t j z (by omega) (by rw [HQ.out]; omega)] at hnew
                      obtain ⟨y1, hy1⟩ : ∃ y1, t.getD (j - 1) 0 = y1 := ⟨_, rfl⟩
                      rw [hy1] at hc9 hnew
                      subst hj1
                      have e10 : ((j1 + 1 : Nat) : Int) - 1 = (j1 : Int) := by omega
                      rw [Nat.add_sub_cancel] at hc9 hnew
                      have HNEW := Lib.hid hnew
                      have HCU := Lib.hid hcu
                      have HCL := Lib.hid hcl
                      have HCB := Lib.hid hcb
                      clear hy1 hset hnew hcu hcl hcb
                      go_wp2_with (with_reducible (show wpList _ _ _ (Oper.mk none (.store 3 (.tmp 76) (.tmp 75)) _ _ _ _ :: _) _ _); refine still ?_)
                      refine list_set1E wr gy 3 3 cur (j1 + 1) (.int .i64 y1) HCU.out (by have := HCL.out; omega) rfl rfl (by kernel_rfl) rfl (.tmp 76) (.tmp 75) rfl (by first | rfl | (go_simp; done)) rfl (fun w5 h5 t5 => ?_)
                      have O5 := Lib.hid (HNEW.out w5 h5)
                      have T5 := Lib.hid (HTJ.out.trans t5 (fun q' hq' e => by have := HCB.out; omega))
                      clear h5 t5 hc9
                      go_wp2_with fail
                      go_roundw
                      case rel => exact ⟨j1, _, by omega, by omega, by go_num, O5.out, T5.out⟩
                      case measure => first | (simp [intOf]; done) | (simp [intOf]; omega)
                    · have hjp : j = p := by omega
                      subst hjp
                      have dj : decide ((j : Int) < (j : Int)) = false := decide_eq_false (by omega)
                      have gj : (0 : Int) ≤ (j : Int) ∧ (j : Int) < ((q + 1 : Nat) : Int) := by omega
                      obtain ⟨cur, hcu, hcl, hcb, hset⟩ := int_cells HOJ.out
                      have hnew := fun w' (h : w'.heap[gy]? = some (.cells (cur.set j (.int .i64 x.id)).toArray 3 (0, 0))) => hset w' j x.id h
                      rw [shift_end t j z x.id (by rw [HQ.out]; omega)] at hnew
                      have HNEW := Lib.hid hnew
                      have HCU := Lib.hid hcu
                      have HCL := Lib.hid hcl
                      have HCB := Lib.hid hcb
                      clear hset hnew hcu hcl hcb
                      go_wp2_with (with_reducible (show wpList _ _ _ (Oper.mk none (.store 3 (.tmp 80) (.tmp 79)) _ _ _ _ :: _) _ _); refine still ?_)
                      refine list_set1E wr gy 3 3 cur j (.int .i64 x.id) HCU.out (by have := HCL.out; omega) rfl rfl (by kernel_rfl) rfl (.tmp 80) (.tmp 79) rfl (by first | rfl | (go_simp; done)) rfl (fun w5 h5 t5 => ?_)
                      have O5 := Lib.hid (HNEW.out w5 h5)
                      have T5 := Lib.hid (HTJ.out.trans t5 (fun q' hq' e => by have := HCB.out; omega))
                      have HLE := Lib.hid (show (t.take j ++ [x.id] ++ t.drop j).length = q + 1 by
                        have := HQ.out
                        simp only [List.length_append, List.length_take, List.length_drop, List.length_singleton]
                        omega)
                      clear h5 t5
                      go_wp2_with fail
                      go_roundw
                      case rel => exact ⟨k + 1, t.take j ++ [x.id] ++ t.drop j, by omega, by go_num, by unfold IntsR; rw [HLE.out]; exact O5.out, up_take HUP2.out (by rw [HQ.out]; omega) HALL.out HGT.out, fun nr => by
                        rw [shift_mem, HST.out, List.mem_append, List.mem_singleton, HMEM2.out], by rw [HLE.out, HST.out, List.length_append]; have := HTL2.out; have := HQ.out; simp only [List.length_singleton]; omega, T5.out⟩
                      case measure => simp [intOf]; omega
            · have hpe : p = q := by omega
              subst hpe
              have dp : decide ((p : Int) < (p : Int)) = false := decide_eq_false (by omega)
              have HGT := Lib.hid (show p < t.length → x.id < t.getD p 0 from fun h => by rw [HQ.out] at h; omega)
              obtain ⟨vy, wy, hry, hoy, ty⟩ := app_int wr w.heap.size (.slice sa p sc) t 0 (by rw [HQ.out]; exact HO3.out) HT2.out.size (by rw [HQ.out]; omega)
              have ty2 := turn_on3 HO3.out (Nat.le_refl _) HT2.out ty
              have hl2 : (t ++ [0]).length = p + 1 := by rw [List.length_append, HQ.out]; rfl
              rw [hl2] at hoy
              obtain ⟨ya, yc, rfl⟩ := own_slice3 hoy
              obtain ⟨gy, rfl⟩ : ∃ gy, ya = some ⟨gy, 0, none⟩ := by
                obtain ⟨gy, h, _⟩ := int_at hoy hl2 0 (by omega)
                exact ⟨gy, h⟩
              have HRY := Lib.hid hry
              have HOY := Lib.hid hoy
              have TY := Lib.hid ty2
              clear hry hoy ty ty2 hl2
              go_wp2_with (with_reducible (show wpList _ _ _ (Oper.mk (some 59) (.buildSlice 45 _ _) _ _ _ _ :: _) _ _); refine still ?_)
              refine list_exec rfl _ _ (exec_build_int _ _ (.const (.int .i64 0)) rfl 0 rfl _) ?_
              go_wp2_with (with_reducible (show wpList _ _ _ (Oper.mk (some 60) (_) _ _ _ _ :: _) _ _); refine still ?_)
              refine list_exec rfl _ _ (exec_append _ _ (.tmp 58) (.tmp 59) 45 rfl _ _ _ _ _ rfl rfl HRY.out) ?_
              go_wp2_with fail
              go_loopw [8] (fun jv ws => ∃ (j : Nat) (z : Int), p ≤ j ∧ j ≤ p ∧ jv = .int .i64 (j : Int) ∧ ws.ownsRow w.heap.size 3 1 (.slice (some ⟨gy, 0, none⟩) (p + 1) yc) (p + 1) ((t.take j ++ [z] ++ t.drop j).map (Value.int .i64)) ∧ Turn (fun _ => False) w ws) (fun jv _ => (intOf jv).toNat)
              case atStart => exact ⟨p, 0, by omega, Nat.le_refl _, by go_num, by rw [List.take_of_length_le (by rw [HQ.out]; omega), List.drop_eq_nil_of_le (by rw [HQ.out]; omega), List.append_nil]; exact HOY.out, TY.out⟩
              case round =>
                obtain ⟨j, z, hpj, hjq, rfl, hoj, htj⟩ := hrel
                have HLJ := Lib.hid (show (t.take j ++ [z] ++ t.drop j).length = p + 1 by
                  have := HQ.out
                  simp only [List.length_append, List.length_take, List.length_drop, List.length_singleton]
                  omega)
                have HOJ := Lib.hid hoj
                have HTJ := Lib.hid htj
                clear hoj htj
                by_cases hj : p < j
                · exfalso; omega
                · have hjp : j = p := by omega
                  subst hjp
                  have dj : decide ((j : Int) < (j : Int)) = false := decide_eq_false (by omega)
                  have gj : (0 : Int) ≤ (j : Int) ∧ (j : Int) < ((j + 1 : Nat) : Int) := by omega
                  obtain ⟨cur, hcu, hcl, hcb, hset⟩ := int_cells HOJ.out
                  have hnew := fun w' (h : w'.heap[gy]? = some (.cells (cur.set j (.int .i64 x.id)).toArray 3 (0, 0))) => hset w' j x.id h
                  rw [shift_end t j z x.id (by rw [HQ.out]; omega)] at hnew
                  have HNEW := Lib.hid hnew
                  have HCU := Lib.hid hcu
                  have HCL := Lib.hid hcl
                  have HCB := Lib.hid hcb
                  clear hset hnew hcu hcl hcb
                  go_wp2_with (with_reducible (show wpList _ _ _ (Oper.mk none (.store 3 (.tmp 80) (.tmp 79)) _ _ _ _ :: _) _ _); refine still ?_)
                  refine list_set1E wr gy 3 3 cur j (.int .i64 x.id) HCU.out (by have := HCL.out; omega) rfl rfl (by kernel_rfl) rfl (.tmp 80) (.tmp 79) rfl (by first | rfl | (go_simp; done)) rfl (fun w5 h5 t5 => ?_)
                  have O5 := Lib.hid (HNEW.out w5 h5)
                  have T5 := Lib.hid (HTJ.out.trans t5 (fun q' hq' e => by have := HCB.out; omega))
                  have HLE := Lib.hid (show (t.take j ++ [x.id] ++ t.drop j).length = j + 1 by
                    have := HQ.out
                    simp only [List.length_append, List.length_take, List.length_drop, List.length_singleton]
                    omega)
                  clear h5 t5
                  go_wp2_with fail
                  go_roundw
                  case rel => exact ⟨k + 1, t.take j ++ [x.id] ++ t.drop j, by omega, by go_num, by unfold IntsR; rw [HLE.out]; exact O5.out, up_take HUP2.out (by rw [HQ.out]; omega) HALL.out HGT.out, fun nr => by
                    rw [shift_mem, HST.out, List.mem_append, List.mem_singleton, HMEM2.out], by rw [HLE.out, HST.out, List.length_append]; have := HTL2.out; have := HQ.out; simp only [List.length_singleton]; omega, T5.out⟩
                  case measure => simp [intOf]; omega
        · have hkm2 : k = m := by omega
          subst hkm2
          have dq : decide ((k : Int) < (k : Int)) = false := decide_eq_false (by omega)
          go_wp2_with fail
          go_roundw
          case rel => exact ⟨i + 1, t, by omega, by go_num, HO2.out, HUP2.out, by rw [← HNX.out]; exact HMEM2.out, by rw [← HNX.out]; exact HTL2.out, HT2.out⟩
          case measure => simp [intOf]; omega
    · have hie : i = n := by omega
      subst hie
      have HE := Lib.hid (show t0 = idsU L from up_ext HUP.out (idsU_up L) (fun nr => by
        rw [HMEM.out, idsU_mem]
        have hall : idsSo L i 0 = L.flatten.map (·.id) := by unfold idsSo; rw [List.take_zero, List.append_nil, List.take_of_length_le (by rw [HN.out]; omega)]
        rw [hall, List.mem_map]
        constructor
        · rintro ⟨x, hx, rfl⟩
          obtain ⟨c, hc, hxc⟩ := List.mem_flatten.1 hx
          exact ⟨c, hc, hasB_iff.2 ⟨x, hxc, rfl⟩⟩
        · rintro ⟨c, hc, h⟩
          obtain ⟨x, hx, rfl⟩ := hasB_iff.1 h
          exact ⟨x, List.mem_flatten.2 ⟨c, hc, hx⟩, rfl⟩))
      go_wp2_with fail
      go_ret
      refine ⟨_, rfl, ?_, HT.out⟩
      rw [← HE.out]
      exact HO.out

end Go.Proofs.Ytkciaafkhpjnaaa
