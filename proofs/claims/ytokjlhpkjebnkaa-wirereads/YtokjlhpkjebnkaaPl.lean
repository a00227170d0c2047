/- Own contracts: an element, taken from any bytes. No statement is proved here. -/
import Derived.Test.YtokjlhpkjebnkaaPe
import Derived.Test.YtokjlhpkjebnkaaWon
namespace Go.Proofs.Ytokjlhpkjebnkaa
set_option maxRecDepth 100000
open Go.RowKit
set_option linter.unusedVariables false
set_option linter.unusedSimpArgs false


theorem stNum_range {most : Int} (hm : 0 ≤ most) (o : Option (List Int)) : 0 ≤ (stNum most o).1 ∧ (stNum most o).1 ≤ most := by
  cases o with
  | none => exact ⟨Int.le_refl _, hm⟩
  | some xs =>
    cases hp : pNum most xs with
    | none => simp only [stNum, hp]; omega
    | some p =>
      obtain ⟨n, r⟩ := p
      have h2 : (n : Int) ≤ most := by
        unfold pNum at hp
        split at hp
        · split at hp
          · rename_i h
            injection hp with hp
            injection hp with h1 _
            rw [← h1]; exact h
          · cases hp
        · cases hp
      simp only [stNum, hp]
      omega
theorem build_el10 (x : El) (w : World) : (Instr.build 24 #[(0, .int .i64 x.id), (1, .int .u8 x.kind), (2, .int .i64 x.par), (3, .int .i64 x.ord), (5, .int .i64 x.frm), (6, .int .i64 x.to), (4, .string x.name), (7, .string x.ev), (8, .string x.gd), (9, .string x.ac)]).run Try.prog w = .ok (.agg x.vals.toArray) w := by kernel_rfl
theorem exec_el10 (ev : Operand → Value) (op : Oper) (y0 y1 y2 y3 y5 y6 y4 y7 y8 y9 : Operand) (x : El) (ho : op.op = .build 24 #[(0, y0), (1, y1), (2, y2), (3, y3), (5, y5), (6, y6), (4, y4), (7, y7), (8, y8), (9, y9)])
    (h0 : ev y0 = .int .i64 x.id) (h1 : ev y1 = .int .u8 x.kind) (h2 : ev y2 = .int .i64 x.par) (h3 : ev y3 = .int .i64 x.ord) (h5 : ev y5 = .int .i64 x.frm) (h6 : ev y6 = .int .i64 x.to) (h4 : ev y4 = .string x.name) (h7 : ev y7 = .string x.ev) (h8 : ev y8 = .string x.gd) (h9 : ev y9 = .string x.ac) (w : World) : (execOp ev op).run Try.prog w = .ok (.value (.agg x.vals.toArray)) w := by
  unfold execOp
  simp only [ho, List.map_toArray, List.map_cons, List.map_nil, h0, h1, h2, h3, h4, h5, h6, h7, h8, h9, Sem.run_bind, Sem.run_pure, build_el10, Result.andThen_ok]
/-- An eye at work, with an element's room beside it. -/
structure ElS (w W : World) (X G Z : Nat) (o : Option (List Int)) : Prop where
  st : EyeSt W X G o
  turn : Turn (fun k => k = X) w W
  cells : W.heap[Z]? = some (.cells el0.vals.toArray 24 (0, 0))
  ne : Z ≠ X
  neg : Z ≠ G
  big : w.heap.size ≤ Z
theorem ElS.next {w W w' : World} {X G Z : Nat} {o p : Option (List Int)} (h : ElS w W X G Z o) (hp : EyeSt w' X G p) (t : Turn (fun k => k = X) W w') : ElS w w' X G Z p :=
  ⟨hp, h.turn.trans t (fun _ _ => id), (t.block Z (Array.getElem?_eq_some_iff.1 h.cells).1 h.ne).trans h.cells, h.ne, h.neg, h.big⟩
theorem ElS.num {w W : World} {X G Z : Nat} {o : Option (List Int)} (h : ElS w W X G Z o) (most : Int) (hm : 0 ≤ most) : Calls Try.prog 50 #[.pointer (some ⟨X, 0, none⟩), .int .i64 most] W fun e w' => e = .returned (.int .i64 (stNum most o).1) ∧ ElS w w' X G Z (stNum most o).2 :=
  (num_st X G most hm W o h.st).mono fun e w' hp => ⟨hp.1, h.next hp.2.1 hp.2.2⟩
theorem ElS.text {w W : World} {X G Z : Nat} {o : Option (List Int)} (h : ElS w W X G Z o) (most : Int) (hm : 0 ≤ most) : Calls Try.prog 64 #[.pointer (some ⟨X, 0, none⟩), .int .i64 most] W fun e w' => e = .returned (.string (stText most o).1) ∧ ElS w w' X G Z (stText most o).2 :=
  (text_st X G most hm W o h.st).mono fun e w' hp => ⟨hp.1, h.next hp.2.1 hp.2.2⟩
def ElemSt (w : World) (X G : Nat) (p : El × Option (List Int)) (e : Ending) (w' : World) : Prop := e = .returned (.agg p.1.vals.toArray) ∧ EyeSt w' X G p.2 ∧ Turn (fun k => k = X) w w'
set_option maxHeartbeats 8000000 in
theorem element_st (X G : Nat)  (a : Int) (ha : 0 ≤ a ∧ a ≤ 1000000000) (w : World) (o : Option (List Int)) (h : EyeSt w X G o) (hg : G < w.heap.size) : Calls Try.prog 51 #[.pointer (some ⟨X, 0, none⟩), .int .i64 a] w (ElemSt w X G (stElem a o)) := by
  have hbz := box_alloc w 24 el0.vals
  obtain ⟨Z, hZ⟩ : ∃ Z, w.heap.size = Z := ⟨_, rfl⟩
  obtain ⟨w1, hw1⟩ : ∃ w1, w.alloc (.cells el0.vals.toArray 24) = w1 := ⟨_, rfl⟩
  rw [hw1] at hbz
  have hx0 : ∀ ev op, op.op = .alloc 24 → (execOp ev op).run Try.prog w = .ok (.value (.pointer (some ⟨Z, 0, none⟩))) w1 := fun ev op ho => by rw [← hw1, ← hZ]; exact exec_zero24 ev op ho _
  have hzh := hbz.heap
  rw [hZ] at hzh
  have hXZ := h.lt
  have S0 := Lib.hid (show ElS w w1 X G Z o from ⟨h.turn hbz.turn id id, hbz.turn.mono (fun _ _ h => h.elim), hzh, by omega, by omega, by omega⟩)
  have HX0 := Lib.hid hx0
  have HO := Lib.hid (show stElem a o = stElem a o from rfl)
  clear hbz hx0 hzh hZ hw1 hXZ h
  obtain ⟨p0, hp0⟩ : ∃ p, stNum 1048576 o = p := ⟨_, rfl⟩
  have r0 := stNum_range (most := 1048576) (by omega) o
  rw [hp0] at r0
  obtain ⟨p1, hp1⟩ : ∃ p, stNum 255 p0.2 = p := ⟨_, rfl⟩
  have r1 := stNum_range (most := 255) (by omega) p0.2
  rw [hp1] at r1
  obtain ⟨p2, hp2⟩ : ∃ p, stNum 1048576 p1.2 = p := ⟨_, rfl⟩
  have r2 := stNum_range (most := 1048576) (by omega) p1.2
  rw [hp2] at r2
  obtain ⟨p3, hp3⟩ : ∃ p, stNum 1048576 p2.2 = p := ⟨_, rfl⟩
  have r3 := stNum_range (most := 1048576) (by omega) p2.2
  rw [hp3] at r3
  obtain ⟨p4, hp4⟩ : ∃ p, stNum 1048576 p3.2 = p := ⟨_, rfl⟩
  have r4 := stNum_range (most := 1048576) (by omega) p3.2
  rw [hp4] at r4
  obtain ⟨p5, hp5⟩ : ∃ p, stNum 1048576 p4.2 = p := ⟨_, rfl⟩
  have r5 := stNum_range (most := 1048576) (by omega) p4.2
  rw [hp5] at r5
  obtain ⟨p6, hp6⟩ : ∃ p, stText 12 p5.2 = p := ⟨_, rfl⟩
  obtain ⟨p7, hp7⟩ : ∃ p, stText 12 p6.2 = p := ⟨_, rfl⟩
  obtain ⟨p8, hp8⟩ : ∃ p, stText 12 p7.2 = p := ⟨_, rfl⟩
  obtain ⟨p9, hp9⟩ : ∃ p, stText 12 p8.2 = p := ⟨_, rfl⟩
  have hres : stElem a o = (⟨a + p0.1, p1.1, p2.1, p3.1, p6.1, p4.1, p5.1, p7.1, p8.1, p9.1⟩, p9.2) := by
    unfold stElem
    simp only [hp0, hp1, hp2, hp3, hp4, hp5, hp6, hp7, hp8, hp9]
  obtain ⟨E, hE⟩ : ∃ E : El, (⟨a + p0.1, p1.1, p2.1, p3.1, p6.1, p4.1, p5.1, p7.1, p8.1, p9.1⟩ : El) = E := ⟨_, rfl⟩
  rw [hres, hE]
  have HP0 := Lib.hid hp0
  have HP1 := Lib.hid hp1
  have HP2 := Lib.hid hp2
  have HP3 := Lib.hid hp3
  have HP4 := Lib.hid hp4
  have HP5 := Lib.hid hp5
  have HP6 := Lib.hid hp6
  have HP7 := Lib.hid hp7
  have HP8 := Lib.hid hp8
  have HP9 := Lib.hid hp9
  have HE := Lib.hid hE
  clear hres hE hp0 hp1 hp2 hp3 hp4 hp5 hp6 hp7 hp8 hp9
  go_enter Try.func51, Try.ntmps51
  go_wp2_with (with_reducible (show wpList _ _ _ (Oper.mk (some 4) (.alloc 24) _ _ _ _ :: _) _ _); refine still ?_)
  refine list_exec rfl _ _ (HX0.out _ _ rfl) ?_
  go_wp2_with fail
  refine (S0.out.num 1048576 (by omega)).mono ?_
  rintro e W1 ⟨rfl, s1⟩
  rw [HP0.out] at s1
  rw [HP0.out]
  have S1 := Lib.hid s1
  clear s1
  go_wp2_with fail
  refine (S1.out.num 255 (by omega)).mono ?_
  rintro e W2 ⟨rfl, s2⟩
  rw [HP1.out] at s2
  rw [HP1.out]
  have S2 := Lib.hid s2
  clear s2
  go_wp2_with fail
  refine (S2.out.num 1048576 (by omega)).mono ?_
  rintro e W3 ⟨rfl, s3⟩
  rw [HP2.out] at s3
  rw [HP2.out]
  have S3 := Lib.hid s3
  clear s3
  go_wp2_with fail
  refine (S3.out.num 1048576 (by omega)).mono ?_
  rintro e W4 ⟨rfl, s4⟩
  rw [HP3.out] at s4
  rw [HP3.out]
  have S4 := Lib.hid s4
  clear s4
  go_wp2_with fail
  refine (S4.out.num 1048576 (by omega)).mono ?_
  rintro e W5 ⟨rfl, s5⟩
  rw [HP4.out] at s5
  rw [HP4.out]
  have S5 := Lib.hid s5
  clear s5
  go_wp2_with fail
  refine (S5.out.num 1048576 (by omega)).mono ?_
  rintro e W6 ⟨rfl, s6⟩
  rw [HP5.out] at s6
  rw [HP5.out]
  have S6 := Lib.hid s6
  clear s6
  go_wp2_with fail
  refine (S6.out.text 12 (by omega)).mono ?_
  rintro e W7 ⟨rfl, s7⟩
  rw [HP6.out] at s7
  rw [HP6.out]
  have S7 := Lib.hid s7
  clear s7
  go_wp2_with fail
  refine (S7.out.text 12 (by omega)).mono ?_
  rintro e W8 ⟨rfl, s8⟩
  rw [HP7.out] at s8
  rw [HP7.out]
  have S8 := Lib.hid s8
  clear s8
  go_wp2_with fail
  refine (S8.out.text 12 (by omega)).mono ?_
  rintro e W9 ⟨rfl, s9⟩
  rw [HP8.out] at s9
  rw [HP8.out]
  have S9 := Lib.hid s9
  clear s9
  go_wp2_with fail
  refine (S9.out.text 12 (by omega)).mono ?_
  rintro e W10 ⟨rfl, s10⟩
  rw [HP9.out] at s10
  rw [HP9.out]
  have S10 := Lib.hid s10
  clear s10
  go_wp2_with (with_reducible (show wpList _ _ _ (Oper.mk (some 28) _ _ _ _ _ :: _) _ _); refine still ?_)
  refine list_exec rfl _ _ (exec_el10 _ _ _ _ _ _ _ _ _ _ _ _ E rfl ?_ ?_ ?_ ?_ ?_ ?_ ?_ ?_ ?_ ?_ _) ?_
  · rw [← HE.out]; first | rfl | (refine congrArg (Value.int _) ?_; go_num) | (refine congrArg (Value.int _) ?_; show _ = _; omega)
  · rw [← HE.out]; first | rfl | (refine congrArg (Value.int _) ?_; go_num) | (refine congrArg (Value.int _) ?_; show _ = _; omega)
  · rw [← HE.out]; first | rfl | (refine congrArg (Value.int _) ?_; go_num) | (refine congrArg (Value.int _) ?_; show _ = _; omega)
  · rw [← HE.out]; first | rfl | (refine congrArg (Value.int _) ?_; go_num) | (refine congrArg (Value.int _) ?_; show _ = _; omega)
  · rw [← HE.out]; first | rfl | (refine congrArg (Value.int _) ?_; go_num) | (refine congrArg (Value.int _) ?_; show _ = _; omega)
  · rw [← HE.out]; first | rfl | (refine congrArg (Value.int _) ?_; go_num) | (refine congrArg (Value.int _) ?_; show _ = _; omega)
  · rw [← HE.out]; first | rfl | (refine congrArg (Value.int _) ?_; go_num) | (refine congrArg (Value.int _) ?_; show _ = _; omega)
  · rw [← HE.out]; first | rfl | (refine congrArg (Value.int _) ?_; go_num) | (refine congrArg (Value.int _) ?_; show _ = _; omega)
  · rw [← HE.out]; first | rfl | (refine congrArg (Value.int _) ?_; go_num) | (refine congrArg (Value.int _) ?_; show _ = _; omega)
  · rw [← HE.out]; first | rfl | (refine congrArg (Value.int _) ?_; go_num) | (refine congrArg (Value.int _) ?_; show _ = _; omega)
  go_wp2_with (with_reducible (show wpList _ _ _ (Oper.mk none (.store 24 (.tmp 4) (.tmp 28)) _ _ _ _ :: _) _ _); refine still ?_)
  refine list_put W10 Z 24 el0.vals E.vals S10.out.cells rfl E.vals_one el_info rfl (.tmp 4) (.tmp 28) rfl rfl rfl (fun w5 h5 t5 => ?_)
  have H5 := Lib.hid h5
  have HT5 := Lib.hid (S10.out.turn.trans t5 (fun q hq e => by have := S10.out.big; omega))
  have ST5 := Lib.hid (S10.out.st.turn t5 (fun h => S10.out.ne h.symm) (fun h => S10.out.neg h.symm))
  clear h5 t5
  go_wp2_with fail
  refine bodyPost_ret (run_cell Try.f51 4 24 (by kernel_rfl) Z _ w5 (range_of H5.out) Try.underlying24 rfl el_info _ rfl) rfl ?_
  exact ⟨rfl, ST5.out, HT5.out⟩
end Go.Proofs.Ytokjlhpkjebnkaa
