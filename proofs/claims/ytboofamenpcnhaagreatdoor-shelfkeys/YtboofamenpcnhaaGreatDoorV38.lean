/- Own texts, packed: Q40. -/
import Derived.Test.YtboofamenpcnhaaGreatDoorV37
import Derived.Lib.SlBytesConst
import Derived.Test.YtboofamenpcnhaaGreatDoorV00
namespace Go.Proofs.YtboofamenpcnhaaGreatDoor
set_option maxRecDepth 100000
open Go.RowKit Go.Shelf
set_option linter.unusedVariables false
set_option linter.unusedSimpArgs false
theorem equal_same (v1 v2 : Value) (xs : List Int) (w : World) (h1 : Reads w v1 xs) (h2 : Reads w v2 xs) : Calls Tryz.prog 78 #[v1, v2] w fun e w' => e = .returned (.bool true) ∧ w' = w := by
  have q1 := h1.conv
  have q2 := h2.conv
  generalize strOfNums xs = s at q1 q2
  clear h1 h2
  go_enter Tryz.func78, Tryz.ntmps78
  go_wp2_with fail
  go_ret
  exact ⟨by first | rfl | simp, rfl⟩
set_option maxHeartbeats 1600000 in
theorem admit_blank (S k : Nat) (v : Value) (w : World) (hv : Reads w v noughts) : Calls Tryz.prog 51 #[.pointer (some ⟨S, 0, none⟩), .int .i64 (k : Int), v] w fun e w' => e = .returned (.bool true) ∧ Turn (fun _ => False) w w' := by
  have hmk : (Instr.makeSlice 29 (.int .i64 64) (.int .i64 64)).run Tryz.prog w = .ok (.slice (some ⟨w.heap.size, 0, none⟩) 64 64) (w.alloc (.cells (Array.replicate 64 (.int .u8 0)) 5)) := run_make_bytes 64 64 (by omega) (by omega) w
  have hn := heap_alloc_new w (.cells (Array.replicate 64 (.int .u8 0)) 5)
  have t1 : Turn (fun _ => False) w (w.alloc (.cells (Array.replicate 64 (.int .u8 0)) 5)) := (Turn.refl _ w).alloc _
  obtain ⟨w1, hw1⟩ : ∃ w1, w.alloc (.cells (Array.replicate 64 (.int .u8 0)) 5) = w1 := ⟨_, rfl⟩
  rw [hw1] at hmk hn t1
  have r2 : Reads w1 (.slice (some ⟨w.heap.size, 0, none⟩) 64 64) noughts := .inr ⟨w.heap.size, 0, 64, by simp [noughts], by simp [noughts], fun i hi => by
    have hi' : i < 64 := by simpa [noughts] using hi
    rw [Nat.zero_add, cell_of_row w1 _ i _ 5 (0, 0) hn, Array.getElem?_replicate, if_pos hi', show noughts.getD i 0 = 0 by unfold noughts; rw [List.getD_eq_getElem?_getD, List.getElem?_replicate, if_pos hi']; rfl]⟩
  have HR2 := Lib.hid r2
  have HR1 := Lib.hid (hv.turn t1 (fun _ _ => id))
  have HT1 := Lib.hid t1
  clear hv hn t1 r2
  go_enter Tryz.func51, Tryz.ntmps51
  go_wp2_with fail
  refine (equal_same _ _ noughts w1 HR1.out HR2.out).mono ?_
  rintro e w2 ⟨rfl, rfl⟩
  go_wp2_with fail
  go_ret
  exact ⟨rfl, HT1.out⟩
def bl : List Ob := List.replicate 48 ob0
theorem build76 (J M : Nat) (w : World) : (Instr.build 76 #[(0, .pointer (some ⟨J, 0, none⟩)), (2, .pointer (some ⟨M, 0, none⟩))]).run Tryz.prog w = .ok (.agg (shV J M bl).toArray) w := by kernel_rfl
theorem exec_build76 (ev : Operand → Value) (op : Oper) (x z : Operand) (ho : op.op = .build 76 #[(0, x), (2, z)]) (J M : Nat) (hx : ev x = .pointer (some ⟨J, 0, none⟩)) (hz : ev z = .pointer (some ⟨M, 0, none⟩)) (w : World) : (execOp ev op).run Tryz.prog w = .ok (.value (.agg (shV J M bl).toArray)) w := by
  unfold execOp
  simp only [ho, List.map_toArray, List.map_cons, List.map_nil, hx, hz, Sem.run_bind, Sem.run_pure, build76 J M, Result.andThen_ok]
theorem bl_ok : ∀ o ∈ bl, o.Ok := fun o ho => by rw [List.eq_of_mem_replicate ho]; exact ob0_ok
set_option maxHeartbeats 4000000 in
theorem sopen_blank (w : World) (B : Nat) (F : Nat → Prop) (J D : Nat) (d : DiskM) (L n P : Nat) (f : Eight) (ks : List Int) (hj : JC w F J D d L (List.replicate (60 + P) noughts) n) (ha : d.armed = false) (hP : 0 < P ∧ P ≤ 1000) (tb : Tb w f ks) (hB4 : 4 ≤ B) (hBF : ∀ k, F k → B ≤ k) (hBJ : B ≤ J) (hBw : B ≤ w.heap.size) :
    Calls Tryz.prog 20 #[.pointer (some ⟨J, 0, none⟩)] w fun e w' => ∃ S M G, e = .returned (.tuple #[.pointer (some ⟨S, 0, none⟩), .int .i64 0]) ∧ SH w' B F G S J M D d L (List.replicate (60 + P) noughts) n P (fun _ => false) bl f ks ∧ w.heap.size ≤ S ∧ (∀ k, G k → w.heap.size ≤ k) ∧ Turn (fun _ => False) w w' := by
  have hlen : (List.replicate (60 + P) noughts).length = 60 + P := by simp
  have hsec : ∀ w', Turn (fun _ => False) w w' → Calls Tryz.prog 48 #[.pointer (some ⟨J, 0, none⟩)] w' fun e w'' => e = .returned (.int .i64 ((60 + P : Nat) : Int)) ∧ w'' = w' := fun w' t => by
    have := sectors_h w' F J D d L _ n (hj.turn0 t)
    rwa [hlen] at this
  have HSEC := Lib.hid hsec
  have HJ := Lib.hid hj
  have HTB := Lib.hid tb
  have hd : decide (((60 + P : Nat) : Int) ≤ 60) = false := by simp; omega
  have hw : IntKind.i64.wrap (((60 + P : Nat) : Int) - 60) = (P : Int) := by rw [IntKind.wrap_i64]; omega
  obtain ⟨Y, hY⟩ : ∃ Y, 60 + P = Y := ⟨_, rfl⟩
  have HY := Lib.hid hY
  have hsec2 := HSEC.out
  rw [hY] at hsec2 hd hw
  have HSEC2 := Lib.hid hsec2
  have hYP : ((Y : Int) - 60) = (P : Int) := by omega
  have hYw : (Y : Int) < 2000 := by omega
  clear hj tb hsec hsec2 HSEC hY hlen
  go_enter Tryz.func20, Tryz.ntmps20
  go_wp2_with fail
  refine (HSEC2.out w (Turn.refl _ _)).mono ?_
  rintro e w9 ⟨rfl, h9⟩
  rw [h9]
  clear h9 w9
  go_wp2_with fail
  refine (HSEC2.out w (Turn.refl _ _)).mono ?_
  rintro e w9 ⟨rfl, h9⟩
  rw [h9]
  clear h9 w9
  go_wp2_with fail
  try rw [hYP]
  refine (new_hE w (P : Int) (by omega)).mono ?_
  rintro e w1 ⟨M, G, rfl, hm, hG, t1⟩
  rw [Int.toNat_natCast] at hm
  have HM := Lib.hid hm
  have HT1 := Lib.hid t1
  have HG := Lib.hid hG
  clear hm hG t1
  go_wp2_with (with_reducible (show wpList _ _ _ (Oper.mk (some 16) (.build 76 #[(0, .tmp 11), (2, .tmp 15)]) _ _ _ _ :: _) _ _); refine still ?_)
  refine list_exec rfl _ _ (exec_build76 _ _ (.tmp 11) (.tmp 15) rfl J M rfl rfl _) ?_
  have hbx := box_alloc w1 76 (shV J M bl)
  have hs2 : ShAt (w1.alloc (.cells (shV J M bl).toArray 76)) w1.heap.size J M bl := ⟨hbx.heap, by simp [bl], bl_ok⟩
  obtain ⟨w2, hw2⟩ : ∃ w2, w1.alloc (.cells (shV J M bl).toArray 76) = w2 := ⟨_, rfl⟩
  rw [hw2] at hbx hs2
  obtain ⟨cs, hcs⟩ : ∃ cs, (shV J M bl).toArray = cs := ⟨_, rfl⟩
  rw [hcs] at hw2 ⊢
  obtain ⟨S, hS⟩ : ∃ S, w1.heap.size = S := ⟨_, rfl⟩
  have HBX := Lib.hid hbx
  have HS2 := Lib.hid hs2
  have HT2 := Lib.hid (HT1.out.trans hbx.turn (fun _ _ => id))
  have HS := Lib.hid hS
  clear hbx hs2 hcs
  have hread : ∀ wr (k : Nat), Turn (fun _ => False) w2 wr → k < 48 → Calls Tryz.prog 50 #[.pointer (some ⟨J, 0, none⟩), .int .i64 (k : Int)] wr fun e w' => ∃ B, e = .returned (.tuple #[.slice (some ⟨B, 0, none⟩) 64 64, .int .i64 0]) ∧ Reads w' (.slice (some ⟨B, 0, none⟩) 64 64) noughts ∧ Turn (fun _ => False) wr w' := fun wr k t hk => by
    refine (read_h wr F J D d L _ n k (HJ.out.turn0 (HT2.out.trans t (fun _ _ => id))) (by simp; omega)).mono ?_
    rintro e w' ⟨B, rfl, h1, h2, h3, h4⟩
    refine ⟨B, rfl, .inr ⟨B, 0, 64, by simp [noughts], by simp [noughts], fun i hi => h3 i _ ?_⟩, h4⟩
    rw [show (List.replicate (60 + P) noughts).getD k [] = noughts by rw [List.getD_eq_getElem?_getD, List.getElem?_replicate, if_pos (by omega)]; rfl]
    have hi' : i < 64 := by simpa [noughts] using hi
    rw [show noughts.getD i 0 = 0 by unfold noughts; rw [List.getD_eq_getElem?_getD, List.getElem?_replicate, if_pos hi']; rfl]
    unfold secV noughts
    rw [List.getElem?_map, List.getElem?_replicate, if_pos hi']
    rfl
  have HRD := Lib.hid hread
  clear hread
  go_wp2_with fail
  go_loopw [18] (fun iv wr => ∃ k : Nat, k ≤ 48 ∧ iv = .int .i64 (k : Int) ∧ Turn (fun _ => False) w2 wr) (fun iv _ => (48 - intOf iv).toNat)
  case atStart => exact ⟨0, by omega, rfl, Turn.refl _ _⟩
  case round =>
    obtain ⟨k, hk, rfl, hT⟩ := hrel
    have HTr := Lib.hid hT
    clear hT
    by_cases hlt : k < 48
    · have hdk : decide ((k : Int) < 48) = true := by simp; omega
      go_wp2_with fail
      refine (HRD.out wr k HTr.out hlt).mono ?_
      rintro e w4 ⟨Bq, rfl, hrd, t4⟩
      have HRr := Lib.hid hrd
      have HT4 := Lib.hid (HTr.out.trans t4 (fun _ _ => id))
      clear hrd t4
      go_wp2_with fail
      refine (admit_blank _ k _ w4 HRr.out).mono ?_
      rintro e w5 ⟨rfl, t5⟩
      have HT5 := Lib.hid (HT4.out.trans t5 (fun _ _ => id))
      clear t5
      go_wp2_with fail
      go_roundw
      case rel => exact ⟨k + 1, by omega, by go_num, HT5.out⟩
      case measure => simp [intOf]; omega
    · have hk48 : k = 48 := by omega
      have hdk : decide ((k : Int) < 48) = false := by simp; omega
      go_wp2_with fail
      refine bodyPost_ret (results_tmp2 (t := 2) (u := 3) (by kernel_rfl) _ _ _) rfl ?_
      have h9 := HS.out
      clear HS hS
      subst h9
      have tw := HT2.out.trans HTr.out (fun _ _ => id)
      have hsz := HT1.out.size
      have hlt1 := HJ.out.jh.dh.2
      have hJl := HJ.out.jh.jat.lt
      refine ⟨w1.heap.size, M, G, rfl, ⟨HS2.out.turn HTr.out id, HJ.out.turn0 tw, ha, HM.out.none (HBX.out.turn.trans HTr.out (fun _ _ => id)), by simp, hP.2, HTB.out.turn0 tw, hB4, fun q hq => ?_, fun hF => by have := hlt1 _ hF; omega, fun hG' => by have := HM.out.lt _ hG'; omega, fun hG' => by have := HG.out _ hG'; omega, by omega, fun q hF hG' => by have := hlt1 _ hF; have := HG.out _ hG'; omega⟩, hsz, HG.out, tw⟩
      rcases hq with hq | hq | rfl | rfl
      · exact hBF q hq
      · have := HG.out q hq; omega
      · exact hBJ
      · omega
end Go.Proofs.YtboofamenpcnhaaGreatDoor
namespace Go.Proofs.YtboofamenpcnhaaGreatDoor
set_option maxRecDepth 100000
open Go.RowKit Go.Shelf
set_option linter.unusedVariables false
set_option linter.unusedSimpArgs false
attribute [local go_sem] Oper.semAt_some
theorem own_boxturn {α : Type} (W0 : World) (Bl : Nat) (T : TypeId) (val : List α → Value) : OwnFrom W0.heap.size (fun (pre : List α) W => W.heap[Bl]? = some (.cells #[val pre] T (0, 0)) ∧ Turn (fun q => q = Bl) W0 W) := fun s A B row hs hg hr => by
  obtain ⟨hb, ht⟩ := hs
  have hne : some Bl ≠ row := fun e => by
    obtain ⟨o, ho, hc⟩ := (hr Bl e.symm).2
    rw [hb] at ho
    cases ho
    cases hc
  refine ⟨(hg.block Bl (Array.getElem?_eq_some_iff.1 hb).1 hne).trans hb, ⟨hg.os.trans ht.os, hg.tape.trans ht.tape, hg.output.trans ht.output, Nat.le_trans ht.size hg.size, fun k hk hq => ?_⟩⟩
  refine (hg.block k (by have := ht.size; omega) (fun e => ?_)).trans (ht.block k hk hq)
  have := (hr k e.symm).1
  omega
/-- How many objects there are. -/
def nOb (sl : List Ob) (hg : SGood sl) : Nat := (objsTo sl hg 48).length
structure LF (w W : World) (S : Nat) : Prop where
  k0 : W.heap[w.heap.size]? = some (.cells #[.int .i64 48] 3 (0, 0))
  k1 : W.cell? ⟨w.heap.size + 1, 0, none⟩ = some (.pointer (some ⟨S, 0, none⟩))
  size : W.heap.size = w.heap.size + 1 + 1
  turn : Turn (fun _ => False) w W
theorem left_start (w : World) (S : Nat) : LF w ((w.alloc (.cells #[.int .i64 48] 3)).alloc (.cells #[.pointer (some ⟨S, 0, none⟩)] 26)) S := by
  have b1 := box_alloc w 3 [.int .i64 48]
  have b2 := box_alloc (w.alloc (.cells #[.int .i64 48] 3)) 26 [.pointer (some ⟨S, 0, none⟩)]
  have e2 := b2.cell 0 _ rfl
  rw [World.size_alloc] at e2
  exact ⟨b1.later b2.turn, e2, by simp, b1.turn.trans b2.turn (fun _ _ => id)⟩
set_option maxHeartbeats 4000000 in
theorem sleft_in (w : World) (S J M P : Nat) (G : Nat → Prop) (U : Nat → Bool) (sl : List Ob) (hs : ShAt w S J M sl) (hm : MapU w G M P U) (hP : P ≤ 5000) :
    CallsIn (FW none) 3 Tryz.prog 15 #[.pointer (some ⟨S, 0, none⟩)] w fun e w' => e = .returned (.tuple #[.int .i64 (48 - (nOb sl hs.sgood : Int)), .int .i64 ((cnt (fun p => !U p) P : Nat) : Int)]) ∧ Turn (fun _ => False) w w' := by
  have hg := hs.sgood
  have hfs := left_start w S
  have HM := Lib.hid hm
  have HSH := Lib.hid hs
  clear hm
  refine callsIn_of_wp_marks Tryz.func15 rfl trivial ?_ rfl
  simp only [Tryz.ntmps15, List.size_toArray, List.length_cons, List.length_nil, Nat.reduceAdd, Nat.reduceSub, Array.replicate_succ, Array.replicate_zero, List.push_toArray, List.append_toArray, List.nil_append, List.cons_append]
  gi_wp2
  refine ⟨trivial, ?_⟩
  refine (calls_wide (ro := none) (objects_any _ _ ⟨_, rfl⟩)).mono ?_
  rintro e w' ⟨rfl, rfl⟩
  generalize ((w.alloc (.cells #[.int .i64 48] 3)).alloc (.cells #[.pointer (some ⟨S, 0, none⟩)] 26)) = W5 at hfs ⊢
  simp only [World.size_alloc]
  have HF := Lib.hid hfs
  clear hfs
  gi_wp2
  have hsz := HF.out.size
  refine wpIn_rangeFunc_ownG rfl (by omega) (gf := 65) (lb := #[.pointer (some ⟨w.heap.size + 1, 0, none⟩)]) rfl trivial (enters_of Tryz.func65 (by kernel_rfl) rfl)
    (encs := fun x : OX => #[.int .i64 (x.1.1 : Int), .agg x.1.2.vals.toArray]) (Kp := KeepsWalks)
    (seqStopsA_iff.1 (objs_stops (3 - 1) (w.heap.size + 1) S J M sl hg W5 (by rw [hsz]; omega) HF.out.k1 (hs.turn HF.out.turn id))) walksK_t walksK_b (Below.refl _ _) (fun _ => rfl)
    (fun pre W => W.heap[w.heap.size]? = some (.cells #[.int .i64 (48 - (pre.length : Int))] 3 (0, 0)) ∧ Turn (fun q => q = w.heap.size) W5 W)
    (fun c pre W => False)
    (own_boxturn W5 w.heap.size 3 (fun pre => .int .i64 (48 - (pre.length : Int))))
    (fun c s A B row hs hg hr => hs)
    ⟨HF.out.k0, Turn.refl _ _⟩
    (fun x => { tmps := #[.pointer (some ⟨S, 0, none⟩), undef, .int .i64 0, .int .i64 0, .pointer (some ⟨w.heap.size, 0, none⟩), .pointer (some ⟨S, 0, none⟩), .bool false, .pointer (some ⟨S, 0, none⟩), .func (.func 65) #[] #[.pointer (some ⟨w.heap.size + 1, 0, none⟩)], .int .i64 (x.1.1 : Int), .agg x.1.2.vals.toArray, undef, undef, undef, undef, undef, undef, undef, undef], defers := [] })
    ?assign ?body ?done ?stop
  case assign =>
    intro l x W K hK
    gi_wp2
    first | exact hK | (simp; exact hK)
  case body =>
    rintro l pre x W ⟨hb, hT⟩ hlen
    have c4 : W.cell? ⟨w.heap.size, 0, none⟩ = some (.int .i64 (48 - (pre.length : Int))) := cell_of_row _ _ 0 _ 3 (0, 0) hb
    have f4 : W.frozen? ⟨w.heap.size, 0, none⟩ = false := frozen_of_row _ _ 0 _ 3 hb
    have hw1 : IntKind.i64.wrap (48 - (pre.length : Int) - 1) = 48 - (pre.length : Int) - 1 := by rw [IntKind.wrap_i64]; omega
    obtain ⟨i, hi⟩ : ∃ i, pre.length = i := ⟨_, rfl⟩
    rw [hi] at c4 hw1 hb hlen
    have HPI := Lib.hid hi
    have HB := Lib.hid hb
    have HT := Lib.hid hT
    clear hi hb hT
    gi_wp2
    have t3 : Turn (fun q => q = w.heap.size) W (W.setCell ⟨w.heap.size, 0, none⟩ (.int .i64 (48 - (i : Int) - 1))) := Turn.setCell (S := fun q => q = w.heap.size) (Turn.refl _ _) (p := ⟨w.heap.size, 0, none⟩) (fun _ => rfl) _
    have hk := KeepsOthers.setCell W ⟨w.heap.size, 0, none⟩ (.int .i64 (48 - (i : Int) - 1))
    refine ⟨hk.from _, hk.walks, ?_, HT.out.trans t3 (fun _ _ h => h)⟩
    have := heap_setCell_same W w.heap.size 0 #[.int .i64 (48 - (i : Int))] 3 (.int .i64 (48 - (i : Int) - 1)) HB.out
    rw [this, List.length_append, List.length_singleton, HPI.out]
    congr 2
    show #[Value.int IntKind.i64 (48 - (i : Int) - 1)] = #[Value.int IntKind.i64 (48 - ((i + 1 : Nat) : Int))]
    congr 3
    omega
  case done =>
    rintro Dd xs W hD rfl ⟨hb, hT⟩ hK
    rw [show (objsTo sl hg 48).length = nOb sl hg from rfl] at hb
    obtain ⟨m, hm⟩ : ∃ m : Int, 48 - (nOb sl hg : Int) = m := ⟨_, rfl⟩
    rw [hm] at hb
    have HMM := Lib.hid hm
    have tW : Turn (fun _ => False) w W := HF.out.turn.trans hT (fun k hk e => by omega)
    have c4 : W.cell? ⟨w.heap.size, 0, none⟩ = some (.int .i64 m) := cell_of_row _ _ 0 _ 3 (0, 0) hb
    have cM : W.cell? ⟨S, 1633, none⟩ = some (.pointer (some ⟨M, 0, none⟩)) := (hs.turn tW id).cM
    have HTW := Lib.hid tW
    have HKD := Lib.hid hK
    have hDd : Dd < W.heap.size := (Array.getElem?_eq_some_iff.1 hK).1
    clear hb hT hK hm tW
    gi_wp2
    refine (wpIn_wide (n := 3)).2 ?_
    refine wp_drop ?_
    refine wp_region_held_drew (S := fun wq => wq.cell? ⟨w.heap.size, 0, none⟩ = some (.int .i64 m) ∧ wq.cell? ⟨S, 1633, none⟩ = some (.pointer (some ⟨M, 0, none⟩))) (by kernel_rfl) ⟨c4, cM⟩ (fun hHeld => ?_)
    have hSd : W.drew.cell? ⟨w.heap.size, 0, none⟩ = some (.int .i64 m) ∧ W.drew.cell? ⟨S, 1633, none⟩ = some (.pointer (some ⟨M, 0, none⟩)) := ⟨c4, cM⟩
    have HTD := Lib.hid (Turn.drew (Turn.refl (fun _ => False) W))
    clear c4 cM
    generalize W.drew = wd at HTD hSd ⊢
    refine wpAnyH_take (i := 0) (v := .int .i64 m) rfl (by kernel_rfl) (by kernel_rfl) (by kernel_rfl) (fun _ _ _ h => h) (Or.inl ⟨by rfl, ?yq1⟩) (by assumption) ?rq1
    case yq1 => (intro wq hSw; obtain ⟨z1, z2⟩ := hSw; (try simp only [zq1, zq2, zq3]); go_simp; (try with_reducible rfl); all_goals (try omega))
    case rq1 =>
    try simp only [Act.put, zq4, zq5, zq6, zq1, zq2, zq3]
    refine wpAnyH_take (i := 1) (v := .pointer (some ⟨S, 0, none⟩)) rfl (by kernel_rfl) (by kernel_rfl) (by kernel_rfl) (fun _ _ _ h => h) (Or.inl ⟨by rfl, ?yq2⟩) (by assumption) ?rq2
    case yq2 => (intro wq hSw; (try simp only [zq1, zq2, zq3]); go_simp; (try with_reducible rfl); all_goals (try omega))
    case rq2 =>
    try simp only [Act.put, zq4, zq5, zq6, zq1, zq2, zq3]
    refine wpAnyH_take (i := 2) (v := .pointer (some ⟨S, 0, none⟩)) rfl (by kernel_rfl) (by kernel_rfl) (by kernel_rfl) (fun _ _ _ h => h) (Or.inl ⟨by rfl, ?yq3⟩) (by assumption) ?rq3
    case yq3 => (intro wq hSw; (try simp only [zq1, zq2, zq3]); go_simp; (try with_reducible rfl); all_goals (try omega))
    case rq3 =>
    try simp only [Act.put, zq4, zq5, zq6, zq1, zq2, zq3]
    refine wpAnyH_take (i := 3) (v := .pointer (some ⟨S, 1633, none⟩)) rfl (by kernel_rfl) (by kernel_rfl) (by kernel_rfl) (fun _ _ _ h => h) (Or.inl ⟨by rfl, ?yq4⟩) (by assumption) ?rq4
    case yq4 => (intro wq hSw; (try simp only [zq1, zq2, zq3]); go_simp; (try with_reducible rfl); all_goals (try omega))
    case rq4 =>
    try simp only [Act.put, zq4, zq5, zq6, zq1, zq2, zq3]
    refine wpAnyH_take (i := 4) (v := .pointer (some ⟨M, 0, none⟩)) rfl (by kernel_rfl) (by kernel_rfl) (by kernel_rfl) (fun _ _ _ h => h) (Or.inl ⟨by rfl, ?yq5⟩) (by assumption) ?rq5
    case yq5 => (intro wq hSw; obtain ⟨z1, z2⟩ := hSw; (try simp only [zq1, zq2, zq3]); go_simp; (try with_reducible rfl); all_goals (try omega))
    case rq5 =>
    try simp only [Act.put, zq4, zq5, zq6, zq1, zq2, zq3]
    refine wpAnyH_ready (rs := [5]) (by kernel_rfl) (by simp) ?_
    refine AllReadyH.cons rfl (fun K hK => ?_) AllReadyH.nil
    go_simp
    refine (left_h wd G M P U (HM.out.none (HTW.out.trans HTD.out (fun _ _ => id))) hP).mono ?_
    rintro e w7 ⟨rfl, t7⟩
    have HT7 := Lib.hid t7
    refine hK.out _ _ ⟨(t7.cell (p := ⟨w.heap.size, 0, none⟩) (World.block_lt_of_cell? _ _ hSd.1) id).trans hSd.1, (t7.cell (p := ⟨S, 1633, none⟩) (World.block_lt_of_cell? _ _ hSd.2) id).trans hSd.2⟩ (fun _ => ?_)
    clear hK K t7
    try simp only [Act.put, zq4, zq5, zq6, zq1, zq2, zq3]
    refine wpAnyH_take (i := 6) (v := .int .i64 m) rfl (by kernel_rfl) (by kernel_rfl) (by kernel_rfl) (fun _ _ _ h => h) (Or.inl ⟨by rfl, ?yq6⟩) (by assumption) ?rq6
    case yq6 => (intro wq hSw; (try simp only [zq1, zq2, zq3]); go_simp; (try with_reducible rfl); all_goals (try omega))
    case rq6 =>
    try simp only [Act.put, zq4, zq5, zq6, zq1, zq2, zq3]
    refine wpAnyH_take (i := 7) (v := .int .i64 ((cnt (fun p => !U p) P : Nat) : Int)) rfl (by kernel_rfl) (by kernel_rfl) (by kernel_rfl) (fun _ _ _ h => h) (Or.inl ⟨by rfl, ?yq7⟩) (by assumption) ?rq7
    case yq7 => (intro wq hSw; (try simp only [zq1, zq2, zq3]); go_simp; (try with_reducible rfl); all_goals (try omega))
    case rq7 =>
    try simp only [Act.put, zq4, zq5, zq6, zq1, zq2, zq3]
    refine wpAnyH_done (by kernel_rfl) ?_ _
    clear hHeld hSd
    have tx := HTD.out.trans HT7.out (fun _ _ => id)
    have hK7 : w7.heap[Dd]? = some (.deferred (some [])) := (tx.block Dd hDd id).trans HKD.out
    have hgr := grownBy_putObj' w7 Dd (.deferred none)
    have tf : Turn (fun _ => False) w (w7.putObj Dd (.deferred none)) := (HTW.out.trans tx (fun _ _ => id)).trans (show Turn (fun q => q = Dd) w7 _ from ⟨hgr.os, hgr.tape, hgr.output, hgr.size, fun k hk hq => hgr.block k hk (fun e => hq (by cases e; rfl))⟩) (fun k hk e => by have := HF.out.turn.size; omega)
    have HTF := Lib.hid tf
    clear tx hgr tf
    gi_wp2
    refine ⟨by simp, .inl ⟨_, _, rfl, run_takeDeferred hK7, ?_⟩⟩
    refine ⟨_, results_tmp2 (t := 2) (u := 3) (by kernel_rfl) _ _ _, ?_, HTF.out⟩
    rw [HMM.out]
    rfl
  case stop =>
    rintro D c pre W hD _ h
    exact h.elim
theorem sleft_any (w : World) (S J M P : Nat) (G : Nat → Prop) (U : Nat → Bool) (sl : List Ob) (hs : ShAt w S J M sl) (hm : MapU w G M P U) (hP : P ≤ 5000) :
    Calls Tryz.prog 15 #[.pointer (some ⟨S, 0, none⟩)] w fun e w' => e = .returned (.tuple #[.int .i64 (48 - (nOb sl hs.sgood : Int)), .int .i64 ((cnt (fun p => !U p) P : Nat) : Int)]) ∧ Turn (fun _ => False) w w' := callsIn_wide.1 (sleft_in w S J M P G U sl hs hm hP)
end Go.Proofs.YtboofamenpcnhaaGreatDoor
namespace Go.Proofs.YtboofamenpcnhaaGreatDoor
set_option maxRecDepth 100000
open Go.RowKit Go.Shelf
set_option linter.unusedVariables false
set_option linter.unusedSimpArgs false
def blank (P : Nat) : List (List Int) := List.replicate (60 + P) noughts
set_option maxHeartbeats 4000000 in
theorem fresh_any (w : World) (P n : Nat) (f : Eight) (ks : List Int) (tb : Tb w f ks) (hP : 0 < P ∧ P ≤ 1000) (hn : n ≤ 900000) :
    Calls Tryz.prog 9 #[.int .i64 (P : Int)] w fun e w' => ∃ D S J M F G d L, e = .returned (.tuple #[.pointer (some ⟨D, 0, none⟩), .pointer (some ⟨S, 0, none⟩), .bool true]) ∧ SH w' w.heap.size F G S J M D d L (blank P) n P (fun _ => false) bl f ks ∧ Turn (fun _ => False) w w' := by
  have h4 : 4 ≤ w.heap.size := tb.tab.1
  have HTB := Lib.hid tb
  have hw : IntKind.i64.wrap (109 + (P : Int)) = 109 + (P : Int) := by rw [IntKind.wrap_i64]; omega
  have hc : ((109 + P : Nat) : Int) = 109 + (P : Int) := by omega
  have hnew := new_h w (109 + P) (n + 100) (by omega) (by omega)
  rw [show 109 + P - 49 = 60 + P by omega, hc] at hnew
  have HN := Lib.hid hnew
  clear tb hnew hc
  go_enter Tryz.func9, Tryz.ntmps9
  go_wp2_with fail
  refine HN.out.mono ?_
  rintro e w1 ⟨D, F, rfl, hd, hF, t1⟩
  have HD := Lib.hid hd
  have HF := Lib.hid hF
  have HT1 := Lib.hid t1
  clear hd hF t1
  go_wp2_with fail
  refine (open_h w1 F D (newM (109 + P)) 0 _ n HD.out rfl (by omega)).mono ?_
  rintro e w2 ⟨J, F2, d2, L2, rfl, hj, ha, hJ, hst, hL⟩
  have HJ := Lib.hid hj
  have HST := Lib.hid hst
  have hs1 := HT1.out.size
  have HB2 := Lib.hid (show ∀ k, F2 k → w.heap.size ≤ k from fun k hk => by
    rcases hst.grown k hk with h | h
    · exact HF.out k h
    · omega)
  have t2 : Turn (fun _ => False) w w2 := HT1.out.trans hst.turn (fun k hk e => by have := HF.out k e; omega)
  have HT2 := Lib.hid t2
  clear hj hst t2
  go_wp2_with fail
  refine (sopen_blank w2 w.heap.size F2 J D d2 L2 n P f ks HJ.out ha hP (HTB.out.turn0 HT2.out) h4 HB2.out (by omega) HT2.out.size).mono ?_
  rintro e w3 ⟨S, M, G, rfl, hs, hS, hG, t3⟩
  have HS := Lib.hid hs
  have HT3 := Lib.hid (HT2.out.trans t3 (fun _ _ => id))
  clear hs hG t3
  go_wp2_with fail
  have hr : Tryz.f9.results = #[.tmp 2, .tmp 3, .tmp 4] := by kernel_rfl
  refine bodyPost_ret (v := .tuple #[.pointer (some ⟨D, 0, none⟩), .pointer (some ⟨S, 0, none⟩), .bool true]) (by simp [results, hr]) rfl ?_
  exact ⟨D, S, J, M, F2, G, d2, L2, rfl, HS.out, HT3.out⟩
end Go.Proofs.YtboofamenpcnhaaGreatDoor
namespace Go.Proofs.YtboofamenpcnhaaGreatDoor
set_option maxRecDepth 100000
open Go.RowKit Go.Shelf
set_option linter.unusedVariables false
set_option linter.unusedSimpArgs false
theorem list_load {P : Program} {ops : Array Oper} {Q : Exit → Act → World → Prop} {rest : List Oper} {o : Oper} {a : Act} {w : World} (hw : Region.wanted o (yielded ops a.tmps) = true) (ty : TypeId) (x : Operand) (ho : o.op = .load ty x)
    (b q : Nat) (hx : a.eval x = .pointer (some ⟨b, q, none⟩)) (cs : List Value) (d : TypeDesc) (hc : w.rangeAt b q cs) (hu : P.underlying ty = some d) (hd : d.isRow = true) (hi : (P.info? ty).map (·.size) = some cs.length)
    (h : wpList P ops Q rest (a.put o.dst (.agg cs.toArray)) w) : wpList P ops Q (o :: rest) a w :=
  BigFrame.wpList_want hw fun K hK => wp_load_mid ty x ho b q hx cs d hc hu hd hi (hK _ _ h)
theorem bl_get (k : Nat) : bl.getD k ob0 = ob0 := by
  unfold bl
  rw [List.getD_eq_getElem?_getD, List.getElem?_replicate]
  split <;> rfl
theorem bl_set (ob : Ob) (k : Nat) : (bl.set 0 ob).getD k ob0 = if k = 0 then ob else ob0 := by
  rw [List.getD_eq_getElem?_getD, List.getElem?_set]
  by_cases h : k = 0
  · subst h; simp [bl]
  · rw [if_neg (by omega), if_neg h, ← List.getD_eq_getElem?_getD, bl_get]
theorem nOb_one (ob : Ob) (hs : 0 < ob.size) (hg : SGood (bl.set 0 ob)) : nOb (bl.set 0 ob) hg = 1 := by
  have : ∀ k, k < 48 → (objsTo (bl.set 0 ob) hg (k + 1)).length = 1 := by
    intro k
    induction k with
    | zero =>
      intro _
      unfold objsTo
      rw [dif_pos ⟨by omega, by rw [bl_set, if_pos rfl]; exact hs⟩]
      rfl
    | succ k ih =>
      intro hk
      unfold objsTo
      rw [dif_neg (fun h => by have := h.2; rw [bl_set, if_neg (by omega)] at this; exact absurd this (by decide))]
      exact ih (by omega)
  exact this 47 (by omega)
theorem bl_hasnt (key : List Int) : ¬ HasP bl key := fun ⟨k, h1, h2, h3⟩ => by rw [bl_get] at h2; exact absurd h2 (by decide)
theorem bl_has (ob : Ob) (hs : 0 < ob.size) : HasP (bl.set 0 ob) ob.key := ⟨0, by omega, by rw [bl_set, if_pos rfl]; exact hs, by rw [bl_set, if_pos rfl]⟩
theorem least_free {P N : Nat} (hN : N ≤ P) : ∀ o, Least (fun _ => false) P N o → o = some 0
  | none, h => absurd ⟨by omega, fun _ _ => rfl⟩ (h 0)
  | some 0, _ => rfl
  | some (q + 1), h => absurd ⟨by omega, fun _ _ => rfl⟩ (h.2 0 (by omega))
/-- The first object of a fresh shelf. -/
theorem put_first (w : World) (B : Nat) (F G : Nat → Prop) (S J M D : Nat) (d : DiskM) (L : Nat) (C : List (List Int)) (n P : Nat) (f : Eight) (ks : List Int) (h : SH w B F G S J M D d L C (n + 200) P (fun _ => false) bl f ks)
    (ps : List Int) (Z : Nat) (hZ : ps.length = Z) (hL0 : 0 < Z) (hL : Z ≤ 900) (hfit : secN Z ≤ P) (hbo : BytesOk ps) (g o c : Nat) (hc : Z ≤ c) (hc9 : c ≤ 9223372036854775807)
    (hcell : ∀ i, i < ps.length → w.cell? ⟨g, o + i, none⟩ = some (.int .u8 (ps.getD i 0))) (hg : ¬ Mn F G J S g) :
    Calls Tryz.prog 12 #[.pointer (some ⟨S, 0, none⟩), .slice (some ⟨g, o, none⟩) Z c] w fun e w' => e = .returned (.tuple #[.agg (keyV (keyB (shaE f ks ps) 8)).toArray, .int .i64 0]) ∧
      ∃ F' G' d' L', SH w' B F' G' S J M D d' L' (putM C (objP (obOf f ks ps 0) 0 ps)) n P (fun p => inR (0, secN Z) p) (bl.set 0 (obOf f ks ps 0)) f ks ∧ Step w (Mn F G J S) w' (Mn F' G' J S) := by
  refine (sput_any w B F G S J M D d L C n P _ bl f ks h ps Z hZ hL0 hL hbo g o c hc hc9 hcell hg).mono ?_
  rintro e w' (⟨h1, _⟩ | ⟨_, h2, _⟩ | ⟨_, slot, a, h1, h2, h3, h4, rfl, F', G', d', L', hs, hst⟩)
  · exact absurd h1 (bl_hasnt _)
  · rcases h2 with h2 | h2
    · exact absurd (bl_get 0) (h2 0 (by omega))
    · rw [hZ] at h2; have := least_free hfit _ h2; cases this
  · have hs0 : slot = 0 := by
      rcases Nat.eq_zero_or_pos slot with h | h
      · exact h
      · exact absurd (bl_get 0) (h3 0 h)
    rw [hZ] at h4 hs
    have ha := least_free hfit _ h4
    cases ha
    subst hs0
    refine ⟨rfl, F', G', d', L', ?_, hst⟩
    have e1 : (fun p => (fun _ => false) p || inR (0, 0 + secN Z) p) = (fun p => inR (0, secN Z) p) := by funext p; simp
    rw [e1] at hs
    exact hs
/-- An object that is there. -/
theorem put_again (w : World) (B : Nat) (F G : Nat → Prop) (S J M D : Nat) (d : DiskM) (L : Nat) (C : List (List Int)) (n P : Nat) (U : Nat → Bool) (sl : List Ob) (f : Eight) (ks : List Int) (h : SH w B F G S J M D d L C (n + 200) P U sl f ks)
    (ps : List Int) (Z : Nat) (hZ : ps.length = Z) (hL0 : 0 < Z) (hL : Z ≤ 900) (hhas : HasP sl (keyB (shaE f ks ps) 8)) (hbo : BytesOk ps) (g o c : Nat) (hc : Z ≤ c) (hc9 : c ≤ 9223372036854775807)
    (hcell : ∀ i, i < ps.length → w.cell? ⟨g, o + i, none⟩ = some (.int .u8 (ps.getD i 0))) (hg : ¬ Mn F G J S g) :
    Calls Tryz.prog 12 #[.pointer (some ⟨S, 0, none⟩), .slice (some ⟨g, o, none⟩) Z c] w fun e w' => e = .returned (.tuple #[.agg (keyV (keyB (shaE f ks ps) 8)).toArray, .int .i64 0]) ∧ Turn (fun _ => False) w w' := by
  refine (sput_any w B F G S J M D d L C n P U sl f ks h ps Z hZ hL0 hL hbo g o c hc hc9 hcell hg).mono ?_
  rintro e w' (⟨_, rfl, t⟩ | ⟨h1, _⟩ | ⟨h1, _⟩)
  · exact ⟨rfl, t⟩
  · exact absurd hhas h1
  · exact absurd hhas h1
theorem conv_one (w : World) : (convert 29 29 (.slice (some ⟨w.heap.size, 0, none⟩) 1 1)).run Tryz.prog (w.alloc (.cells #[.int .u8 97] 5)) = .ok (.slice (some ⟨w.heap.size, 0, none⟩) 1 1) (w.alloc (.cells #[.int .u8 97] 5 (1, 2))) := Lib.run_convert_bytes_const w 29 5 _ 1 1 Tryz.underlying29 Tryz.underlying5
theorem mk_a (w : World) : (w.alloc (.cells #[.int .u8 97] 5 (1, 2))).cell? ⟨w.heap.size, 0, none⟩ = some (.int .u8 97) ∧ Turn (fun _ => False) w (w.alloc (.cells #[.int .u8 97] 5 (1, 2))) := ⟨cell_of_row _ _ 0 _ 5 (1, 2) (heap_alloc_new w _), (Turn.refl _ w).alloc _⟩
theorem a_ok : BytesOk [97] := fun x hx => by simp at hx; omega
set_option maxHeartbeats 4000000 in
theorem sawake_any (w : World) (f : Eight) (ks : List Int) (tb : Tb w f ks) : Calls Tryz.prog 8 #[] w fun e w' => e = .returned (.bool true) ∧ Turn (fun _ => False) w w' := by
  have hz := zero32
  have HTB := Lib.hid tb
  obtain ⟨key, hkey⟩ : ∃ key, keyB (shaE f ks [97]) 8 = key := ⟨_, rfl⟩
  have hkl : key.length = 32 := by rw [← hkey]; exact keyB_len _ 8
  have HKEY := Lib.hid hkey
  clear tb hkey
  have hfr := fresh_any w 5 400 f ks HTB.out (by omega) (by omega)
  have HFR := Lib.hid hfr
  clear hfr
  go_enter Tryz.func8, Tryz.ntmps8
  go_wp2_with fail
  refine HFR.out.mono ?_
  rintro e w1 ⟨D, S, J, M, F, G, d, L, rfl, hs, t1⟩
  have HS1 := Lib.hid hs
  have HT1 := Lib.hid t1
  clear hs t1
  have hb2 := mk_a w1
  have hcv2 := conv_one w1
  obtain ⟨w2, hw2⟩ : ∃ w2, w1.alloc (.cells #[.int .u8 97] 5 (1, 2)) = w2 := ⟨_, rfl⟩
  rw [hw2] at hb2 hcv2
  have HB2 := Lib.hid hb2
  clear hb2 hw2
  go_wp2_with fail
  refine (put_first w2 w.heap.size F G S J M D d L (blank 5) 200 5 f ks (HS1.out.turn0 HB2.out.2) [97] 1 rfl (by omega) (by omega) (by decide) a_ok w1.heap.size 0 1 (by omega) (by omega)
    (fun i hi => by have : i = 0 := by simp at hi; omega
                    subst this; exact HB2.out.1) (fun hm => by have := HS1.out.lt _ hm; omega)).mono ?_
  rintro e w3 ⟨rfl, F3, G3, d3, L3, hs3, hst3⟩
  rw [HKEY.out]
  have HS3 := Lib.hid hs3
  have HT3 := Lib.hid (show Turn (fun _ => False) w w3 from (HT1.out.trans HB2.out.2 (fun _ _ => id)).trans hst3.turn (fun k hk e => by have := HS1.out.bM k e; omega))
  clear hs3 hst3
  go_wp2_with (with_reducible (show wpList _ _ _ (Oper.mk none (.store 32 (.tmp 4) (.tmp 22)) _ _ _ _ :: _) _ _); refine still ?_)
  refine list_box w3 32 z32 (keyV key) (by simp [keyV, hkl, z32]) (fun v hv => by obtain ⟨x, _, rfl⟩ := List.mem_map.1 hv; rfl) (info32k hkl) rfl (.tmp 4) (.tmp 22) rfl rfl rfl ?_
  intro w4 hB4
  have HB4 := Lib.hid hB4
  obtain ⟨B4, hB4'⟩ : ∃ B4, w3.heap.size = B4 := ⟨_, rfl⟩
  have HE4 := Lib.hid hB4'
  rw [hB4']
  clear hB4 hB4'
  clear hcv2
  have hb5 := mk_a w4
  have hcv5 := conv_one w4
  obtain ⟨w5, hw5⟩ : ∃ w5, w4.alloc (.cells #[.int .u8 97] 5 (1, 2)) = w5 := ⟨_, rfl⟩
  rw [hw5] at hb5 hcv5
  have HB5 := Lib.hid hb5
  clear hb5 hw5
  have hs4 : w3.heap.size ≤ w4.heap.size := HB4.out.turn.size
  have hob : (obOf f ks [97] 0).key = key := HKEY.out
  go_wp2_with fail
  refine (put_again w5 w.heap.size F3 G3 S J M D d3 L3 _ 0 5 _ _ f ks ((HS3.out.turn0 HB4.out.turn).turn0 HB5.out.2) [97] 1 rfl (by omega) (by omega) (bl_has (obOf f ks [97] 0) (by show (0 : Int) < 1; omega)) a_ok w4.heap.size 0 1 (by omega) (by omega)
    (fun i hi => by have : i = 0 := by simp at hi; omega
                    subst this; exact HB5.out.1) (fun hm => by have := HS3.out.lt _ hm; omega)).mono ?_
  rintro e w6 ⟨rfl, t6⟩
  rw [HKEY.out]
  have HT6 := Lib.hid t6
  clear t6
  go_wp2_with (with_reducible (show wpList _ _ _ (Oper.mk none (.store 32 (.tmp 6) (.tmp 29)) _ _ _ _ :: _) _ _); refine still ?_)
  refine list_box w6 32 z32 (keyV key) (by simp [keyV, hkl, z32]) (fun v hv => by obtain ⟨x, _, rfl⟩ := List.mem_map.1 hv; rfl) (info32k hkl) rfl (.tmp 6) (.tmp 29) rfl rfl rfl ?_
  intro w7 hB7
  have HB7 := Lib.hid hB7
  have hr7 := hB7.range
  obtain ⟨B7, hB7'⟩ : ∃ B7, w6.heap.size = B7 := ⟨_, rfl⟩
  rw [hB7'] at hr7 ⊢
  have HR7 := Lib.hid hr7
  have ht47 : Turn (fun _ => False) w4 w7 := (HB5.out.2.trans HT6.out (fun _ _ => id)).trans hB7.turn (fun _ _ => id)
  have HT47 := Lib.hid ht47
  have hS7 := (HS3.out.turn0 HB4.out.turn).turn0 ht47
  have hle := sleft_any w7 S J M 5 G3 (fun p => inR (0, secN 1) p) _ hS7.sh hS7.mu (by omega)
  rw [nOb_one _ (by show (0 : Int) < 1; omega)] at hle
  have HLE := Lib.hid hle
  clear hB7 hr7 ht47 hS7 hle hB7'
  go_wp2_with fail
  refine HLE.out.mono ?_
  rintro e w8 ⟨rfl, t8⟩
  have hr48 : w8.rangeAt B4 0 (keyV key) := by have h0 := HB4.out.range; rw [HE4.out] at h0; exact rangeAt_turn (rangeAt_turn h0 HT47.out id) t8 id
  have hr78 : w8.rangeAt B7 0 (keyV key) := rangeAt_turn HR7.out t8 id
  have HT8 := Lib.hid ((HT3.out.trans (HB4.out.turn.trans HT47.out (fun _ _ => id)) (fun _ _ => id)).trans t8 (fun _ _ => id))
  have heq : (Op.equalIn 10000 32 (.agg (keyV key).toArray) (.agg (keyV key).toArray)).run Tryz.prog w8 = .ok (key == key) w8 := equalIn_bytes 32 32 9998 Tryz.underlying32 key key hkl hkl w8
  rw [show (key == key) = true by simp] at heq
  rw [show (48 - ((1 : Nat) : Int)) = 47 by rfl, show ((cnt (fun p => !inR (0, secN 1) p) 5 : Nat) : Int) = 4 by decide]
  clear t8 HLE
  go_wp2_with (with_reducible (show wpList _ _ _ (Oper.mk (some 43) (.load 32 (.tmp 4)) _ _ _ _ :: _) _ _); refine still ?_)
  refine list_load rfl 32 (.tmp 4) rfl B4 0 rfl (keyV key) _ hr48 Tryz.underlying32 rfl (info32k hkl) ?_
  go_wp2_with (with_reducible (show wpList _ _ _ (Oper.mk (some 44) (.load 32 (.tmp 6)) _ _ _ _ :: _) _ _); refine still ?_)
  refine list_load rfl 32 (.tmp 6) rfl B7 0 rfl (keyV key) _ hr78 Tryz.underlying32 rfl (info32k hkl) ?_
  go_wp2_with fail
  go_ret
  exact ⟨rfl, HT8.out⟩
end Go.Proofs.YtboofamenpcnhaaGreatDoor
namespace Go.Proofs.YtboofamenpcnhaaGreatDoor
set_option maxRecDepth 100000
open Go.RowKit Go.Shelf
set_option linter.unusedVariables false
set_option linter.unusedSimpArgs false
attribute [local go_sem] Oper.semAt_some
structure FZ (w W : World) (key : List Int) : Prop where
  r1 : W.heap[w.heap.size + 1]? = some (.cells #[.int .i64 0] 3 (0, 0))
  r2 : W.heap[w.heap.size + 1 + 1]? = some (.cells z62.toArray 62 (0, 0))
  r3 : W.heap[w.heap.size + 1 + 1 + 1]? = some (.cells #[.bool false] 4 (0, 0))
  r4 : W.cell? ⟨w.heap.size + 1 + 1 + 1 + 1, 0, none⟩ = some (.pointer none)
  size : W.heap.size = w.heap.size + 1 + 1 + 1 + 1 + 1
  turn : Turn (fun _ => False) w W
end Go.Proofs.YtboofamenpcnhaaGreatDoor
namespace Go.Proofs.YtboofamenpcnhaaGreatDoor
set_option maxRecDepth 100000
open Go.RowKit Go.Shelf
set_option linter.unusedVariables false
set_option linter.unusedSimpArgs false
attribute [local go_sem] Oper.semAt_some
set_option maxHeartbeats 1600000 in
theorem len64_zero (w : World) : Calls Tryz.prog 96 #[.int .u64 0] w fun e w' => e = .returned (.int .i64 0) ∧ w' = w := by
  go_enter Tryz.func96, Tryz.ntmps96
  go_wp2_with fail
  go_ret
  exact ⟨by kernel_rfl, rfl⟩
theorem len_zero (w : World) : Calls Tryz.prog 67 #[.int .u64 0] w fun e w' => e = .returned (.int .i64 0) ∧ w' = w := by
  go_enter Tryz.func67, Tryz.ntmps67
  go_wp2_with fail
  refine (len64_zero w).mono ?_
  rintro e w1 ⟨rfl, rfl⟩
  go_wp2_with fail
  go_ret
  exact ⟨rfl, rfl⟩
theorem ins_nil (c : Value) (w : World) : Calls Tryz.prog 87 #[.slice none 0 0, .int .i64 0, .int .i64 0, c] w fun e w' => (∃ v, e = .returned v) ∧ w' = w := by
  go_enter Tryz.func87, Tryz.ntmps87
  go_wp2_with fail
  refine wp_loop_once ?_
  go_wp2_with fail
  go_end0
  exact ⟨⟨_, rfl⟩, rfl⟩
set_option maxHeartbeats 1600000 in
theorem pdq_nil (c : Value) (w : World) : Calls Tryz.prog 66 #[.slice none 0 0, .int .i64 0, .int .i64 0, .int .i64 0, c] w fun e w' => (∃ v, e = .returned v) ∧ w' = w := by
  go_enter Tryz.func66, Tryz.ntmps66
  go_wp2_with fail
  refine wp_loop_once ?_
  go_wp2_with fail
  refine (ins_nil c w).mono ?_
  rintro e w1 ⟨⟨v, rfl⟩, h9⟩
  rw [h9]
  go_wp2_with fail
  refine bodyPost_ret (results_none rfl _ _ _) rfl ?_
  exact ⟨⟨_, rfl⟩, rfl⟩
theorem sort_nil (c : Value) (w : World) : Calls Tryz.prog 34 #[.slice none 0 0, c] w fun e w' => (∃ v, e = .returned v) ∧ w' = w := by
  go_enter Tryz.func34, Tryz.ntmps34
  go_wp2_with fail
  refine (len_zero w).mono ?_
  rintro e w1 ⟨rfl, h9⟩
  rw [h9]
  clear h9 w1
  go_wp2_with fail
  refine (pdq_nil c w).mono ?_
  rintro e w1 ⟨⟨v, rfl⟩, h9⟩
  rw [h9]
  clear h9 w1
  go_wp2_with fail
  go_end0
  exact ⟨⟨_, rfl⟩, rfl⟩
end Go.Proofs.YtboofamenpcnhaaGreatDoor
