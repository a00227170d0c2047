/- Own lemmas: what put does is what a transaction leaves. No statement is proved here. -/
import Derived.Test.YtakmkkgpkbpbkaaPut
open Go
namespace Go.Proofs.Ytakmkkgpkbpbkaa
theorem putR_at (ms : List (List Int)) (l : List (Int × List Int)) (hf : fitsB ms.length l = true) (k : Nat) (hk : k < ms.length) (j : Nat) (hj : j ≤ l.length) :
    (putR ms l j).getD k [] = (lastW (layW (l.take j)) (49 + k)).getD (ms.getD k []) := by
  induction j with
  | zero => simp [putR, layW, lastW]
  | succ j ih =>
    have hjl : j < l.length := by omega
    have hx := fits_all hf l[j] (List.getElem_mem hjl)
    have hg : l.getD j (0, []) = l[j] := by simp [List.getD, hjl]
    have ht : l.take (j + 1) = l.take j ++ [l[j]] := (List.take_append_getElem hjl).symm
    have hlay : layW (l.take (j + 1)) = layW (l.take j) ++ [((49 + l[j].1).toNat, pad64 l[j].2)] := by rw [ht]; simp only [layW, List.map_append, List.map_cons, List.map_nil]
    have ih' := ih (by omega)
    have hpl := putR_len ms l j
    rw [show putR ms l (j + 1) = (putR ms l j).set (l.getD j (0, [])).1.toNat (pad64 (l.getD j (0, [])).2) from rfl, hg, hlay, lastW_app]
    generalize l[j] = x at hx ⊢
    by_cases e : x.1.toNat = k
    · have e2 : (49 + x.1).toNat = 49 + k := by omega
      subst e
      simp [lastW, e2, List.getD, show x.1.toNat < (putR ms l j).length by omega]
    · have e2 : ¬ (49 + x.1).toNat = 49 + k := by omega
      have e3 : ((putR ms l j).set x.1.toNat (pad64 x.2)).getD k [] = (putR ms l j).getD k [] := by simp [List.getD, List.getElem?_set_ne e]
      rw [e3, ih']
      simp [lastW, e2]
theorem putR_putM (ms : List (List Int)) (l : List (Int × List Int)) (hf : fitsB ms.length l = true) : putR ms l l.length = putM ms l := by
  refine List.ext_getElem (by rw [putR_len, putM_len]) (fun k h1 h2 => ?_)
  have hk : k < ms.length := by rw [putR_len] at h1; exact h1
  have a := putR_at ms l hf k hk l.length (Nat.le_refl _)
  have b := putM_at ms l k hk
  rw [List.take_length] at a
  have a1 : (putR ms l l.length).getD k [] = (putR ms l l.length)[k] := by simp [List.getD, h1]
  have b1 : (putM ms l).getD k [] = (putM ms l)[k] := by simp [List.getD, h2]
  rw [← a1, ← b1, a, b]
end Go.Proofs.Ytakmkkgpkbpbkaa
