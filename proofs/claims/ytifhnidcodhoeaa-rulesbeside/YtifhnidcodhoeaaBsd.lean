/- Own contracts: beside: the law. No statement is proved here. -/
import Derived.Test.YtifhnidcodhoeaaBsa
import Derived.Test.YtifhnidcodhoeaaBsb
import Derived.Test.YtifhnidcodhoeaaBsc
namespace Go.Proofs.Ytifhnidcodhoeaa
set_option maxRecDepth 100000
open Go.RowKit
set_option linter.unusedVariables false
set_option linter.unusedSimpArgs false

theorem beside_law (w : World) (a b : ByteArray) (c : Bool) : Calls Try.prog 7 #[.string a, .string b, .bool c] w fun e w' => e = .returned (.bool true) ∧ Turn (fun _ => False) w w' := by
  by_cases hbig : 12 < a.size ∨ 12 < b.size
  · exact bes_big w a b c hbig
  have ha : a.size ≤ 12 := by omega
  have hb : b.size ≤ 12 := by omega
  cases hA : a.toList.isEmpty
  · cases hB : b.toList.isEmpty
    · cases hE : a.toList == b.toList
      · cases c
        · exact bes_ffff w a b ha hb hA hB hE
        · exact bes_ffft w a b ha hb hA hB hE
      · cases c
        · exact bes_fftf w a b ha hb hA hB hE
        · exact bes_fftt w a b ha hb hA hB hE
    · cases c
      · exact bes_ftff w a b ha hb hA hB
      · exact bes_ftft w a b ha hb hA hB
  · cases c
    · exact bes_tfff w a b ha hb hA
    · exact bes_tfft w a b ha hb hA

end Go.Proofs.Ytifhnidcodhoeaa
