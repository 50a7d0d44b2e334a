/- A zero value of the store's type: 32768 zero bytes, a zero size, 512 zero bytes, false. -/
import Derived.Test.YthjpghnmnbhaiaaChecked
import Derived.Great.BuildSlice
namespace Go.Proofs.Ythjpghnmnbhaiaa
open Go

def zbyte : Value → Bool
  | .int .u8 z => Int.decEq z 0 |>.decide
  | _ => false

noncomputable def zed : List Value := ((((Try.prog.info? 53).bind (·.zero)).map (·.cells)).getD #[]).toList
theorem zed_len : zed.length = 33282 := by kernel_rfl
theorem zed_all : (zed.take 32768).all zbyte = true := by kernel_rfl
end Go.Proofs.Ythjpghnmnbhaiaa
