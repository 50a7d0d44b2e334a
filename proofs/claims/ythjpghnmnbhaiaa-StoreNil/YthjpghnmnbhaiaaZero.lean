/- A zero value of the store's type: 32768 zero bytes, a zero size, 512 zero bytes, false. -/
import Derived.Test.YthjpghnmnbhaiaaChecked
import Derived.Great.BuildSlice
namespace Go.Proofs.Ythjpghnmnbhaiaa
open Go

def zbyte : Value → Bool
  | .int .u8 z => Int.decEq z 0 |>.decide
  | _ => false

/-- What the zero value's cells are. -/
structure IsZed (zs : List Value) : Prop where
  len : zs.length = 33282
  all : (zs.take 32768).all zbyte = true
  rom : ((zs.drop 32769).take 512).all zbyte = true
theorem zed_is : IsZed ((((Try.prog.info? 53).bind (·.zero)).map (·.cells)).getD #[]).toList := ⟨by kernel_rfl, by kernel_rfl, by kernel_rfl⟩
end Go.Proofs.Ythjpghnmnbhaiaa
