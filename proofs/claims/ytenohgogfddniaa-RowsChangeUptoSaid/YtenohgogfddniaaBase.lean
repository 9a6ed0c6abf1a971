/-
  What a disk of package sector holds as data ('Dk', 'IsDk').
-/
import Derived.Test.YtenohgogfddniaaCore
namespace Go.Proofs.Ytenohgogfddniaa
open Go.RowKit
set_option linter.unusedVariables false

/-- 1024 zero bytes. -/
def zer : ByteArray := ⟨(Lib.repeatL [0] 1024).toArray⟩
/-- What a disk of package sector holds. -/
structure Dk where
  secs : List ByteArray
  done : Int
  reach : Int
  left : Int
  power : Int
  once : Int
  mu : Int
  zeros : ByteArray

def Dk.cells (S : Dk) (bs : Nat) : Array Value :=
  #[.slice (some ⟨bs, 0, none⟩) S.secs.length S.secs.length, .int .i64 S.done, .int .i64 S.reach, .int .i64 S.left, .int .i64 S.power, .int .u32 S.once, .int .i32 S.mu, .int .u32 0, .string S.zeros]

end Go.Proofs.Ytenohgogfddniaa
