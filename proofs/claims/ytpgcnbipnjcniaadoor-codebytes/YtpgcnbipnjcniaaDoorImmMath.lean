/- Numbers, words and carries of layer 2 as plain functions; a word is the word of one number at most. -/
import Derived.Test.YtpgcnbipnjcniaaDoorAluMath
import Derived.Laws.MathBits
set_option linter.unusedVariables false
namespace Go.Proofs.YtpgcnbipnjcniaaDoor.Imm
open Go.Proofs.YtpgcnbipnjcniaaDoor.Alu

def fac (u : Int) : Int := if u = 0 then 1 else if u = 1 then 65537 else if u = 2 then 16777472 else 16843009
def has (n : Int) : Bool := decide (n < 256) || decide (1024 ≤ n) || !decide (n % 256 = 0)
def wd (n : Int) : Int := if 1024 ≤ n then (128 + n % 128) * 2 ^ (32 - n / 128).toNat else n % 256 * fac (n / 256)
def er (n : Int) : Int := if n < 0 ∨ 4096 ≤ n then 11 else if has n then 0 else 20
def wdA (n : Int) : Int := if er n = 0 then wd n else 0
def cyA (n c : Int) : Int := if er n = 0 then (if 1024 ≤ n then wd n / 2147483648 else b01 c) else 0
def rep (x u : Int) : Bool := decide (x / fac u ≤ 255) && decide (x / fac u * fac u = x)
def orB (x : Int) : Bool := rep x 0 || rep x 1 || rep x 2 || rep x 3
def orN (x : Int) : Int := if rep x 0 then x / fac 0 else if rep x 1 then 256 + x / fac 1 else if rep x 2 then 512 + x / fac 2 else if rep x 3 then 768 + x / fac 3 else 0
def up (x : Int) : Nat := bitLen x.toNat - 8
def otB (x : Int) : Bool := decide (0 < up x) && decide (x / 2 ^ up x * 2 ^ up x = x)
def otN (x : Int) : Int := if otB x then (32 - up x) * 128 + x / 2 ^ up x % 128 else 0
def ofN (x : Int) : Int := if orB x then orN x else otN x
def ofE (x : Int) : Int := if orB x || otB x then 0 else 20

theorem back_fin : ∀ i : Fin 64, ∀ j : Fin 64, has ((i.val * 64 + j.val : Nat) : Int) = true → ofN (wd ((i.val * 64 + j.val : Nat) : Int)) = ((i.val * 64 + j.val : Nat) : Int) ∧ ofE (wd ((i.val * 64 + j.val : Nat) : Int)) = 0 := by
  decide +kernel

end Go.Proofs.YtpgcnbipnjcniaaDoor.Imm
