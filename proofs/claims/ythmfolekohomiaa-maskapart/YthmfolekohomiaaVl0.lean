/-
  Chapter 5: the contracts of package vec that the statements want (each is proved over the landed code); awake.
-/
import Derived.Test.YthmfolekohomiaaVPure
import Derived.Test.YthmfolekohomiaaArgsU
namespace Go.Proofs.Ythmfolekohomiaa
open Go.RowKit

/-- A function of two vectors. -/
def Op2OK (f : FuncId) (g : List Nat → List Nat → Nat → Bool) : Prop := ∀ (A B : Option Addr) (n m c d : Nat) (x y : List Nat) (w : World), x.length = n → y.length = m → n ≤ 16384 → m ≤ 16384 → n ≤ c → c ≤ maxLen → m ≤ d → d ≤ maxLen → Row w A (uv x) → Row w B (uv y) → Wd x → Wd y →
  Calls Try.prog f #[.slice A n c, .slice B m d] w (MadeV (max n m) (g x y) w)
/-- A function of a vector and a width. -/
def Op1OK (f : FuncId) (g : List Nat → Nat → Bool) : Prop := ∀ (A : Option Addr) (m c : Nat) (x : List Nat) (n : Int) (w : World), x.length = m → m ≤ 16384 → m ≤ c → c ≤ maxLen → I64 n → Row w A (uv x) → Wd x →
  Calls Try.prog f #[.slice A m c, .int .i64 n] w (MadeV (wds n) (fun j => decide (j < wid n) && g x j) w)
def OnesOK : Prop := ∀ (n : Int) (w : World), I64 n → Calls Try.prog 22 #[.int .i64 n] w (MadeV (wds n) (fun j => decide (j < wid n) && true) w)
def WordsOK : Prop := ∀ (n : Int) (w : World), I64 n → Calls Try.prog 19 #[.int .i64 n] w fun e w' => e = .returned (.int .i64 (wds n : Nat)) ∧ Below w.heap.size w w'
def CountOK : Prop := ∀ (A : Option Addr) (m c : Nat) (x : List Nat) (n : Int) (w : World), x.length = m → m ≤ 16384 → m ≤ c → c ≤ maxLen → I64 n → Row w A (uv x) → Wd x → Calls Try.prog 20 #[.slice A m c, .int .i64 n] w fun e w' => e = .returned (.int .i64 (cnt (bt x) (wid n) : Nat)) ∧ Below w.heap.size w w'
/-- Two vectors with the same bits are the same. -/
theorem made_same {W : Nat} {b b' : Nat → Bool} {x y : List Nat} (hx : x.length = W) (hy : y.length = W) (wx : Wd x) (wy : Wd y) (bx : ∀ j, bt x j = (decide (j < 64 * W) && b j)) (by' : ∀ j, bt y j = (decide (j < 64 * W) && b' j)) (h : ∀ j, j < 64 * W → b j = b' j) : x = y :=
  words_eq (by omega) wx wy fun j => by
    rw [bx, by']
    by_cases hj : j < 64 * W
    · rw [h j hj]
    · rw [decide_eq_false hj, Bool.false_and, Bool.false_and]
/-- A vector whose words are told. -/
theorem made_is {W : Nat} {b : Nat → Bool} {x : List Nat} (y : List Nat) (hx : x.length = W) (wx : Wd x) (bx : ∀ j, bt x j = (decide (j < 64 * W) && b j)) (hy : y.length = W) (wy : Wd y) (h : ∀ j, j < 64 * W → b j = bt y j) : x = y :=
  made_same hx hy wx wy bx (b' := bt y) (fun j => by
    by_cases hj : j < 64 * W
    · rw [decide_eq_true hj, Bool.true_and]
    · rw [decide_eq_false hj, Bool.false_and, bt_out (by omega)]) h

end Go.Proofs.Ythmfolekohomiaa
