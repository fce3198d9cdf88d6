import Derived.Test.YtjaecokhocbdlaaBackSmall
import Derived.Test.YtjaecokhocbdlaaBackBig
namespace Go.Proofs.Ytjaecokhocbdlaa
open Go.RowKit

theorem bitsBack_ (a : Option Addr) (n c : Nat) (cut : Int) (X V : Nat → Int) (w : World) (hnc : n ≤ c) (hnm : c ≤ maxLen) (hs : IsNums w a n X V) :
    Calls Try.prog 5 #[.slice a n c, .int .i64 cut] w fun en w' => en = .returned (.bool true) ∧ Below w.heap.size w w' := by
  by_cases hn : n ≤ 200
  · exact bitsBackSmall_ a n c cut X V w hnc hnm hs hn
  · exact bitsBackBig_ a n c cut X V w hnc hnm hs hn
end Go.Proofs.Ytjaecokhocbdlaa
