/-
  stamp.Good and stamp.Same at any operations.
-/
import Derived.Test.YtoaboehmjfnceaaGoodOver
import Derived.Test.YtoaboehmjfnceaaGoodEdit
import Derived.Test.YtoaboehmjfnceaaNameAny
import Derived.Test.YtoaboehmjfnceaaGood
namespace Go.Proofs.Ytoaboehmjfnceaa
open Go.RowKit

/-- Is an operation right? -/
def goodOpB (k t r nt nr pt pr : Int) (s : ByteArray) (d : List UInt8) (ss : List (Int × Int)) : Bool :=
  goodV k t r nt nr (moveB t r nt nr pt pr (nameV s (badB s)) d ss.length) (editB t r nt nr pt pr s d (overB t r ss))

theorem goodop_any (k t r nt nr pt pr : Int) (s : ByteArray) (d : List UInt8) (a : Option Addr) (ss : List (Int × Int)) (c : Nat) (w : World) (hd : d.length = 32) (hm : s.size ≤ maxLen) (ha : StampsAt w a ss) (hl : ss.length ≤ 4611686018427387903) :
    Calls Try.prog 18 #[.agg (opCells k t r nt nr pt pr s d (.slice a ss.length c))] w fun e w' => e = .returned (.bool (goodOpB k t r nt nr pt pr s d ss)) ∧ Below w.heap.size w w' :=
  good_of k t r nt nr pt pr s d (.slice a ss.length c) _ _ w hd
    (fun _ W => goodMove_any k t r nt nr pt pr s d a ss.length c (nameV s (badB s)) W hd fun W' => name_any s W' hm)
    (fun _ W h => goodEdit_of k t r nt nr pt pr s d (.slice a ss.length c) (overB t r ss) W hd fun W' h' => goodOver_any a ss c t r W' ((ha.later h).later h') hl)

/-- Are two operations the same? -/
def sameOpB (k t r nt nr pt pr : Int) (s : ByteArray) (d : List UInt8) (ss : List (Int × Int)) (k' t' r' nt' nr' pt' pr' : Int) (s' : ByteArray) (d' : List UInt8) (ss' : List (Int × Int)) : Bool :=
  sameV k t r nt nr pt pr s d k' t' r' nt' nr' pt' pr' s' d' (decide (ss = ss'))
theorem sameop_any (k t r nt nr pt pr : Int) (s : ByteArray) (d : List UInt8) (a : Option Addr) (ss : List (Int × Int)) (c : Nat) (k' t' r' nt' nr' pt' pr' : Int) (s' : ByteArray) (d' : List UInt8) (a' : Option Addr) (ss' : List (Int × Int)) (c' : Nat) (w : World)
    (hd : d.length = 32) (hd' : d'.length = 32) (ha : StampsAt w a ss) (ha' : StampsAt w a' ss') (hl : ss.length ≤ 4611686018427387903) :
    Calls Try.prog 20 #[.agg (opCells k t r nt nr pt pr s d (.slice a ss.length c)), .agg (opCells k' t' r' nt' nr' pt' pr' s' d' (.slice a' ss'.length c'))] w fun e w' => e = .returned (.bool (sameOpB k t r nt nr pt pr s d ss k' t' r' nt' nr' pt' pr' s' d' ss')) ∧ Below w.heap.size w w' :=
  same_of k t r nt nr pt pr s d (.slice a ss.length c) k' t' r' nt' nr' pt' pr' s' d' (.slice a' ss'.length c') (decide (ss = ss')) w hd hd'
    fun W h => equal_any a a' ss ss' c c' W (ha.later h) (ha'.later h) hl
theorem sameOpB_refl (k t r nt nr pt pr : Int) (s : ByteArray) (d : List UInt8) (ss : List (Int × Int)) : sameOpB k t r nt nr pt pr s d ss k t r nt nr pt pr s d ss = true := by
  unfold sameOpB sameV
  simp
end Go.Proofs.Ytoaboehmjfnceaa
