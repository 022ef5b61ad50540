/-
  Plain facts on how messages are shown: the envelope, the structure, the preview, the subject, the sections. No program in this text. Conditions: none.
-/
import Derived.Test.YtnnbbjdidbggmaaGreatDoorPtPlain
import Derived.Test.YtnnbbjdidbggmaaGreatDoorAdPlain
import Derived.Test.YtnnbbjdidbggmaaGreatDoorWdPlain
import Derived.Test.YtnnbbjdidbggmaaGreatDoorTxPlain
import Derived.Test.YtnnbbjdidbggmaaGreatDoorU8Plain
namespace Go.Proofs.YtnnbbjdidbggmaaGreatDoor.Lk
open Go F0 Pt

def nilT : List UInt8 := [78, 73, 76]
def dateN : List UInt8 := [68, 97, 116, 101]
def subjN : List UInt8 := [83, 117, 98, 106, 101, 99, 116]
def fromN : List UInt8 := [70, 114, 111, 109]
def sendN : List UInt8 := [83, 101, 110, 100, 101, 114]
def replN : List UInt8 := [82, 101, 112, 108, 121, 45, 84, 111]
def toN : List UInt8 := [84, 111]
def ccN : List UInt8 := [67, 99]
def bccN : List UInt8 := [66, 99, 99]
def inreN : List UInt8 := [73, 110, 45, 82, 101, 112, 108, 121, 45, 84, 111]
def msgN : List UInt8 := [77, 101, 115, 115, 97, 103, 101, 45, 73, 100]
/-- A header's text. -/
def nstrL (fs : List Fl) (n : List UInt8) : List UInt8 := match fstL fs n with
  | none => nilT
  | some f => Tx.strL f.2
def addrsL (fs : List Fl) (n : List UInt8) : List Ad.Ad3 := Ad.docA (fvL fs n)
def oneAdL (a : Ad.Ad3) : List UInt8 := [40] ++ (if a.1 = [] then nilT else Tx.strL a.1) ++ [32] ++ nilT ++ [32] ++ Tx.strL a.2.1 ++ [32] ++ Tx.strL a.2.2 ++ [41]
def adL (l : List Ad.Ad3) : List UInt8 := if l = [] then nilT else [40] ++ l.flatMap oneAdL ++ [41]
def orFrom (fs : List Fl) (n : List UInt8) : List Ad.Ad3 := if addrsL fs n = [] then addrsL fs fromN else addrsL fs n
def envF (fs : List Fl) : List UInt8 :=
  [40] ++ nstrL fs dateN ++ [32] ++ nstrL fs subjN ++ [32] ++ adL (addrsL fs fromN) ++ [32] ++ adL (orFrom fs sendN) ++ [32] ++ adL (orFrom fs replN) ++ [32] ++ adL (addrsL fs toN) ++ [32] ++ adL (addrsL fs ccN) ++ [32] ++ adL (addrsL fs bccN)
    ++ [32] ++ nstrL fs inreN ++ [32] ++ nstrL fs msgN ++ [41]
def envL (s : List UInt8) : List UInt8 := envF (headL s 0 s.length).1
def readL8 (l : List UInt8) : List UInt8 := if U8.validL l then l else Wd.latinL l
def subjL (s : List UInt8) : List UInt8 := readL8 (Wd.decW true (fvL (headL s 0 s.length).1 subjN))
/-- The document's example. -/
def wakeS : List UInt8 := [83, 117, 98, 106, 101, 99, 116, 58, 32, 61, 63, 117, 116, 102, 45, 56, 63, 81, 63, 97, 63, 61, 10, 10]
def wakeE : List UInt8 := [40, 78, 73, 76, 32, 78, 73, 76, 32, 78, 73, 76, 32, 78, 73, 76, 32, 78, 73, 76, 32, 78, 73, 76, 32, 78, 73, 76, 32, 78, 73, 76, 32, 78, 73, 76, 32, 78, 73, 76, 41]
theorem wake_env : envL [] = wakeE := by decide +kernel
theorem wake_subj : subjL wakeS = [97] := by decide +kernel
end Go.Proofs.YtnnbbjdidbggmaaGreatDoor.Lk
