import Derived.Test.YthfofjkfbhahoaaGreatDoorProg
import Derived.WalkKit
import Derived.ProofKit
import Derived.OpenShut
import Derived.WalkLawsBesides
import Derived.Deep.Light
section
namespace Go.Proofs.YthfofjkfbhahoaaGreatDoor.Tab
def upperRow (op : Int) : Int × ByteArray × Int :=
  bif op == 1 then (op, ⟨#[116, 115, 114, 113, 112, 111, 110, 109, 108, 107, 106, 105, 104, 103, 102, 101, 100, 99, 98, 97, 68, 68, 68, 68, 68, 48, 49, 49, 48, 49, 49, 49]⟩, 1) else
  bif op == 2 then (op, ⟨#[116, 115, 114, 113, 112, 111, 110, 109, 108, 107, 106, 105, 104, 103, 102, 101, 100, 99, 98, 97, 68, 68, 68, 68, 68, 48, 48, 49, 48, 49, 49, 49]⟩, 1) else
  (0, ⟨#[]⟩, 0)
def jumpRow (op : Int) : Int × ByteArray × Int :=
  bif op == 3 then (op, ⟨#[117, 107, 106, 105, 104, 103, 102, 101, 100, 99, 98, 108, 116, 115, 114, 113, 112, 111, 110, 109, 68, 68, 68, 68, 68, 49, 49, 48, 49, 49, 49, 49]⟩, 1) else
  bif op == 4 then (op, ⟨#[108, 107, 106, 105, 104, 103, 102, 101, 100, 99, 98, 97, 83, 83, 83, 83, 83, 48, 48, 48, 68, 68, 68, 68, 68, 49, 49, 48, 48, 49, 49, 49]⟩, 1) else
  bif op == 5 then (op, ⟨#[109, 107, 106, 105, 104, 103, 102, 84, 84, 84, 84, 84, 83, 83, 83, 83, 83, 48, 48, 48, 101, 100, 99, 98, 108, 49, 49, 48, 48, 48, 49, 49]⟩, 1) else
  bif op == 6 then (op, ⟨#[109, 107, 106, 105, 104, 103, 102, 84, 84, 84, 84, 84, 83, 83, 83, 83, 83, 48, 48, 49, 101, 100, 99, 98, 108, 49, 49, 48, 48, 48, 49, 49]⟩, 1) else
  bif op == 7 then (op, ⟨#[109, 107, 106, 105, 104, 103, 102, 84, 84, 84, 84, 84, 83, 83, 83, 83, 83, 49, 48, 48, 101, 100, 99, 98, 108, 49, 49, 48, 48, 48, 49, 49]⟩, 1) else
  bif op == 8 then (op, ⟨#[109, 107, 106, 105, 104, 103, 102, 84, 84, 84, 84, 84, 83, 83, 83, 83, 83, 49, 48, 49, 101, 100, 99, 98, 108, 49, 49, 48, 48, 48, 49, 49]⟩, 1) else
  bif op == 9 then (op, ⟨#[109, 107, 106, 105, 104, 103, 102, 84, 84, 84, 84, 84, 83, 83, 83, 83, 83, 49, 49, 48, 101, 100, 99, 98, 108, 49, 49, 48, 48, 48, 49, 49]⟩, 1) else
  bif op == 10 then (op, ⟨#[109, 107, 106, 105, 104, 103, 102, 84, 84, 84, 84, 84, 83, 83, 83, 83, 83, 49, 49, 49, 101, 100, 99, 98, 108, 49, 49, 48, 48, 48, 49, 49]⟩, 1) else
  (0, ⟨#[]⟩, 0)
def memoryRow (op : Int) : Int × ByteArray × Int :=
  bif op == 11 then (op, ⟨#[108, 107, 106, 105, 104, 103, 102, 101, 100, 99, 98, 97, 83, 83, 83, 83, 83, 48, 48, 48, 68, 68, 68, 68, 68, 48, 48, 48, 48, 48, 49, 49]⟩, 1) else
  bif op == 12 then (op, ⟨#[108, 107, 106, 105, 104, 103, 102, 101, 100, 99, 98, 97, 83, 83, 83, 83, 83, 48, 48, 49, 68, 68, 68, 68, 68, 48, 48, 48, 48, 48, 49, 49]⟩, 1) else
  bif op == 13 then (op, ⟨#[108, 107, 106, 105, 104, 103, 102, 101, 100, 99, 98, 97, 83, 83, 83, 83, 83, 48, 49, 48, 68, 68, 68, 68, 68, 48, 48, 48, 48, 48, 49, 49]⟩, 1) else
  bif op == 14 then (op, ⟨#[108, 107, 106, 105, 104, 103, 102, 101, 100, 99, 98, 97, 83, 83, 83, 83, 83, 49, 48, 48, 68, 68, 68, 68, 68, 48, 48, 48, 48, 48, 49, 49]⟩, 1) else
  bif op == 15 then (op, ⟨#[108, 107, 106, 105, 104, 103, 102, 101, 100, 99, 98, 97, 83, 83, 83, 83, 83, 49, 48, 49, 68, 68, 68, 68, 68, 48, 48, 48, 48, 48, 49, 49]⟩, 1) else
  bif op == 16 then (op, ⟨#[108, 107, 106, 105, 104, 103, 102, 84, 84, 84, 84, 84, 83, 83, 83, 83, 83, 48, 48, 48, 101, 100, 99, 98, 97, 48, 49, 48, 48, 48, 49, 49]⟩, 1) else
  bif op == 17 then (op, ⟨#[108, 107, 106, 105, 104, 103, 102, 84, 84, 84, 84, 84, 83, 83, 83, 83, 83, 48, 48, 49, 101, 100, 99, 98, 97, 48, 49, 48, 48, 48, 49, 49]⟩, 1) else
  bif op == 18 then (op, ⟨#[108, 107, 106, 105, 104, 103, 102, 84, 84, 84, 84, 84, 83, 83, 83, 83, 83, 48, 49, 48, 101, 100, 99, 98, 97, 48, 49, 48, 48, 48, 49, 49]⟩, 1) else
  (0, ⟨#[]⟩, 0)
def immediateRow (op : Int) : Int × ByteArray × Int :=
  bif op == 19 then (op, ⟨#[108, 107, 106, 105, 104, 103, 102, 101, 100, 99, 98, 97, 83, 83, 83, 83, 83, 48, 48, 48, 68, 68, 68, 68, 68, 48, 48, 49, 48, 48, 49, 49]⟩, 1) else
  bif op == 20 then (op, ⟨#[108, 107, 106, 105, 104, 103, 102, 101, 100, 99, 98, 97, 83, 83, 83, 83, 83, 48, 49, 48, 68, 68, 68, 68, 68, 48, 48, 49, 48, 48, 49, 49]⟩, 1) else
  bif op == 21 then (op, ⟨#[108, 107, 106, 105, 104, 103, 102, 101, 100, 99, 98, 97, 83, 83, 83, 83, 83, 48, 49, 49, 68, 68, 68, 68, 68, 48, 48, 49, 48, 48, 49, 49]⟩, 1) else
  bif op == 22 then (op, ⟨#[108, 107, 106, 105, 104, 103, 102, 101, 100, 99, 98, 97, 83, 83, 83, 83, 83, 49, 48, 48, 68, 68, 68, 68, 68, 48, 48, 49, 48, 48, 49, 49]⟩, 1) else
  bif op == 23 then (op, ⟨#[108, 107, 106, 105, 104, 103, 102, 101, 100, 99, 98, 97, 83, 83, 83, 83, 83, 49, 49, 48, 68, 68, 68, 68, 68, 48, 48, 49, 48, 48, 49, 49]⟩, 1) else
  bif op == 24 then (op, ⟨#[108, 107, 106, 105, 104, 103, 102, 101, 100, 99, 98, 97, 83, 83, 83, 83, 83, 49, 49, 49, 68, 68, 68, 68, 68, 48, 48, 49, 48, 48, 49, 49]⟩, 1) else
  bif op == 25 then (op, ⟨#[48, 48, 48, 48, 48, 48, 48, 101, 100, 99, 98, 97, 83, 83, 83, 83, 83, 48, 48, 49, 68, 68, 68, 68, 68, 48, 48, 49, 48, 48, 49, 49]⟩, 0) else
  bif op == 26 then (op, ⟨#[48, 48, 48, 48, 48, 48, 48, 101, 100, 99, 98, 97, 83, 83, 83, 83, 83, 49, 48, 49, 68, 68, 68, 68, 68, 48, 48, 49, 48, 48, 49, 49]⟩, 0) else
  bif op == 27 then (op, ⟨#[48, 49, 48, 48, 48, 48, 48, 101, 100, 99, 98, 97, 83, 83, 83, 83, 83, 49, 48, 49, 68, 68, 68, 68, 68, 48, 48, 49, 48, 48, 49, 49]⟩, 0) else
  (0, ⟨#[]⟩, 0)
def registerRow (op : Int) : Int × ByteArray × Int :=
  bif op == 28 then (op, ⟨#[48, 48, 48, 48, 48, 48, 48, 84, 84, 84, 84, 84, 83, 83, 83, 83, 83, 48, 48, 48, 68, 68, 68, 68, 68, 48, 49, 49, 48, 48, 49, 49]⟩, 0) else
  bif op == 29 then (op, ⟨#[48, 49, 48, 48, 48, 48, 48, 84, 84, 84, 84, 84, 83, 83, 83, 83, 83, 48, 48, 48, 68, 68, 68, 68, 68, 48, 49, 49, 48, 48, 49, 49]⟩, 0) else
  bif op == 30 then (op, ⟨#[48, 48, 48, 48, 48, 48, 48, 84, 84, 84, 84, 84, 83, 83, 83, 83, 83, 48, 48, 49, 68, 68, 68, 68, 68, 48, 49, 49, 48, 48, 49, 49]⟩, 0) else
  bif op == 31 then (op, ⟨#[48, 48, 48, 48, 48, 48, 48, 84, 84, 84, 84, 84, 83, 83, 83, 83, 83, 48, 49, 48, 68, 68, 68, 68, 68, 48, 49, 49, 48, 48, 49, 49]⟩, 0) else
  bif op == 32 then (op, ⟨#[48, 48, 48, 48, 48, 48, 48, 84, 84, 84, 84, 84, 83, 83, 83, 83, 83, 48, 49, 49, 68, 68, 68, 68, 68, 48, 49, 49, 48, 48, 49, 49]⟩, 0) else
  bif op == 33 then (op, ⟨#[48, 48, 48, 48, 48, 48, 48, 84, 84, 84, 84, 84, 83, 83, 83, 83, 83, 49, 48, 48, 68, 68, 68, 68, 68, 48, 49, 49, 48, 48, 49, 49]⟩, 0) else
  bif op == 34 then (op, ⟨#[48, 48, 48, 48, 48, 48, 48, 84, 84, 84, 84, 84, 83, 83, 83, 83, 83, 49, 48, 49, 68, 68, 68, 68, 68, 48, 49, 49, 48, 48, 49, 49]⟩, 0) else
  bif op == 35 then (op, ⟨#[48, 49, 48, 48, 48, 48, 48, 84, 84, 84, 84, 84, 83, 83, 83, 83, 83, 49, 48, 49, 68, 68, 68, 68, 68, 48, 49, 49, 48, 48, 49, 49]⟩, 0) else
  bif op == 36 then (op, ⟨#[48, 48, 48, 48, 48, 48, 48, 84, 84, 84, 84, 84, 83, 83, 83, 83, 83, 49, 49, 48, 68, 68, 68, 68, 68, 48, 49, 49, 48, 48, 49, 49]⟩, 0) else
  bif op == 37 then (op, ⟨#[48, 48, 48, 48, 48, 48, 48, 84, 84, 84, 84, 84, 83, 83, 83, 83, 83, 49, 49, 49, 68, 68, 68, 68, 68, 48, 49, 49, 48, 48, 49, 49]⟩, 0) else
  (0, ⟨#[]⟩, 0)
def fenceRow (op : Int) : Int × ByteArray × Int :=
  bif op == 38 then (op, ⟨#[108, 107, 106, 105, 104, 103, 102, 101, 100, 99, 98, 97, 83, 83, 83, 83, 83, 48, 48, 48, 68, 68, 68, 68, 68, 48, 48, 48, 49, 49, 49, 49]⟩, 1) else
  bif op == 39 then (op, ⟨#[108, 107, 106, 105, 104, 103, 102, 101, 100, 99, 98, 97, 83, 83, 83, 83, 83, 48, 48, 49, 68, 68, 68, 68, 68, 48, 48, 48, 49, 49, 49, 49]⟩, 1) else
  bif op == 40 then (op, ⟨#[48, 48, 48, 48, 48, 48, 48, 48, 48, 48, 48, 48, 48, 48, 48, 48, 48, 48, 48, 48, 48, 48, 48, 48, 48, 49, 49, 49, 48, 48, 49, 49]⟩, 0) else
  bif op == 41 then (op, ⟨#[48, 48, 48, 48, 48, 48, 48, 48, 48, 48, 48, 49, 48, 48, 48, 48, 48, 48, 48, 48, 48, 48, 48, 48, 48, 49, 49, 49, 48, 48, 49, 49]⟩, 0) else
  (0, ⟨#[]⟩, 0)
def productRow (op : Int) : Int × ByteArray × Int :=
  bif op == 42 then (op, ⟨#[48, 48, 48, 48, 48, 48, 49, 84, 84, 84, 84, 84, 83, 83, 83, 83, 83, 48, 48, 48, 68, 68, 68, 68, 68, 48, 49, 49, 48, 48, 49, 49]⟩, 0) else
  bif op == 43 then (op, ⟨#[48, 48, 48, 48, 48, 48, 49, 84, 84, 84, 84, 84, 83, 83, 83, 83, 83, 48, 48, 49, 68, 68, 68, 68, 68, 48, 49, 49, 48, 48, 49, 49]⟩, 0) else
  bif op == 44 then (op, ⟨#[48, 48, 48, 48, 48, 48, 49, 84, 84, 84, 84, 84, 83, 83, 83, 83, 83, 48, 49, 48, 68, 68, 68, 68, 68, 48, 49, 49, 48, 48, 49, 49]⟩, 0) else
  bif op == 45 then (op, ⟨#[48, 48, 48, 48, 48, 48, 49, 84, 84, 84, 84, 84, 83, 83, 83, 83, 83, 48, 49, 49, 68, 68, 68, 68, 68, 48, 49, 49, 48, 48, 49, 49]⟩, 0) else
  bif op == 46 then (op, ⟨#[48, 48, 48, 48, 48, 48, 49, 84, 84, 84, 84, 84, 83, 83, 83, 83, 83, 49, 48, 48, 68, 68, 68, 68, 68, 48, 49, 49, 48, 48, 49, 49]⟩, 0) else
  bif op == 47 then (op, ⟨#[48, 48, 48, 48, 48, 48, 49, 84, 84, 84, 84, 84, 83, 83, 83, 83, 83, 49, 48, 49, 68, 68, 68, 68, 68, 48, 49, 49, 48, 48, 49, 49]⟩, 0) else
  bif op == 48 then (op, ⟨#[48, 48, 48, 48, 48, 48, 49, 84, 84, 84, 84, 84, 83, 83, 83, 83, 83, 49, 49, 48, 68, 68, 68, 68, 68, 48, 49, 49, 48, 48, 49, 49]⟩, 0) else
  bif op == 49 then (op, ⟨#[48, 48, 48, 48, 48, 48, 49, 84, 84, 84, 84, 84, 83, 83, 83, 83, 83, 49, 49, 49, 68, 68, 68, 68, 68, 48, 49, 49, 48, 48, 49, 49]⟩, 0) else
  (0, ⟨#[]⟩, 0)
def atomicRow (op : Int) : Int × ByteArray × Int :=
  bif op == 50 then (op, ⟨#[48, 48, 48, 49, 48, 98, 97, 48, 48, 48, 48, 48, 83, 83, 83, 83, 83, 48, 49, 48, 68, 68, 68, 68, 68, 48, 49, 48, 49, 49, 49, 49]⟩, 0) else
  bif op == 51 then (op, ⟨#[48, 48, 48, 49, 49, 98, 97, 84, 84, 84, 84, 84, 83, 83, 83, 83, 83, 48, 49, 48, 68, 68, 68, 68, 68, 48, 49, 48, 49, 49, 49, 49]⟩, 0) else
  bif op == 52 then (op, ⟨#[48, 48, 48, 48, 49, 98, 97, 84, 84, 84, 84, 84, 83, 83, 83, 83, 83, 48, 49, 48, 68, 68, 68, 68, 68, 48, 49, 48, 49, 49, 49, 49]⟩, 0) else
  bif op == 53 then (op, ⟨#[48, 48, 48, 48, 48, 98, 97, 84, 84, 84, 84, 84, 83, 83, 83, 83, 83, 48, 49, 48, 68, 68, 68, 68, 68, 48, 49, 48, 49, 49, 49, 49]⟩, 0) else
  bif op == 54 then (op, ⟨#[48, 48, 49, 48, 48, 98, 97, 84, 84, 84, 84, 84, 83, 83, 83, 83, 83, 48, 49, 48, 68, 68, 68, 68, 68, 48, 49, 48, 49, 49, 49, 49]⟩, 0) else
  bif op == 55 then (op, ⟨#[48, 49, 49, 48, 48, 98, 97, 84, 84, 84, 84, 84, 83, 83, 83, 83, 83, 48, 49, 48, 68, 68, 68, 68, 68, 48, 49, 48, 49, 49, 49, 49]⟩, 0) else
  bif op == 56 then (op, ⟨#[48, 49, 48, 48, 48, 98, 97, 84, 84, 84, 84, 84, 83, 83, 83, 83, 83, 48, 49, 48, 68, 68, 68, 68, 68, 48, 49, 48, 49, 49, 49, 49]⟩, 0) else
  bif op == 57 then (op, ⟨#[49, 48, 48, 48, 48, 98, 97, 84, 84, 84, 84, 84, 83, 83, 83, 83, 83, 48, 49, 48, 68, 68, 68, 68, 68, 48, 49, 48, 49, 49, 49, 49]⟩, 0) else
  bif op == 58 then (op, ⟨#[49, 48, 49, 48, 48, 98, 97, 84, 84, 84, 84, 84, 83, 83, 83, 83, 83, 48, 49, 48, 68, 68, 68, 68, 68, 48, 49, 48, 49, 49, 49, 49]⟩, 0) else
  bif op == 59 then (op, ⟨#[49, 49, 48, 48, 48, 98, 97, 84, 84, 84, 84, 84, 83, 83, 83, 83, 83, 48, 49, 48, 68, 68, 68, 68, 68, 48, 49, 48, 49, 49, 49, 49]⟩, 0) else
  bif op == 60 then (op, ⟨#[49, 49, 49, 48, 48, 98, 97, 84, 84, 84, 84, 84, 83, 83, 83, 83, 83, 48, 49, 48, 68, 68, 68, 68, 68, 48, 49, 48, 49, 49, 49, 49]⟩, 0) else
  (0, ⟨#[]⟩, 0)
def systemRow (op : Int) : Int × ByteArray × Int :=
  bif op == 61 then (op, ⟨#[108, 107, 106, 105, 104, 103, 102, 101, 100, 99, 98, 97, 83, 83, 83, 83, 83, 48, 48, 49, 68, 68, 68, 68, 68, 49, 49, 49, 48, 48, 49, 49]⟩, 0) else
  bif op == 62 then (op, ⟨#[108, 107, 106, 105, 104, 103, 102, 101, 100, 99, 98, 97, 83, 83, 83, 83, 83, 48, 49, 48, 68, 68, 68, 68, 68, 49, 49, 49, 48, 48, 49, 49]⟩, 0) else
  bif op == 63 then (op, ⟨#[108, 107, 106, 105, 104, 103, 102, 101, 100, 99, 98, 97, 83, 83, 83, 83, 83, 48, 49, 49, 68, 68, 68, 68, 68, 49, 49, 49, 48, 48, 49, 49]⟩, 0) else
  bif op == 64 then (op, ⟨#[108, 107, 106, 105, 104, 103, 102, 101, 100, 99, 98, 97, 83, 83, 83, 83, 83, 49, 48, 49, 68, 68, 68, 68, 68, 49, 49, 49, 48, 48, 49, 49]⟩, 0) else
  bif op == 65 then (op, ⟨#[108, 107, 106, 105, 104, 103, 102, 101, 100, 99, 98, 97, 83, 83, 83, 83, 83, 49, 49, 48, 68, 68, 68, 68, 68, 49, 49, 49, 48, 48, 49, 49]⟩, 0) else
  bif op == 66 then (op, ⟨#[108, 107, 106, 105, 104, 103, 102, 101, 100, 99, 98, 97, 83, 83, 83, 83, 83, 49, 49, 49, 68, 68, 68, 68, 68, 49, 49, 49, 48, 48, 49, 49]⟩, 0) else
  bif op == 67 then (op, ⟨#[48, 48, 49, 49, 48, 48, 48, 48, 48, 48, 49, 48, 48, 48, 48, 48, 48, 48, 48, 48, 48, 48, 48, 48, 48, 49, 49, 49, 48, 48, 49, 49]⟩, 0) else
  bif op == 68 then (op, ⟨#[48, 48, 48, 49, 48, 48, 48, 48, 48, 48, 49, 48, 48, 48, 48, 48, 48, 48, 48, 48, 48, 48, 48, 48, 48, 49, 49, 49, 48, 48, 49, 49]⟩, 0) else
  bif op == 69 then (op, ⟨#[48, 48, 48, 49, 48, 48, 48, 48, 48, 49, 48, 49, 48, 48, 48, 48, 48, 48, 48, 48, 48, 48, 48, 48, 48, 49, 49, 49, 48, 48, 49, 49]⟩, 0) else
  bif op == 70 then (op, ⟨#[48, 48, 48, 49, 48, 48, 49, 84, 84, 84, 84, 84, 83, 83, 83, 83, 83, 48, 48, 48, 48, 48, 48, 48, 48, 49, 49, 49, 48, 48, 49, 49]⟩, 0) else
  (0, ⟨#[]⟩, 0)
def shortRow00 (op : Int) : Int × ByteArray × Int :=
  bif op == 1 then (19, ⟨#[48, 48, 48, 102, 101, 106, 105, 104, 103, 99, 100, 68, 68, 68, 48, 48]⟩, 24) else
  bif op == 2 then (13, ⟨#[48, 49, 48, 102, 101, 100, 83, 83, 83, 99, 103, 68, 68, 68, 48, 48]⟩, 0) else
  bif op == 3 then (18, ⟨#[49, 49, 48, 102, 101, 100, 83, 83, 83, 99, 103, 84, 84, 84, 48, 48]⟩, 0) else
  (0, ⟨#[]⟩, 0)
def shortRow01 (op : Int) : Int × ByteArray × Int :=
  bif op == 4 then (19, ⟨#[48, 48, 48, 102, 66, 66, 66, 66, 66, 101, 100, 99, 98, 97, 48, 49]⟩, 1) else
  bif op == 5 then (3, ⟨#[48, 48, 49, 108, 101, 106, 105, 107, 103, 104, 100, 99, 98, 102, 48, 49]⟩, 3) else
  bif op == 6 then (19, ⟨#[48, 49, 48, 102, 68, 68, 68, 68, 68, 101, 100, 99, 98, 97, 48, 49]⟩, 1) else
  bif op == 7 then (19, ⟨#[48, 49, 49, 106, 48, 48, 48, 49, 48, 101, 103, 105, 104, 102, 48, 49]⟩, 29) else
  bif op == 8 then (1, ⟨#[48, 49, 49, 102, 68, 68, 68, 68, 68, 101, 100, 99, 98, 97, 48, 49]⟩, 273) else
  bif op == 9 then (26, ⟨#[49, 48, 48, 48, 48, 48, 66, 66, 66, 101, 100, 99, 98, 97, 48, 49]⟩, 0) else
  bif op == 10 then (27, ⟨#[49, 48, 48, 48, 48, 49, 66, 66, 66, 101, 100, 99, 98, 97, 48, 49]⟩, 0) else
  bif op == 11 then (24, ⟨#[49, 48, 48, 102, 49, 48, 66, 66, 66, 101, 100, 99, 98, 97, 48, 49]⟩, 1) else
  bif op == 12 then (29, ⟨#[49, 48, 48, 48, 49, 49, 66, 66, 66, 48, 48, 84, 84, 84, 48, 49]⟩, 0) else
  bif op == 13 then (33, ⟨#[49, 48, 48, 48, 49, 49, 66, 66, 66, 48, 49, 84, 84, 84, 48, 49]⟩, 0) else
  bif op == 14 then (36, ⟨#[49, 48, 48, 48, 49, 49, 66, 66, 66, 49, 48, 84, 84, 84, 48, 49]⟩, 0) else
  bif op == 15 then (37, ⟨#[49, 48, 48, 48, 49, 49, 66, 66, 66, 49, 49, 84, 84, 84, 48, 49]⟩, 0) else
  bif op == 16 then (3, ⟨#[49, 48, 49, 108, 101, 106, 105, 107, 103, 104, 100, 99, 98, 102, 48, 49]⟩, 1) else
  bif op == 17 then (5, ⟨#[49, 49, 48, 105, 101, 100, 83, 83, 83, 104, 103, 99, 98, 102, 48, 49]⟩, 1) else
  bif op == 18 then (6, ⟨#[49, 49, 49, 105, 101, 100, 83, 83, 83, 104, 103, 99, 98, 102, 48, 49]⟩, 1) else
  (0, ⟨#[]⟩, 0)
def shortRow10 (op : Int) : Int × ByteArray × Int :=
  bif op == 19 then (25, ⟨#[48, 48, 48, 48, 66, 66, 66, 66, 66, 101, 100, 99, 98, 97, 49, 48]⟩, 0) else
  bif op == 20 then (13, ⟨#[48, 49, 48, 102, 68, 68, 68, 68, 68, 101, 100, 99, 104, 103, 49, 48]⟩, 40) else
  bif op == 21 then (4, ⟨#[49, 48, 48, 48, 83, 83, 83, 83, 83, 48, 48, 48, 48, 48, 49, 48]⟩, 64) else
  bif op == 22 then (28, ⟨#[49, 48, 48, 48, 68, 68, 68, 68, 68, 84, 84, 84, 84, 84, 49, 48]⟩, 128) else
  bif op == 23 then (41, ⟨#[49, 48, 48, 49, 48, 48, 48, 48, 48, 48, 48, 48, 48, 48, 49, 48]⟩, 0) else
  bif op == 24 then (4, ⟨#[49, 48, 48, 49, 83, 83, 83, 83, 83, 48, 48, 48, 48, 48, 49, 48]⟩, 66) else
  bif op == 25 then (28, ⟨#[49, 48, 48, 49, 66, 66, 66, 66, 66, 84, 84, 84, 84, 84, 49, 48]⟩, 128) else
  bif op == 26 then (18, ⟨#[49, 49, 48, 102, 101, 100, 99, 104, 103, 84, 84, 84, 84, 84, 49, 48]⟩, 8) else
  (0, ⟨#[]⟩, 0)
def longRow (op : Int) : Int × ByteArray × Int :=
  bif decide (op ≤ 2) then upperRow op else
  bif decide (op ≤ 10) then jumpRow op else
  bif decide (op ≤ 18) then memoryRow op else
  bif decide (op ≤ 27) then immediateRow op else
  bif decide (op ≤ 37) then registerRow op else
  bif decide (op ≤ 41) then fenceRow op else
  bif decide (op ≤ 49) then productRow op else
  bif decide (op ≤ 60) then atomicRow op else
  systemRow op
def shortRow (op : Int) : Int × ByteArray × Int :=
  bif decide (op ≤ 3) then shortRow00 op else
  bif decide (op ≤ 18) then shortRow01 op else
  shortRow10 op
end Go.Proofs.YthfofjkfbhahoaaGreatDoor.Tab
end
section
namespace Go.Proofs.YthfofjkfbhahoaaGreatDoor
open Go.RowKit
set_option linter.unusedSimpArgs false
/-- a row as a value -/
def rowV (t : Int × ByteArray × Int) : Value := .agg #[.int .i64 t.1, .string t.2.1, .int .i64 t.2.2]
set_option maxHeartbeats 4000000 in
theorem i_upperRow (op : Int) (w : World) :
    Calls Tryz.prog 199 #[.int .i64 op] w fun e w' => e = .returned (rowV (Tab.upperRow op)) ∧ Below w.heap.size w w' := by
  go_enter Tryz.func199, Tryz.ntmps199
  go_wp2
  all_goals exact bodyPost_ret (v := rowV (Tab.upperRow op)) (by simp [results, Tryz.results199, go_sem, rowV, Tab.upperRow, *]) rfl ⟨rfl, by repeat (first | exact Below.refl _ _ | refine Below.setCell ?_ (by simp) _ | refine Below.alloc ?_ (by simp) _)⟩
set_option maxHeartbeats 4000000 in
theorem i_jumpRow (op : Int) (w : World) :
    Calls Tryz.prog 200 #[.int .i64 op] w fun e w' => e = .returned (rowV (Tab.jumpRow op)) ∧ Below w.heap.size w w' := by
  go_enter Tryz.func200, Tryz.ntmps200
  go_wp2
  all_goals exact bodyPost_ret (v := rowV (Tab.jumpRow op)) (by simp [results, Tryz.results200, go_sem, rowV, Tab.jumpRow, *]) rfl ⟨rfl, by repeat (first | exact Below.refl _ _ | refine Below.setCell ?_ (by simp) _ | refine Below.alloc ?_ (by simp) _)⟩
set_option maxHeartbeats 4000000 in
theorem i_memoryRow (op : Int) (w : World) :
    Calls Tryz.prog 201 #[.int .i64 op] w fun e w' => e = .returned (rowV (Tab.memoryRow op)) ∧ Below w.heap.size w w' := by
  go_enter Tryz.func201, Tryz.ntmps201
  go_wp2
  all_goals exact bodyPost_ret (v := rowV (Tab.memoryRow op)) (by simp [results, Tryz.results201, go_sem, rowV, Tab.memoryRow, *]) rfl ⟨rfl, by repeat (first | exact Below.refl _ _ | refine Below.setCell ?_ (by simp) _ | refine Below.alloc ?_ (by simp) _)⟩
set_option maxHeartbeats 4000000 in
theorem i_immediateRow (op : Int) (w : World) :
    Calls Tryz.prog 202 #[.int .i64 op] w fun e w' => e = .returned (rowV (Tab.immediateRow op)) ∧ Below w.heap.size w w' := by
  go_enter Tryz.func202, Tryz.ntmps202
  go_wp2
  all_goals exact bodyPost_ret (v := rowV (Tab.immediateRow op)) (by simp [results, Tryz.results202, go_sem, rowV, Tab.immediateRow, *]) rfl ⟨rfl, by repeat (first | exact Below.refl _ _ | refine Below.setCell ?_ (by simp) _ | refine Below.alloc ?_ (by simp) _)⟩
set_option maxHeartbeats 4000000 in
theorem i_registerRow (op : Int) (w : World) :
    Calls Tryz.prog 203 #[.int .i64 op] w fun e w' => e = .returned (rowV (Tab.registerRow op)) ∧ Below w.heap.size w w' := by
  go_enter Tryz.func203, Tryz.ntmps203
  go_wp2
  all_goals exact bodyPost_ret (v := rowV (Tab.registerRow op)) (by simp [results, Tryz.results203, go_sem, rowV, Tab.registerRow, *]) rfl ⟨rfl, by repeat (first | exact Below.refl _ _ | refine Below.setCell ?_ (by simp) _ | refine Below.alloc ?_ (by simp) _)⟩
set_option maxHeartbeats 4000000 in
theorem i_fenceRow (op : Int) (w : World) :
    Calls Tryz.prog 204 #[.int .i64 op] w fun e w' => e = .returned (rowV (Tab.fenceRow op)) ∧ Below w.heap.size w w' := by
  go_enter Tryz.func204, Tryz.ntmps204
  go_wp2
  all_goals exact bodyPost_ret (v := rowV (Tab.fenceRow op)) (by simp [results, Tryz.results204, go_sem, rowV, Tab.fenceRow, *]) rfl ⟨rfl, by repeat (first | exact Below.refl _ _ | refine Below.setCell ?_ (by simp) _ | refine Below.alloc ?_ (by simp) _)⟩
set_option maxHeartbeats 4000000 in
theorem i_productRow (op : Int) (w : World) :
    Calls Tryz.prog 205 #[.int .i64 op] w fun e w' => e = .returned (rowV (Tab.productRow op)) ∧ Below w.heap.size w w' := by
  go_enter Tryz.func205, Tryz.ntmps205
  go_wp2
  all_goals exact bodyPost_ret (v := rowV (Tab.productRow op)) (by simp [results, Tryz.results205, go_sem, rowV, Tab.productRow, *]) rfl ⟨rfl, by repeat (first | exact Below.refl _ _ | refine Below.setCell ?_ (by simp) _ | refine Below.alloc ?_ (by simp) _)⟩
set_option maxHeartbeats 4000000 in
theorem i_atomicRow (op : Int) (w : World) :
    Calls Tryz.prog 206 #[.int .i64 op] w fun e w' => e = .returned (rowV (Tab.atomicRow op)) ∧ Below w.heap.size w w' := by
  go_enter Tryz.func206, Tryz.ntmps206
  go_wp2
  all_goals exact bodyPost_ret (v := rowV (Tab.atomicRow op)) (by simp [results, Tryz.results206, go_sem, rowV, Tab.atomicRow, *]) rfl ⟨rfl, by repeat (first | exact Below.refl _ _ | refine Below.setCell ?_ (by simp) _ | refine Below.alloc ?_ (by simp) _)⟩
set_option maxHeartbeats 4000000 in
theorem i_systemRow (op : Int) (w : World) :
    Calls Tryz.prog 207 #[.int .i64 op] w fun e w' => e = .returned (rowV (Tab.systemRow op)) ∧ Below w.heap.size w w' := by
  go_enter Tryz.func207, Tryz.ntmps207
  go_wp2
  all_goals exact bodyPost_ret (v := rowV (Tab.systemRow op)) (by simp [results, Tryz.results207, go_sem, rowV, Tab.systemRow, *]) rfl ⟨rfl, by repeat (first | exact Below.refl _ _ | refine Below.setCell ?_ (by simp) _ | refine Below.alloc ?_ (by simp) _)⟩
set_option maxHeartbeats 4000000 in
theorem i_shortRow00 (op : Int) (w : World) :
    Calls Tryz.prog 208 #[.int .i64 op] w fun e w' => e = .returned (rowV (Tab.shortRow00 op)) ∧ Below w.heap.size w w' := by
  go_enter Tryz.func208, Tryz.ntmps208
  go_wp2
  all_goals exact bodyPost_ret (v := rowV (Tab.shortRow00 op)) (by simp [results, Tryz.results208, go_sem, rowV, Tab.shortRow00, *]) rfl ⟨rfl, by repeat (first | exact Below.refl _ _ | refine Below.setCell ?_ (by simp) _ | refine Below.alloc ?_ (by simp) _)⟩
set_option maxHeartbeats 4000000 in
theorem i_shortRow01 (op : Int) (w : World) :
    Calls Tryz.prog 209 #[.int .i64 op] w fun e w' => e = .returned (rowV (Tab.shortRow01 op)) ∧ Below w.heap.size w w' := by
  go_enter Tryz.func209, Tryz.ntmps209
  go_wp2
  all_goals exact bodyPost_ret (v := rowV (Tab.shortRow01 op)) (by simp [results, Tryz.results209, go_sem, rowV, Tab.shortRow01, *]) rfl ⟨rfl, by repeat (first | exact Below.refl _ _ | refine Below.setCell ?_ (by simp) _ | refine Below.alloc ?_ (by simp) _)⟩
set_option maxHeartbeats 4000000 in
theorem i_shortRow10 (op : Int) (w : World) :
    Calls Tryz.prog 210 #[.int .i64 op] w fun e w' => e = .returned (rowV (Tab.shortRow10 op)) ∧ Below w.heap.size w w' := by
  go_enter Tryz.func210, Tryz.ntmps210
  go_wp2
  all_goals exact bodyPost_ret (v := rowV (Tab.shortRow10 op)) (by simp [results, Tryz.results210, go_sem, rowV, Tab.shortRow10, *]) rfl ⟨rfl, by repeat (first | exact Below.refl _ _ | refine Below.setCell ?_ (by simp) _ | refine Below.alloc ?_ (by simp) _)⟩
end Go.Proofs.YthfofjkfbhahoaaGreatDoor
end
