/- The instructions' names and shapes as Lean functions: typed by a program off the project's own package api. -/
namespace Go.Proofs.Ytmlgonbhoknoiaa.Nm

def nameLast (op : Int) : ByteArray :=
  bif op == 55 then ⟨#[97, 109, 111, 97, 110, 100, 46, 119]⟩ else
  bif op == 56 then ⟨#[97, 109, 111, 111, 114, 46, 119]⟩ else
  bif op == 57 then ⟨#[97, 109, 111, 109, 105, 110, 46, 119]⟩ else
  bif op == 58 then ⟨#[97, 109, 111, 109, 97, 120, 46, 119]⟩ else
  bif op == 59 then ⟨#[97, 109, 111, 109, 105, 110, 117, 46, 119]⟩ else
  bif op == 60 then ⟨#[97, 109, 111, 109, 97, 120, 117, 46, 119]⟩ else
  bif op == 61 then ⟨#[99, 115, 114, 114, 119]⟩ else
  bif op == 62 then ⟨#[99, 115, 114, 114, 115]⟩ else
  bif op == 63 then ⟨#[99, 115, 114, 114, 99]⟩ else
  bif op == 64 then ⟨#[99, 115, 114, 114, 119, 105]⟩ else
  bif op == 65 then ⟨#[99, 115, 114, 114, 115, 105]⟩ else
  bif op == 66 then ⟨#[99, 115, 114, 114, 99, 105]⟩ else
  bif op == 67 then ⟨#[109, 114, 101, 116]⟩ else
  bif op == 68 then ⟨#[115, 114, 101, 116]⟩ else
  bif op == 69 then ⟨#[119, 102, 105]⟩ else
  bif op == 70 then ⟨#[115, 102, 101, 110, 99, 101, 46, 118, 109, 97]⟩ else
  bif op == 71 then ⟨#[46, 119, 111, 114, 100]⟩ else
  bif op == 72 then ⟨#[46, 104, 97, 108, 102]⟩ else
  ⟨#[]⟩

def nameFourth (op : Int) : ByteArray :=
  bif op == 37 then ⟨#[97, 110, 100]⟩ else
  bif op == 38 then ⟨#[102, 101, 110, 99, 101]⟩ else
  bif op == 39 then ⟨#[102, 101, 110, 99, 101, 46, 105]⟩ else
  bif op == 40 then ⟨#[101, 99, 97, 108, 108]⟩ else
  bif op == 41 then ⟨#[101, 98, 114, 101, 97, 107]⟩ else
  bif op == 42 then ⟨#[109, 117, 108]⟩ else
  bif op == 43 then ⟨#[109, 117, 108, 104]⟩ else
  bif op == 44 then ⟨#[109, 117, 108, 104, 115, 117]⟩ else
  bif op == 45 then ⟨#[109, 117, 108, 104, 117]⟩ else
  bif op == 46 then ⟨#[100, 105, 118]⟩ else
  bif op == 47 then ⟨#[100, 105, 118, 117]⟩ else
  bif op == 48 then ⟨#[114, 101, 109]⟩ else
  bif op == 49 then ⟨#[114, 101, 109, 117]⟩ else
  bif op == 50 then ⟨#[108, 114, 46, 119]⟩ else
  bif op == 51 then ⟨#[115, 99, 46, 119]⟩ else
  bif op == 52 then ⟨#[97, 109, 111, 115, 119, 97, 112, 46, 119]⟩ else
  bif op == 53 then ⟨#[97, 109, 111, 97, 100, 100, 46, 119]⟩ else
  bif op == 54 then ⟨#[97, 109, 111, 120, 111, 114, 46, 119]⟩ else
  nameLast op

def nameThird (op : Int) : ByteArray :=
  bif op == 28 then ⟨#[97, 100, 100]⟩ else
  bif op == 29 then ⟨#[115, 117, 98]⟩ else
  bif op == 30 then ⟨#[115, 108, 108]⟩ else
  bif op == 31 then ⟨#[115, 108, 116]⟩ else
  bif op == 32 then ⟨#[115, 108, 116, 117]⟩ else
  bif op == 33 then ⟨#[120, 111, 114]⟩ else
  bif op == 34 then ⟨#[115, 114, 108]⟩ else
  bif op == 35 then ⟨#[115, 114, 97]⟩ else
  bif op == 36 then ⟨#[111, 114]⟩ else
  nameFourth op

def nameSecond (op : Int) : ByteArray :=
  bif op == 19 then ⟨#[97, 100, 100, 105]⟩ else
  bif op == 20 then ⟨#[115, 108, 116, 105]⟩ else
  bif op == 21 then ⟨#[115, 108, 116, 105, 117]⟩ else
  bif op == 22 then ⟨#[120, 111, 114, 105]⟩ else
  bif op == 23 then ⟨#[111, 114, 105]⟩ else
  bif op == 24 then ⟨#[97, 110, 100, 105]⟩ else
  bif op == 25 then ⟨#[115, 108, 108, 105]⟩ else
  bif op == 26 then ⟨#[115, 114, 108, 105]⟩ else
  bif op == 27 then ⟨#[115, 114, 97, 105]⟩ else
  nameThird op

def name (op : Int) : ByteArray :=
  bif op == 1 then ⟨#[108, 117, 105]⟩ else
  bif op == 2 then ⟨#[97, 117, 105, 112, 99]⟩ else
  bif op == 3 then ⟨#[106, 97, 108]⟩ else
  bif op == 4 then ⟨#[106, 97, 108, 114]⟩ else
  bif op == 5 then ⟨#[98, 101, 113]⟩ else
  bif op == 6 then ⟨#[98, 110, 101]⟩ else
  bif op == 7 then ⟨#[98, 108, 116]⟩ else
  bif op == 8 then ⟨#[98, 103, 101]⟩ else
  bif op == 9 then ⟨#[98, 108, 116, 117]⟩ else
  bif op == 10 then ⟨#[98, 103, 101, 117]⟩ else
  bif op == 11 then ⟨#[108, 98]⟩ else
  bif op == 12 then ⟨#[108, 104]⟩ else
  bif op == 13 then ⟨#[108, 119]⟩ else
  bif op == 14 then ⟨#[108, 98, 117]⟩ else
  bif op == 15 then ⟨#[108, 104, 117]⟩ else
  bif op == 16 then ⟨#[115, 98]⟩ else
  bif op == 17 then ⟨#[115, 104]⟩ else
  bif op == 18 then ⟨#[115, 119]⟩ else
  nameSecond op


def shape (op : Int) : ByteArray :=
  bif op == 1 || op == 2 then ⟨#[100, 105]⟩ else
  bif op == 3 then ⟨#[100, 106]⟩ else
  bif op == 4 then ⟨#[100, 109]⟩ else
  bif decide (5 ≤ op) && decide (op ≤ 10) then ⟨#[115, 116, 106]⟩ else
  bif decide (11 ≤ op) && decide (op ≤ 15) then ⟨#[100, 109]⟩ else
  bif decide (16 ≤ op) && decide (op ≤ 18) then ⟨#[116, 109]⟩ else
  bif (decide (19 ≤ op) && decide (op ≤ 27)) || op == 38 || op == 39 || op == 50 then ⟨#[100, 115, 105]⟩ else
  bif (decide (28 ≤ op) && decide (op ≤ 37)) || (decide (42 ≤ op) && decide (op ≤ 49)) then ⟨#[100, 115, 116]⟩ else
  bif decide (51 ≤ op) && decide (op ≤ 60) then ⟨#[100, 116, 115, 105]⟩ else
  bif decide (61 ≤ op) && decide (op ≤ 63) then ⟨#[100, 105, 115]⟩ else
  bif decide (64 ≤ op) && decide (op ≤ 66) then ⟨#[100, 105, 117]⟩ else
  bif op == 70 then ⟨#[115, 116]⟩ else
  bif op == 71 || op == 72 then ⟨#[105]⟩ else ⟨#[]⟩
end Go.Proofs.Ytmlgonbhoknoiaa.Nm
