/- SHA-256 as FIPS 180-4 has it: plain lists of bytes and numbers of 32 bits, no program. -/
import Derived.Below
namespace Go.Proofs.YtlamjdpifhpofaaDoor.Sha
set_option linter.unusedVariables false

abbrev W := BitVec 32

def kk : List W := [1116352408, 1899447441, 3049323471, 3921009573, 961987163, 1508970993, 2453635748, 2870763221, 3624381080, 310598401, 607225278, 1426881987, 1925078388, 2162078206, 2614888103, 3248222580, 3835390401, 4022224774, 264347078, 604807628, 770255983, 1249150122, 1555081692, 1996064986, 2554220882, 2821834349, 2952996808, 3210313671, 3336571891, 3584528711, 113926993, 338241895, 666307205, 773529912, 1294757372, 1396182291, 1695183700, 1986661051, 2177026350, 2456956037, 2730485921, 2820302411, 3259730800, 3345764771, 3516065817, 3600352804, 4094571909, 275423344, 430227734, 506948616, 659060556, 883997877, 958139571, 1322822218, 1537002063, 1747873779, 1955562222, 2024104815, 2227730452, 2361852424, 2428436474, 2756734187, 3204031479, 3329325298]

/-- the eight numbers of a sum under way -/
structure St where
  a : W
  b : W
  c : W
  d : W
  e : W
  f : W
  g : W
  h : W
deriving DecidableEq

def St.list (s : St) : List W := [s.a, s.b, s.c, s.d, s.e, s.f, s.g, s.h]

def first : St := ⟨1779033703, 3144134277, 1013904242, 2773480762, 1359893119, 2600822924, 528734635, 1541459225⟩

def rotr (x : W) (n : Nat) : W := x >>> n ||| x <<< (32 - n)
def sig0 (x : W) : W := rotr x 7 ^^^ rotr x 18 ^^^ x >>> 3
def sig1 (x : W) : W := rotr x 17 ^^^ rotr x 19 ^^^ x >>> 10
def big0 (x : W) : W := rotr x 2 ^^^ rotr x 13 ^^^ rotr x 22
def big1 (x : W) : W := rotr x 6 ^^^ rotr x 11 ^^^ rotr x 25
def ch (x y z : W) : W := (x &&& y) ^^^ (~~~x &&& z)
def maj (x y z : W) : W := (x &&& y) ^^^ (x &&& z) ^^^ (y &&& z)

/-- a byte as a number of 32 bits -/
def by32 (n : Int) : W := BitVec.ofNat 32 n.toNat
/-- four bytes, the highest first -/
def four (b0 b1 b2 b3 : Int) : W := by32 b0 <<< 24 ||| by32 b1 <<< 16 ||| by32 b2 <<< 8 ||| by32 b3
def word (t : List Int) (q : Nat) : W := four (t.getD q 0) (t.getD (q + 1) 0) (t.getD (q + 2) 0) (t.getD (q + 3) 0)

def next (l : List W) (i : Nat) : W := sig1 (l.getD (i - 2) 0) + l.getD (i - 7) 0 + sig0 (l.getD (i - 15) 0) + l.getD (i - 16) 0

/-- the first words of the block that begins at p -/
def sched (t : List Int) (p : Nat) : Nat → List W
  | 0 => []
  | i + 1 => sched t p i ++ [if i < 16 then word t (p + 4 * i) else next (sched t p i) i]

def rnd (s : St) (k w : W) : St :=
  ⟨s.h + big1 s.e + ch s.e s.f s.g + k + w + (big0 s.a + maj s.a s.b s.c), s.a, s.b, s.c, s.d + (s.h + big1 s.e + ch s.e s.f s.g + k + w), s.e, s.f, s.g⟩

def rounds (s : St) (l : List W) : Nat → St
  | 0 => s
  | i + 1 => rnd (rounds s l i) (kk.getD i 0) (l.getD i 0)

def addS (s r : St) : St := ⟨s.a + r.a, s.b + r.b, s.c + r.c, s.d + r.d, s.e + r.e, s.f + r.f, s.g + r.g, s.h + r.h⟩

def block (t : List Int) (p : Nat) (s : St) : St := addS s (rounds s (sched t p 64) 64)

def blocks (t : List Int) : Nat → St
  | 0 => first
  | j + 1 => block t (64 * j) (blocks t j)

/-- how many noughts stand behind the byte 128 -/
def gap (n : Nat) : Nat := (119 - n % 64) % 64
/-- the last eight bytes: how many bits there are -/
def lens (n : Nat) : List Int := [((n * 8 / 2 ^ 56 % 256 : Nat) : Int), ((n * 8 / 2 ^ 48 % 256 : Nat) : Int), ((n * 8 / 2 ^ 40 % 256 : Nat) : Int), ((n * 8 / 2 ^ 32 % 256 : Nat) : Int), ((n * 8 / 2 ^ 24 % 256 : Nat) : Int), ((n * 8 / 2 ^ 16 % 256 : Nat) : Int), ((n * 8 / 2 ^ 8 % 256 : Nat) : Int), ((n * 8 % 256 : Nat) : Int)]
def pad (b : List Int) : List Int := b ++ [128] ++ List.replicate (gap b.length) 0 ++ lens b.length

/-- a number's four bytes, the highest first -/
def bytes (x : W) : List Int := [((x >>> 24).toNat % 256 : Nat), ((x >>> 16).toNat % 256 : Nat), ((x >>> 8).toNat % 256 : Nat), (x.toNat % 256 : Nat)]
def out (s : St) : List Int := s.list.flatMap bytes

def sum (b : List Int) : List Int := out (blocks (pad b) ((pad b).length / 64))

theorem abc : (sum [97, 98, 99]).take 4 = [186, 120, 22, 191] := by decide +kernel

end Go.Proofs.YtlamjdpifhpofaaDoor.Sha
