import Derived.Test.YtfccelbmacjifaaKit
namespace Go.Proofs.Ytfccelbmacjifaa

/-- A function of a side, turned at one of them. -/
def upd {α : Type} (f : Bool → α) (s : Bool) (v : α) : Bool → α := fun r => if r = s then v else f r
theorem upd_same {α : Type} (f : Bool → α) (s : Bool) (v : α) : upd f s v s = v := by simp [upd]
theorem upd_ne {α : Type} (f : Bool → α) {s r : Bool} (v : α) (h : r ≠ s) : upd f s v r = f r := by simp [upd, h]
def b2i (b : Bool) : Int := if b then 1 else 0
theorem b2i_true : b2i true = 1 := rfl
theorem b2i_false : b2i false = 0 := rfl
theorem b2i_beq (a b : Bool) : (b2i a == b2i b) = (a == b) := by cases a <;> cases b <;> rfl
def keyEnd : Int := 2 ^ 40 + 1

structure BAns where
  err : Int := 0
  did : Bool := false
  value : Int := 0
  stamp : Int := 0
  spans : List (List (Int × Int)) := []
structure BSpot where
  id : Int
  leaf : Bool
  key : Int
  value : Int
  now : Bool → Nat
  st : Bool → List Int
  opn : Bool → Bool
  dead : Bool
  owner : Int
  out : Int
  free : Bool
structure BMade where
  stamp : Int
  key : Int
  value : Int
  put : Bool
structure BThread where
  okind : Int
  okey : Int
  ovalue : Int
  ospans : List (Int × Int)
  busy : Bool
  has : Bool
  at_ : Nat
  slot : Int
  t : Int
  g : Nat
  gs : Bool
  x : Nat
  xs : Bool
  c : Nat
  want : List Nat
  have_ : Nat
  src : Nat
  side : Bool
  dst : Nat
  new : List Nat
  hid : Int
  hside : Bool
  hkey : Int
  todo : List (Int × Bool)
  found : List (Int × Int)
  ans : BAns
  last : BAns
structure BRound where
  at_ : Nat
  clock : Int
  thread : Nat
  noted : List Int
  gone : List Nat
structure BSt where
  kind : Int
  threads : Int
  nodes : Int
  entries : Int
  limit : Int
  clock : Int
  spots : List BSpot
  log : List BMade
  ts : List BThread
  round : BRound
structure BRow where
  id : Int
  key : Int
  value : Int

def BSpot.zero : BSpot := ⟨0, false, 0, 0, fun _ => 0, fun _ => [], fun _ => false, false, 0, 0, false⟩
def BThread.zero : BThread := ⟨0, 0, 0, [], false, false, 0, 0, 0, 0, false, 0, false, 0, [], 0, 0, false, 0, [], 0, false, 0, [], [], {}, {}⟩
def BSt.sp (R : BSt) (i : Nat) : BSpot := R.spots[i]?.getD BSpot.zero
def BSt.th (R : BSt) (i : Nat) : BThread := R.ts[i]?.getD BThread.zero
def BSt.mapSp (R : BSt) (i : Nat) (f : BSpot → BSpot) : BSt := { R with spots := R.spots.modify i f }
def BSt.setTh (R : BSt) (i : Nat) (t : BThread) : BSt := { R with ts := R.ts.set i t }

/-- Which link of the node in place k is the one for the key. -/
def BSt.sideOf (R : BSt) (k : Nat) (key : Int) : Bool := decide (R.kind = 1) && decide (k ≠ 0) && decide ((R.sp k).key ≤ key)

/-! ### An update's steps -/
def BThread.home (w : BThread) : BThread := { w with at_ := 4, g := 0, gs := false, x := 0, xs := false }
def BSt.walks (R : BSt) (w : BThread) : BThread :=
  let c := (R.sp w.x).now w.xs
  if (if R.kind = 1 then !(R.sp c).leaf else decide ((R.sp c).key < w.okey)) then
    { w with g := w.x, gs := w.xs, x := c, xs := R.sideOf c w.okey }
  else
    { w with c := c, at_ := 5, have_ := 0, want := if w.okind = 2 ∧ (R.sp c).key = w.okey then (if R.kind = 1 then [w.g, w.x] else [w.x, c]) else [w.x] }
/-- The locks go back: of the first n places of a list. -/
def BSt.unown (R : BSt) : List Nat → BSt
  | [] => R
  | k :: r => (R.mapSp k fun x => { x with owner := -1 }).unown r
def BSt.gives (R : BSt) (i : Nat) (w : BThread) : BSt := (R.unown (w.want.take w.have_)).setTh i { w with have_ := 0 }
def BSt.holds (R : BSt) (w : BThread) : Bool :=
  if (R.sp w.x).dead = true ∨ (R.sp w.x).now w.xs ≠ w.c then false
  else if R.kind = 0 then !(R.sp w.c).dead
  else if w.want.length = 1 then true
  else !(R.sp w.g).dead && decide ((R.sp w.g).now w.gs = w.x)

/-! ### What lies in the pools -/
def sideRoom (x : BSpot) (e : Int) : Nat → Int
  | 0 => e
  | 1 => e - (x.st false).length - b2i (x.opn false)
  | _ => e - (x.st false).length - b2i (x.opn false) - (x.st true).length - b2i (x.opn true)
def roomStep (i : Nat) (x : BSpot) (p : Int × Int) : Int × Int :=
  if x.free then p else ((if 1 < i then p.1 - 1 else p.1), sideRoom x p.2 2)
def roomTo (l : List BSpot) (n e : Int) : Nat → Int × Int
  | 0 => (n, e)
  | k + 1 => match l[k]? with
    | some x => roomStep k x (roomTo l n e k)
    | none => roomTo l n e k
def BSt.room (R : BSt) : Int × Int := roomTo R.spots R.nodes R.entries R.spots.length

/-- A new spot (its place is the length so far). -/
def BSt.push (R : BSt) (x : BSpot) : BSt := { R with spots := R.spots ++ [x] }
def leafOf (key value : Int) : BSpot := ⟨-1, true, key, value, fun _ => 0, fun _ => [], fun _ => false, false, -1, -1, false⟩
def nodeOf (key value : Int) (c : Nat) : BSpot := ⟨-1, false, key, value, upd (fun _ => 1) false c, fun _ => [], upd (fun _ => false) false true, false, -1, -1, false⟩
def innerOf (key : Int) (a b : Nat) : BSpot := ⟨-1, false, key, 0, upd (fun _ => b) false a, fun _ => [], fun _ => true, false, -1, -1, false⟩
/-- The nodes that an Insert makes, in a list. -/
def BSt.grownL (R : BSt) (i : Nat) (w : BThread) : BSt :=
  (R.push (nodeOf w.okey w.ovalue w.c)).setTh i { w with new := [R.spots.length], dst := R.spots.length }
def BSt.grownT (R : BSt) (i : Nat) (w : BThread) : BSt :=
  let k := R.spots.length
  let m := if w.okey > (R.sp w.c).key then innerOf w.okey w.c k else innerOf (R.sp w.c).key k w.c
  ((R.push (leafOf w.okey w.ovalue)).push m).setTh i { w with new := [k, k + 1], dst := k + 1 }
def BSt.needs (R : BSt) (w : BThread) : Int × Int := if w.okind = 1 then (if R.kind = 1 then (2, 3) else (1, 2)) else (0, 1)
def BSt.prepares (R : BSt) (i : Nat) (w : BThread) : BSt :=
  if R.room.1 < (R.needs w).1 ∨ R.room.2 < (R.needs w).2 then R.setTh i { w with ans := { err := 7 }, at_ := 12 }
  else
    let w1 := { w with at_ := 8, src := w.x, side := w.xs }
    if w.okind = 1 then
      (if R.kind = 1 then R.grownT i w1 else R.grownL i w1).mapSp w.x fun x => { x with opn := upd x.opn w.xs true }
    else if R.kind = 0 then
      (R.setTh i { w1 with dst := (R.sp w.c).now false }).mapSp w.x fun x => { x with opn := upd x.opn w.xs true }
    else
      (R.setTh i { w1 with src := w.g, side := w.gs, dst := (R.sp w.x).now (!w.xs) }).mapSp w.g fun x => { x with opn := upd x.opn w.gs true }
def BSt.unmake (R : BSt) : List Nat → BSt
  | [] => R
  | k :: r => (R.mapSp k fun x => { x with free := true }).unmake r
def stampOf (c : Int) (x : BSpot) : BSpot :=
  { x with id := c, opn := fun _ => false, st := fun s => if x.opn s then [c] else x.st s }
def BSt.restamp (R : BSt) (c : Int) : List Nat → BSt
  | [] => R
  | k :: r => (R.mapSp k (stampOf c)).restamp c r
def BSt.takes (R : BSt) (i : Nat) (w : BThread) : BSt :=
  if R.clock = R.limit then
    ((R.unmake w.new).mapSp w.src fun x => { x with opn := upd x.opn w.side false }).setTh i { w with ans := { err := 8 }, at_ := 12 }
  else
    (({ R with clock := R.clock + 1, log := R.log ++ [⟨R.clock + 1, w.okey, w.ovalue, decide (w.okind = 1)⟩] } : BSt).restamp (R.clock + 1) w.new).setTh i
      { w with ans := { w.ans with did := true, stamp := R.clock + 1 }, at_ := if w.okind = 1 then 10 else 9 }
/-- Steps 6 to 12. -/
def BSt.turns (R : BSt) (i : Nat) (w : BThread) : BSt :=
  match w.at_ with
  | 6 =>
    if R.holds w then
      R.setTh i (if decide ((R.sp w.c).key = w.okey) = decide (w.okind = 1) then { w with ans := { w.ans with stamp := R.clock }, at_ := 12 } else { w with at_ := 7 })
    else (R.gives i w).setTh i ({ w with have_ := 0 } : BThread).home
  | 7 => R.prepares i w
  | 8 => R.takes i w
  | 9 =>
    let R1 := R.mapSp w.c fun x => { x with dead := true }
    (if R.kind = 1 then R1.mapSp w.x fun x => { x with dead := true } else R1).setTh i { w with ans := { w.ans with value := (R.sp w.c).value }, at_ := 10 }
  | 10 => (R.mapSp w.src fun x => { x with now := upd x.now w.side w.dst }).setTh i { w with at_ := 11 }
  | 11 => (R.mapSp w.src fun x => { x with opn := upd x.opn w.side false, st := upd x.st w.side (x.st w.side ++ [w.ans.stamp]) }).setTh i { w with at_ := 12 }
  | 12 =>
    let R1 := R.unown (w.want.take w.have_)
    let R2 := if w.okind = 2 ∧ w.ans.did = true then
        let R3 := R1.mapSp w.c fun x => { x with out := R.clock }
        if R.kind = 1 then R3.mapSp w.x fun x => { x with out := R.clock } else R3
      else R1
    R2.setTh i { w with have_ := 0, at_ := 13 }
  | _ => R

/-! ### A read's steps -/
def putRow (l : List BRow) (m : BMade) : List BRow :=
  l.filter (fun r => decide (r.key < m.key)) ++ ((if m.put then [⟨m.stamp, m.key, m.value⟩] else []) ++ l.filter (fun r => decide (m.key < r.key)))
def rowsOf (log : List BMade) (t : Int) : List BRow := (log.takeWhile fun m => decide (m.stamp ≤ t)).foldl putRow []
def BSt.waits (R : BSt) (id : Int) (s : Bool) : Bool :=
  match R.spots.find? (fun x => !x.leaf && decide (x.id = id)) with
  | some x => x.opn s
  | none => false
def foundW (w : BThread) (key value : Int) : BThread :=
  if key = w.okey then { w with ans := { w.ans with did := true, value := value } } else w
def hullLo (l : List (Int × Int)) : Int := l.foldl (fun m p => if p.1 < m then p.1 else m) (l.head?.getD (0, 0)).1
def hullHi (l : List (Int × Int)) : Int := l.foldl (fun m p => if p.2 > m then p.2 else m) (l.head?.getD (0, 0)).2
def nextRow (l : List BRow) (k : Int) : BRow := (l.find? (fun r => decide (k < r.key))).getD ⟨-1, keyEnd, 0⟩
def BSt.along (R : BSt) (w : BThread) : BThread :=
  let r := nextRow (rowsOf R.log w.t) w.hkey
  if w.okind = 3 then
    if r.key ≥ w.okey then foundW { w with at_ := 13 } r.key r.value
    else { w with hid := r.id, hside := false, hkey := r.key }
  else if r.key > hullHi w.ospans then { w with at_ := 13 }
  else { w with hid := r.id, hside := false, hkey := r.key, found := if r.key ≥ hullLo w.ospans then w.found ++ [(r.key, r.value)] else w.found }

/-! ### The calls -/
def spansOk : List (Int × Int) → Bool
  | [] => true
  | p :: r => decide (p.1 ≤ p.2) && isIn p.1 0 (2 ^ 40) && isIn p.2 0 (2 ^ 40) && spansOk r
def mayOp (kind key : Int) (spans : List (Int × Int)) : Int :=
  if isIn kind 1 4 then
    if kind < 4 then (if isIn key 0 (2 ^ 40) then 0 else 5)
    else if 1 ≤ spans.length ∧ spans.length ≤ 16 then (if spansOk spans then 0 else 6) else 6
  else 5
def BThread.begun (w : BThread) (kind key value : Int) (spans : List (Int × Int)) : BThread :=
  { BThread.zero with busy := true, at_ := 1, slot := -1, has := w.has, last := w.last, okind := kind, okey := key, ovalue := value, ospans := if kind = 4 then spans else [] }
def BSt.begin (R : BSt) (i kind key value : Int) (spans : List (Int × Int)) : BSt × Int :=
  if isIn i 0 (R.threads - 1) then
    if (R.th i.toNat).busy then (R, 3)
    else if mayOp kind key spans = 0 then (R.setTh i.toNat ((R.th i.toNat).begun kind key value spans), 0) else (R, mayOp kind key spans)
  else (R, 2)
def inSpan (p : Int × Int) (q : Int × Int) : Bool := isIn q.1 p.1 p.2
def spanLists (spans found : List (Int × Int)) : List (List (Int × Int)) := spans.map fun p => found.filter (inSpan p)
def lensOf : List (List (Int × Int)) → Nat
  | [] => 0
  | l :: r => l.length + lensOf r
def BThread.leave (w : BThread) : BThread :=
  let a : BAns := if w.okind = 4 then
      (if lensOf (spanLists w.ospans w.found) > 64 then { err := 9 } else { w.ans with spans := spanLists w.ospans w.found })
    else w.ans
  { w with slot := -1, busy := false, has := true, ans := a, last := a }

/-- A lock that is wanted next: taken, or waited for. -/
def BSt.locks (R : BSt) (i : Nat) (w : BThread) : BSt × Int :=
  let p := w.want[w.have_]?.getD 0
  if 0 ≤ (R.sp p).owner then (R, 2)
  else ((R.mapSp p fun x => { x with owner := i }).setTh i { w with have_ := w.have_ + 1, at_ := if w.have_ + 1 = w.want.length then 6 else w.at_ }, 1)
/-- A read's step in a list. -/
def BSt.seesL (R : BSt) (i : Nat) (w : BThread) : BSt × Int :=
  if R.waits w.hid w.hside then (R, 2) else (R.setTh i (R.along { w with ans := { w.ans with stamp := w.t } }), 1)
/-- One step in a list; how it went. -/
def BSt.stepL (R : BSt) (i : Nat) (w : BThread) : BSt × Int :=
  match w.at_ with
  | 1 => (R.setTh i { w with slot := -2, at_ := 2 }, 1)
  | 2 => (R.setTh i { w with t := R.clock, at_ := 3 }, 1)
  | 3 => (R.setTh i { w with slot := w.t, hid := 0, hside := false, hkey := -1, todo := [(0, false)] }.home, 1)
  | 4 => if 3 ≤ w.okind then R.seesL i w else (R.setTh i (R.walks w), 1)
  | 5 => R.locks i w
  | 13 => (R.setTh i w.leave, 3)
  | _ => (R.turns i w, 1)
end Go.Proofs.Ytfccelbmacjifaa
