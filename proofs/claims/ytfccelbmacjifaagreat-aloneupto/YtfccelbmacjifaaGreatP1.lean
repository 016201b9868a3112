import Derived.Test.YtfccelbmacjifaaGreatP0
namespace Go.Proofs.YtfccelbmacjifaaGreat

/-! ### The program's memory, as plain data -/
structure PNode where
  key : Int
  value : Int
  dead : Bool
  retired : Bool
  retiredAt : Int
  used : Bool
  holder : Int
  links : Nat
  leads : Bool → Int
structure PEntry where
  used : Bool
  pending : Bool
  src : Int
  side : Bool
  dst : Int
  stamp : Int
def PNode.zero : PNode := ⟨0, 0, false, false, 0, false, 0, 0, fun _ => 0⟩
def PEntry.zero : PEntry := ⟨false, false, 0, false, 0, 0⟩
structure PMem where
  ns : List PNode
  es : List PEntry

/-- The place of the first that p holds of; else -1. -/
def find {α : Type} (p : α → Bool) : List α → Nat → Int
  | [], _ => -1
  | x :: r, i => if p x then i else find p r (i + 1)
theorem find_skip {α : Type} (p : α → Bool) : ∀ (l : List α) (i k : Nat), k ≤ l.length → (∀ j, j < k → ∀ x, l[j]? = some x → p x = false) → find p l i = find p (l.drop k) (i + k)
  | l, i, 0, _, _ => by simp
  | [], i, k + 1, h, _ => by simp at h
  | x :: r, i, k + 1, h, hp => by
    have h0 := hp 0 (by omega) x rfl
    rw [find, if_neg (by simp [h0]), find_skip p r (i + 1) k (by simpa using h) (fun j hj y hy => hp (j + 1) (by omega) y (by simpa using hy))]
    simp only [List.drop_succ_cons]; congr 1; omega
theorem find_hit {α : Type} (p : α → Bool) (l : List α) (k : Nat) (x : α) (hx : l[k]? = some x) (hp : ∀ j, j < k → ∀ y, l[j]? = some y → p y = false) (h : p x = true) : find p l 0 = k := by
  have hk := (List.getElem?_eq_some_iff.1 hx).1
  rw [find_skip p l 0 k (by omega) hp, List.drop_eq_getElem_cons hk, find, if_pos (by rw [(List.getElem?_eq_some_iff.1 hx).2]; exact h)]
  simp
theorem find_miss {α : Type} (p : α → Bool) (l : List α) (hp : ∀ j, j < l.length → ∀ y, l[j]? = some y → p y = false) : find p l 0 = -1 := by
  rw [find_skip p l 0 l.length (by omega) hp, List.drop_length, find]
theorem find_bd {α : Type} (p : α → Bool) : ∀ (l : List α) (i : Nat), (find p l i = -1 ∧ ∀ x ∈ l, p x = false) ∨ (∃ k x, l[k]? = some x ∧ p x = true ∧ find p l i = ((i + k : Nat) : Int) ∧ ∀ j, j < k → ∀ y, l[j]? = some y → p y = false)
  | [], i => .inl ⟨rfl, by simp⟩
  | y :: r, i => by
    by_cases h : p y = true
    · right; exact ⟨0, y, rfl, h, by simp [find, h], by omega⟩
    · rw [find, if_neg h]
      rcases find_bd p r (i + 1) with ⟨h1, h2⟩ | ⟨k, x, h1, h2, h3, h4⟩
      · left; exact ⟨h1, by intro x hx; rcases List.mem_cons.1 hx with rfl | hx; simpa using h; exact h2 x hx⟩
      · right
        refine ⟨k + 1, x, by simpa using h1, h2, by rw [h3]; congr 1; omega, ?_⟩
        intro j hj z hz
        cases j with
        | zero => simp at hz; subst hz; simpa using h
        | succ j => exact h4 j (by omega) z (by simpa using hz)

def PMem.hasNode (M : PMem) (i : Int) : Bool := isIn i 0 (M.ns.length - 1)
def PMem.hasEntry (M : PMem) (i : Int) : Bool := isIn i 0 (M.es.length - 1)
def PMem.node (M : PMem) (i : Int) : PNode := if M.hasNode i then M.ns[i.toNat]?.getD PNode.zero else PNode.zero
def PMem.ent (M : PMem) (i : Int) : PEntry := M.es[i.toNat]?.getD PEntry.zero
def PMem.modN (M : PMem) (i : Int) (f : PNode → PNode) : PMem := if M.hasNode i then { M with ns := M.ns.modify i.toNat f } else M
def PMem.setE (M : PMem) (i : Int) (e : PEntry) : PMem := { M with es := M.es.set i.toNat e }
def PMem.freeEntry (M : PMem) : Int := find (fun x => !x.used) M.es 0
def PMem.freeNode (M : PMem) : Int := find (fun x => !x.used) M.ns 0
def isPd (n : Int) (s : Bool) (e : PEntry) : Bool := e.pending && (e.src == n && e.side == s)
def isSt (n : Int) (s : Bool) (e : PEntry) : Bool := e.used && (!e.pending && (e.src == n && e.side == s))
def PMem.pending (M : PMem) (n : Int) (s : Bool) : Int := find (isPd n s) M.es 0
def PMem.hasLink (M : PMem) (n : Int) (s : Bool) : Bool := M.hasNode n && decide (b2i s < (M.node n).links)
def PMem.pend (M : PMem) (n : Int) (s : Bool) (to : Int) : PMem :=
  if M.hasEntry M.freeEntry && M.hasLink n s then M.setE M.freeEntry ⟨true, true, n, s, to, 0⟩ else M
def PMem.unpend (M : PMem) (n : Int) (s : Bool) : PMem :=
  if M.hasEntry (M.pending n s) then M.setE (M.pending n s) PEntry.zero else M
def PMem.stamp (M : PMem) (n : Int) (s : Bool) (st : Int) : PMem :=
  if M.hasEntry (M.pending n s) then M.setE (M.pending n s) { M.ent (M.pending n s) with pending := false, stamp := st } else M
def PMem.stampNew (M : PMem) (n st : Int) : PMem := (M.stamp n false st).stamp n true st
def PMem.hasPending (M : PMem) (n : Int) (s : Bool) : Bool := M.pending n s != -1
/-- One link more. -/
def linked (s : Bool) (to : Int) (x : PNode) : PNode := { x with links := x.links + 1, leads := upd x.leads s to }
def PMem.addLink (M : PMem) (n to : Int) : PMem :=
  if M.hasNode n && M.freeEntry != -1 then
    match (M.node n).links with
    | 0 => (M.modN n (linked false to)).pend n false to
    | 1 => (M.modN n (linked true to)).pend n true to
    | _ => M
  else M
def PNode.made (key value : Int) : PNode := { PNode.zero with key := key, value := value, used := true, holder := -1 }
def PMem.make (M : PMem) (key value : Int) : PMem × Int :=
  if M.hasNode M.freeNode then ({ M with ns := M.ns.set M.freeNode.toNat (PNode.made key value) }, M.freeNode) else (M, -1)
def ofNode (n : Int) (e : PEntry) : Bool := e.used && e.src == n
def PMem.free (M : PMem) (n : Int) : PMem :=
  if M.hasNode n && (n != 0 && n != 1) then { ns := M.ns.set n.toNat PNode.zero, es := M.es.map fun e => if ofNode n e then PEntry.zero else e } else M
def PMem.lock (M : PMem) (n t : Int) : PMem × Bool :=
  if M.hasNode n then
    if (M.node n).holder != -1 && (M.node n).holder != t then (M, false) else (M.modN n fun x => { x with holder := t }, true)
  else (M, false)
def unlocked (t : Int) (x : PNode) : PNode := if x.used && x.holder == t then { x with holder := -1 } else x
def PMem.unlock (M : PMem) (t : Int) : PMem := { M with ns := M.ns.map (unlocked t) }
def PMem.kill (M : PMem) (n : Int) : PMem := M.modN n fun x => { x with dead := true }
def PMem.retire (M : PMem) (n time : Int) : PMem := M.modN n fun x => { x with retired := true, retiredAt := time }
def retiredFrom : List PNode → Nat → List Nat
  | [], _ => []
  | x :: r, i => if x.retired then i :: retiredFrom r (i + 1) else retiredFrom r (i + 1)
def PMem.sideFor (M : PMem) (n key : Int) : Bool := (M.node n).links == 2 && decide ((M.node n).key ≤ key)
def PMem.leadsTo (M : PMem) (n : Int) (s : Bool) : Int := if M.hasLink n s then (M.node n).leads s else -1
def PMem.lead (M : PMem) (n : Int) (s : Bool) : PMem :=
  if M.hasEntry (M.pending n s) && M.hasLink n s then M.modN n fun x => { x with leads := upd x.leads s (M.ent (M.pending n s)).dst } else M
/-- The newest stamp so far up to a time, and where it leads. -/
def ledStep (n : Int) (s : Bool) (time : Int) (p : Int × Int) (e : PEntry) : Int × Int :=
  if isSt n s e && (decide (e.stamp ≤ time) && decide (p.1 < e.stamp)) then (e.stamp, e.dst) else p
def PMem.ledTo (M : PMem) (n : Int) (s : Bool) (time : Int) : Int := (M.es.foldl (ledStep n s time) (-1, 1)).2
def stampAbove (n : Int) (s : Bool) (above time : Int) (e : PEntry) : Bool := isSt n s e && (decide (above < e.stamp) && decide (e.stamp ≤ time))
def dropOne (time : Int) (es : List PEntry) (k : Nat) : List PEntry :=
  match es[k]? with
  | some e => if isSt e.src e.side e && es.any (stampAbove e.src e.side e.stamp time) then es.set k PEntry.zero else es
  | none => es
def dropTo (time : Int) (es : List PEntry) : Nat → List PEntry
  | 0 => es
  | k + 1 => dropOne time (dropTo time es k) k
def PMem.drop (M : PMem) (time : Int) : PMem := { M with es := dropTo time M.es M.es.length }
def count {α : Type} (p : α → Bool) (l : List α) : Nat := (l.filter p).length
def PMem.room (M : PMem) : Int × Int := (count (fun x => !x.used) M.ns, count (fun x => !x.used) M.es)

/-! ### The program's store -/
structure PWork where
  kind : Int
  key : Int
  value : Int
  spans : List (Int × Int)
  next : Nat
  time : Int
  stand : Int
  ahead : Int
  above : Int
  locks : Nat
  made : List Int
  tsrc : Int
  tside : Bool
  links : List (Int × Bool)
  noted : List (Int × Int)
  ans : BAns
def PWork.zero : PWork := ⟨0, 0, 0, [], 0, 0, 0, 0, 0, 0, [], 0, false, [], [], {}⟩
structure PThread where
  slot : Int
  busy : Bool
  work : PWork
  hasEnded : Bool
  last : BAns
def PThread.zero : PThread := ⟨0, false, PWork.zero, false, {}⟩
structure PSweep where
  made : Nat
  clock : Int
  retired : List Nat
  hasTime : Bool
  time : Int
def PSweep.zero : PSweep := ⟨0, 0, [], false, 0⟩
structure PSt where
  kind : Int
  limit : Int
  clock : Int
  mem : PMem
  ts : List PThread
  sweep : PSweep
def PSt.th (P : PSt) (i : Nat) : PThread := P.ts[i]?.getD PThread.zero
def PSt.setW (P : PSt) (i : Nat) (k : PWork) : PSt := { P with ts := P.ts.modify i fun t => { t with work := k } }
def PSt.setT (P : PSt) (i : Nat) (t : PThread) : PSt := { P with ts := P.ts.set i t }
def PSt.setM (P : PSt) (M : PMem) : PSt := { P with mem := M }

def PSt.leadsFrom (P : PSt) (n key : Int) : Int := P.mem.leadsTo n (P.mem.sideFor n key)
def PSt.isPassed (P : PSt) (n key : Int) : Bool := if P.kind = 1 then (P.mem.node n).links == 2 else decide ((P.mem.node n).key < key)
def PSt.meetsKey (P : PSt) (k : PWork) : Bool := (P.mem.node k.ahead).key == k.key
def PSt.takesOut (P : PSt) (k : PWork) : Bool := k.kind == 2 && P.meetsKey k
def PSt.wanted (P : PSt) (k : PWork) : List Int := if P.takesOut k then (if P.kind = 1 then [k.above, k.stand] else [k.stand, k.ahead]) else [k.stand]
def PSt.asFound (P : PSt) (n to key : Int) : Bool := !(P.mem.node n).dead && P.leadsFrom n key == to
def PSt.outdated (P : PSt) (k : PWork) : Bool :=
  if P.asFound k.stand k.ahead k.key then
    if P.kind = 0 then (P.mem.node k.ahead).dead else P.takesOut k && !P.asFound k.above k.stand k.key
  else true
def PSt.needs (P : PSt) (kind : Int) : Int × Int := if kind = 2 then (0, 1) else if P.kind = 1 then (2, 3) else (1, 2)
def PWork.home (k : PWork) : PWork := { k with stand := 0, next := 4 }
def PWork.settle (k : PWork) (a : BAns) : PWork := { k with ans := a, next := 12 }
def PWork.conclude (k : PWork) (a : BAns) : PWork := { k with ans := a, next := 13 }

def PSt.walk (P : PSt) (k : PWork) : PWork :=
  if P.isPassed (P.leadsFrom k.stand k.key) k.key then { k with above := k.stand, stand := P.leadsFrom k.stand k.key }
  else { k with ahead := P.leadsFrom k.stand k.key, next := 5 }
def PSt.lock (P : PSt) (i : Nat) (k : PWork) : PSt × Int :=
  if k.locks < (P.wanted k).length then
    if (P.mem.lock ((P.wanted k)[k.locks]?.getD 0) i).2 then
      ((P.setM (P.mem.lock ((P.wanted k)[k.locks]?.getD 0) i).1).setW i { k with locks := k.locks + 1, next := if (P.wanted k).length ≤ k.locks + 1 then 6 else k.next }, 1)
    else (P, 2)
  else (P.setW i { k with next := 6 }, 1)
def PSt.check (P : PSt) (i : Nat) (k : PWork) : PSt :=
  if P.outdated k then (P.setM (P.mem.unlock i)).setW i ({ k with locks := 0 } : PWork).home
  else if P.meetsKey k == (k.kind == 1) then P.setW i (k.settle { stamp := P.clock })
  else P.setW i { k with next := 7 }
/-- An inner node above two leaves. -/
def PMem.join (M : PMem) (one other : Int) : PMem × Int :=
  let lesser := if (M.node other).key < (M.node one).key then other else one
  let greater := if (M.node other).key < (M.node one).key then one else other
  let p := M.make (M.node greater).key 0
  ((p.1.addLink p.2 lesser).addLink p.2 greater, p.2)
def PSt.prepareInsert (P : PSt) (k : PWork) : PMem × PWork :=
  let p := P.mem.make k.key k.value
  let s := p.1.sideFor k.stand k.key
  if P.kind = 0 then
    (((p.1.addLink p.2 k.ahead).pend k.stand s p.2), { k with made := k.made ++ [p.2], tsrc := k.stand, tside := s })
  else
    let q := p.1.join p.2 k.ahead
    (q.1.pend k.stand s q.2, { k with made := k.made ++ [p.2] ++ [q.2], tsrc := k.stand, tside := s })
def PSt.prepareRemove (P : PSt) (k : PWork) : PMem × PWork :=
  let s := P.mem.sideFor k.stand k.key
  if P.kind = 0 then
    (P.mem.pend k.stand s (P.leadsFrom k.ahead k.key), { k with tsrc := k.stand, tside := s })
  else
    let r := P.mem.sideFor k.above k.key
    (P.mem.pend k.above r (P.mem.leadsTo k.stand (!s)), { k with tsrc := k.above, tside := r })
def PSt.prepare (P : PSt) (i : Nat) (k : PWork) : PSt :=
  if P.mem.room.1 < (P.needs k.kind).1 ∨ P.mem.room.2 < (P.needs k.kind).2 then P.setW i (k.settle { err := 7 })
  else
    let p := if k.kind = 1 then P.prepareInsert k else P.prepareRemove k
    (P.setM p.1).setW i { p.2 with next := 8 }
def PMem.frees (M : PMem) : List Int → PMem
  | [] => M
  | n :: r => (M.free n).frees r
def PMem.stampsNew (M : PMem) (st : Int) : List Int → PMem
  | [] => M
  | n :: r => (M.stampNew n st).stampsNew st r
def PMem.kills (M : PMem) : List Int → PMem
  | [] => M
  | n :: r => (M.kill n).kills r
def PMem.retires (M : PMem) (time : Int) : List Int → PMem
  | [] => M
  | n :: r => (M.retire n time).retires time r
def PSt.take (P : PSt) (i : Nat) (k : PWork) : PSt :=
  if P.limit ≤ P.clock then (P.setM ((P.mem.unpend k.tsrc k.tside).frees k.made)).setW i (k.settle { err := 8 })
  else
    let P1 := { P with clock := P.clock + 1 }
    if k.kind = 2 then P1.setW i { k with ans := { did := true, stamp := P.clock + 1, value := (P.mem.node k.ahead).value }, next := 9 }
    else (P1.setM (P.mem.stampsNew (P.clock + 1) k.made)).setW i { k with ans := { did := true, stamp := P.clock + 1 }, next := 10 }
def PSt.takenOut (P : PSt) (k : PWork) : List Int := if P.kind = 1 then [k.ahead, k.stand] else [k.ahead]
def PSt.unlock (P : PSt) (i : Nat) (k : PWork) : PSt :=
  let M := P.mem.unlock i
  (P.setM (if k.kind = 2 ∧ k.ans.did = true then M.retires P.clock (P.takenOut k) else M)).setW i { k with locks := 0, next := 13 }
/-- A step of an update, from the walk to the unlocking. -/
def PSt.update (P : PSt) (i : Nat) (k : PWork) : PSt × Int :=
  match k.next with
  | 4 => (P.setW i (P.walk k), 1)
  | 5 => P.lock i k
  | 6 => (P.check i k, 1)
  | 7 => (P.prepare i k, 1)
  | 8 => (P.take i k, 1)
  | 9 => ((P.setM (P.mem.kills (P.takenOut k))).setW i { k with next := 10 }, 1)
  | 10 => ((P.setM (P.mem.lead k.tsrc k.tside)).setW i { k with next := 11 }, 1)
  | 11 => ((P.setM (P.mem.stamp k.tsrc k.tside k.ans.stamp)).setW i { k with next := 12 }, 1)
  | 12 => (P.unlock i k, 1)
  | _ => (P, 1)

/-! ### Reads -/
def leastLo (l : List (Int × Int)) : Int := l.foldl (fun m p => if p.1 < m then p.1 else m) (2 ^ 40)
def greatestHi (l : List (Int × Int)) : Int := l.foldl (fun m p => if p.2 > m then p.2 else m) 0
def PSt.linkNext (P : PSt) (k : PWork) : Int × Bool := match k.links with
  | p :: _ => p
  | [] => (k.stand, P.mem.sideFor k.stand k.key)
def PSt.lookUp (P : PSt) (k : PWork) (ahead : Int) : PWork :=
  if P.isPassed ahead k.key then { k with stand := ahead }
  else k.conclude (if (P.mem.node ahead).key = k.key then { stamp := k.time, did := true, value := (P.mem.node ahead).value } else { stamp := k.time })
def PSt.linksWithin (P : PSt) (n lo hi : Int) : List (Int × Bool) :=
  if P.kind = 0 then (if (P.mem.node n).key ≤ hi then [(n, false)] else [])
  else (if (P.mem.node n).links == 2 && decide (lo < (P.mem.node n).key) then [(n, false)] else []) ++ (if (P.mem.node n).links == 2 && decide ((P.mem.node n).key ≤ hi) then [(n, true)] else [])
def answerOf (spans noted : List (Int × Int)) (stamp : Int) : BAns :=
  if lensOf (spanLists spans noted) > 64 then { err := 9 } else { stamp := stamp, spans := spanLists spans noted }
def PSt.scan (P : PSt) (k : PWork) (ahead : Int) : PWork :=
  let lo := leastLo k.spans
  let hi := greatestHi k.spans
  let nd := P.mem.node ahead
  let noted := if !(nd.links == 2) && isIn nd.key lo hi then k.noted ++ [(nd.key, nd.value)] else k.noted
  let links := P.linksWithin ahead lo hi ++ k.links.drop 1
  let k1 := { k with noted := noted, links := links }
  if links.length = 0 then k1.conclude (answerOf k.spans noted k.time) else k1
def PSt.read (P : PSt) (i : Nat) (k : PWork) : PSt × Int :=
  let p := P.linkNext k
  if P.mem.hasPending p.1 p.2 then (P, 2)
  else (P.setW i (if k.kind = 3 then P.lookUp k (P.mem.ledTo p.1 p.2 k.time) else P.scan k (P.mem.ledTo p.1 p.2 k.time)), 1)

/-! ### The calls -/
def PThread.leave (t : PThread) : PThread := { t with slot := 0, last := t.work.ans, hasEnded := true, busy := false, work := PWork.zero }
def PSt.step (P : PSt) (i : Nat) (t : PThread) : PSt × Int :=
  match t.work.next with
  | 1 => (P.setT i { t with slot := 1, work := { t.work with next := 2 } }, 1)
  | 2 => (P.setT i { t with work := { t.work with time := P.clock, next := 3 } }, 1)
  | 3 => (P.setT i { t with slot := 2, work := t.work.home }, 1)
  | 13 => (P.setT i t.leave, 3)
  | _ => if t.work.kind = 3 ∨ t.work.kind = 4 then P.read i t.work else P.update i t.work
def spansOkX : List (Int × Int) → Bool
  | [] => true
  | p :: r => isIn p.1 0 (2 ^ 40) && (isIn p.2 0 (2 ^ 40) && (decide (p.1 ≤ p.2) && spansOkX r))
def checkOp (kind key : Int) (spans : List (Int × Int)) : Int :=
  if kind = 1 ∨ kind = 2 ∨ kind = 3 then (if isIn key 0 (2 ^ 40) then 0 else 5)
  else if kind = 4 then (if isIn spans.length 1 16 && spansOkX spans then 0 else 6)
  else 5
def newWork (kind key value : Int) (spans : List (Int × Int)) : PWork :=
  let k := { PWork.zero with kind := kind, next := 1 }
  if kind = 1 then { k with key := key, value := value }
  else if kind = 2 ∨ kind = 3 then { k with key := key }
  else if kind = 4 then { k with spans := spans, links := [(0, false)] }
  else k
def PSt.begin (P : PSt) (i kind key value : Int) (spans : List (Int × Int)) : PSt × Int :=
  if isIn i 0 (P.ts.length - 1) then
    if (P.th i.toNat).busy then (P, 3)
    else if checkOp kind key spans = 0 then (P.setT i.toNat { P.th i.toNat with busy := true, work := newWork kind key value spans }, 0) else (P, checkOp kind key spans)
  else (P, 2)
def PSweep.lookAt (r : PSweep) (t : PThread) : PSweep :=
  if t.slot = 2 then { r with time := if !r.hasTime || decide (t.work.time < r.time) then t.work.time else r.time, hasTime := true } else r
def PMem.freesIf (M : PMem) (hasTime : Bool) (time : Int) : List Nat → PMem
  | [] => M
  | n :: r => (if !hasTime || decide ((M.node n).retiredAt < time) then M.free n else M).freesIf hasTime time r
def PSt.doSweep (P : PSt) : PSt × Int :=
  let r := P.sweep
  if r.made = 0 then ({ P with sweep := { r with made := 1, clock := P.clock, retired := retiredFrom P.mem.ns 0 } }, 1)
  else if r.made - 1 < P.ts.length then
    if (P.th (r.made - 1)).slot = 1 then (P, 2)
    else ({ P with sweep := { r.lookAt (P.th (r.made - 1)) with made := r.made + 1 } }, 1)
  else if r.made - 1 = P.ts.length then
    ({ P with mem := P.mem.drop (if r.hasTime && decide (r.time < r.clock) then r.time else r.clock), sweep := { r with made := r.made + 1 } }, 1)
  else ({ P with mem := P.mem.freesIf r.hasTime r.time r.retired, sweep := PSweep.zero }, 3)
end Go.Proofs.YtfccelbmacjifaaGreat

set_option linter.unusedSimpArgs false
namespace Go.Proofs.YtfccelbmacjifaaGreat
/-! ### What the calls' contracts want of sizes, kept by every call (a list) -/
def SmallAns (a : BAns) : Prop := a.spans.length ≤ 16 ∧ ∀ l ∈ a.spans, l.length ≤ 64
theorem SmallAns.zero {a : BAns} (h : a.spans = []) : SmallAns a := ⟨by rw [h]; simp, by rw [h]; simp⟩
structure FitK (N : Nat) (k : PWork) : Prop where
  kd : k.kind = 1 ∨ k.kind = 2 ∨ k.kind = 3 ∨ k.kind = 4
  nx : 1 ≤ k.next ∧ k.next ≤ 13
  rd : (k.kind = 3 ∨ k.kind = 4) → k.next ≤ 4 ∨ k.next = 13
  made : k.made.length ≤ 2 ∧ (k.next ≤ 7 → k.made = [])
  locks : k.locks ≤ 2
  links : k.kind = 4 → k.next ≤ 4 → k.links.length = 1
  spans : k.kind = 4 → k.spans.length ≤ 16
  noted : k.noted.length ≤ N
  ans : SmallAns k.ans
abbrev FitT (N : Nat) (t : PThread) : Prop := FitK N t.work
structure Fit (N : Nat) (P : PSt) : Prop where
  kind : P.kind = 0
  clk : 0 ≤ P.clock ∧ P.clock ≤ P.limit
  lim : P.limit ≤ 1099511627776
  thr : 1 ≤ P.ts.length ∧ P.ts.length ≤ 8
  swp : P.sweep.made ≤ P.ts.length + 2 ∧ P.sweep.retired.length ≤ 66
  th : ∀ (i : Nat) t, P.ts[i]? = some t → (t.busy = true → FitT N t) ∧ SmallAns t.last
section
variable {N : Nat} {P : PSt} {i : Nat} {t : PThread}
theorem FitK.mono {N' : Nat} {k : PWork} (h : FitK N k) (hN : N ≤ N') : FitK N' k := ⟨h.kd, h.nx, h.rd, h.made, h.locks, h.links, h.spans, Nat.le_trans h.noted hN, h.ans⟩
theorem Fit.mono {N' : Nat} (h : Fit N P) (hN : N ≤ N') : Fit N' P := ⟨h.kind, h.clk, h.lim, h.thr, h.swp, fun i t ht => ⟨fun hb => ((h.th i t ht).1 hb).mono hN, (h.th i t ht).2⟩⟩
theorem setW_eq (P : PSt) {i : Nat} {t : PThread} (ht : P.ts[i]? = some t) (k : PWork) : P.ts.modify i (fun t => { t with work := k }) = P.ts.set i { t with work := k } := by
  apply List.ext_getElem?
  intro j
  rw [List.getElem?_modify, List.getElem?_set]
  by_cases e : i = j
  · subst e
    obtain ⟨h1, h2⟩ := List.getElem?_eq_some_iff.1 ht
    simp [h1, h2]
  · simp [e]
/-- What a step does to the store, but for the memory. -/
structure Turned (N : Nat) (P : PSt) (i : Nat) (t : PThread) (R : PSt × Int) : Prop where
  to : ∃ M c t', R.1 = { P with mem := M, clock := c, ts := P.ts.set i t' } ∧ (c = P.clock ∨ (c = P.clock + 1 ∧ P.clock < P.limit)) ∧ (t'.busy = true → FitT (N + 1) t') ∧ SmallAns t'.last ∧ t'.busy = (if R.2 = 3 then false else true) ∧ (R.2 ≠ 3 → t'.hasEnded = t.hasEnded ∧ t'.last = t.last)
  how : 1 ≤ R.2 ∧ R.2 ≤ 3
theorem answerOf_small (spans noted : List (Int × Int)) (st : Int) (h : spans.length ≤ 16) : SmallAns (answerOf spans noted st) := by
  unfold answerOf
  split
  · exact SmallAns.zero rfl
  · next hh =>
    refine ⟨by simp [spanLists, h], ?_⟩
    have key : ∀ (ll : List (List (Int × Int))) l, l ∈ ll → l.length ≤ lensOf ll := by
      intro ll
      induction ll with
      | nil => intro l hl; simp at hl
      | cons a r ih =>
        intro l hl
        rw [lensOf]
        rcases List.mem_cons.1 hl with rfl | hl
        · omega
        · have := ih l hl; omega
    intro l hl
    have := key _ l hl
    simp only at this
    omega
theorem Turned.work (ht : P.ts[i]? = some t) (hb : t.busy = true) (hl : SmallAns t.last) {M : PMem} {c : Int} {k : PWork} {n : Int} (hn : n = 1 ∨ n = 2) (hc : c = P.clock ∨ (c = P.clock + 1 ∧ P.clock < P.limit)) (hk : FitT (N + 1) { t with work := k }) :
    Turned N P i t (({ P with mem := M, clock := c } : PSt).setW i k, n) := by
  refine ⟨⟨M, c, { t with work := k }, ?_, hc, fun _ => hk, hl, ?_, fun _ => ⟨rfl, rfl⟩⟩, by show 1 ≤ n ∧ n ≤ 3; omega⟩
  · unfold PSt.setW
    simp only
    rw [setW_eq P ht]
  · rw [if_neg (show ¬ n = 3 by omega)]; exact hb
theorem Turned.same (ht : P.ts[i]? = some t) (hb : t.busy = true) (hl : SmallAns t.last) (hk : FitT N t) {n : Int} (hn : n = 1 ∨ n = 2) : Turned N P i t (P, n) := by
  refine ⟨⟨P.mem, P.clock, t, ?_, .inl rfl, fun _ => hk.mono (Nat.le_succ N), hl, ?_, fun _ => ⟨rfl, rfl⟩⟩, by show 1 ≤ n ∧ n ≤ 3; omega⟩
  · have : P.ts.set i t = P.ts := by
      apply List.ext_getElem?
      intro j
      rw [List.getElem?_set]
      split
      · next e => subst e; split <;> simp_all
      · rfl
    simp only
    rw [this]
  · rw [if_neg (show ¬ n = 3 by omega)]; exact hb
theorem Fit.turn (h : Fit N P) (ht : P.ts[i]? = some t) (hb : t.busy = true) : Turned N P i t (P.step i t) := by
  obtain ⟨hT, hl⟩ := h.th i t ht
  have hT := hT hb
  have hk0 := h.kind
  have hnx := hT.nx
  have m1 := hT.made
  have fit : ∀ k : PWork, k.kind = t.work.kind → (1 ≤ k.next ∧ k.next ≤ 13) → ((k.kind = 3 ∨ k.kind = 4) → k.next ≤ 4 ∨ k.next = 13) → (k.made.length ≤ 2 ∧ (k.next ≤ 7 → k.made = [])) → k.locks ≤ 2 → (k.kind = 4 → k.next ≤ 4 → k.links.length = 1) → k.spans = t.work.spans → k.noted.length ≤ N + 1 → SmallAns k.ans → FitK (N + 1) k := by
    intro k e1 e2 e3 e4 e5 e6 e7 e8 e9
    exact ⟨by show k.kind = 1 ∨ _; rw [e1]; exact hT.kd, e2, e3, e4, e5, e6, fun h4 => by show k.spans.length ≤ 16; rw [e7]; exact hT.spans (e1 ▸ h4), e8, e9⟩
  have hN : t.work.noted.length ≤ N + 1 := Nat.le_trans hT.noted (Nat.le_succ N)
  have sT : ∀ (t' : PThread) n, t'.busy = true → t'.last = t.last → t'.hasEnded = t.hasEnded → FitT (N + 1) t' → (n = 1 ∨ n = 2) → Turned N P i t (P.setT i t', n) := by
    intro t' n hb' hl' he' hf hn
    refine ⟨⟨P.mem, P.clock, t', rfl, .inl rfl, fun _ => hf, hl' ▸ hl, ?_, fun _ => ⟨he', hl'⟩⟩, by show 1 ≤ n ∧ n ≤ 3; omega⟩
    rw [if_neg (show ¬ n = 3 by omega)]; exact hb'
  have hkd := hT.kd
  have upd : ¬ (t.work.kind = 3 ∨ t.work.kind = 4) → ∀ k : PWork, k.kind = t.work.kind → ¬ (k.kind = 3 ∨ k.kind = 4) := fun h1 k e => e ▸ h1
  unfold PSt.step
  split
  · next hn => exact sT _ 1 hb rfl rfl (fit _ rfl (by constructor <;> (simp only; omega)) (fun hr => .inl (by simp only; omega)) ⟨m1.1, fun _ => m1.2 (by omega)⟩ hT.locks (fun h4 _ => hT.links h4 (by omega)) rfl hN hT.ans) (.inl rfl)
  · next hn => exact sT _ 1 hb rfl rfl (fit _ rfl (by constructor <;> (simp only; omega)) (fun hr => .inl (by simp only; omega)) ⟨m1.1, fun _ => m1.2 (by omega)⟩ hT.locks (fun h4 _ => hT.links h4 (by omega)) rfl hN hT.ans) (.inl rfl)
  · next hn => exact sT _ 1 hb rfl rfl (fit t.work.home rfl (by simp [PWork.home]) (fun hr => .inl (by simp [PWork.home])) ⟨m1.1, fun _ => m1.2 (by omega)⟩ hT.locks (fun h4 _ => hT.links h4 (by omega)) rfl hN hT.ans) (.inl rfl)
  · next hn =>
    refine ⟨⟨P.mem, P.clock, t.leave, rfl, .inl rfl, fun hh => ?_, hT.ans, ?_, fun hh => absurd rfl hh⟩, by show (1 : Int) ≤ 3 ∧ (3 : Int) ≤ 3; decide⟩
    · simp [PThread.leave] at hh
    · simp [PThread.leave]
  · next n1 n2 n3 n13 =>
    have n1' : t.work.next ≠ 1 := n1
    have n2' : t.work.next ≠ 2 := n2
    have n3' : t.work.next ≠ 3 := n3
    have n13' : t.work.next ≠ 13 := n13
    split
    · next hr =>
      -- a read
      have hn4 : t.work.next = 4 := by have := hT.rd hr; omega
      unfold PSt.read
      simp only
      split
      · exact Turned.same ht hb hl hT (.inr rfl)
      · have goal : ∀ k : PWork, FitT (N + 1) { t with work := k } → Turned N P i t (P.setW i k, 1) := fun k hk => Turned.work (M := P.mem) (c := P.clock) ht hb hl (.inl rfl) (.inl rfl) hk
        by_cases h3 : t.work.kind = 3
        · rw [if_pos h3]
          apply goal
          unfold PSt.lookUp
          split
          · exact fit _ rfl (by simp only; omega) (fun _ => .inl (by simp only; omega)) ⟨m1.1, fun _ => m1.2 (by omega)⟩ hT.locks (fun h4 => by have : t.work.kind = 4 := h4; omega) rfl hN hT.ans
          · refine fit _ rfl (by simp [PWork.conclude]) (fun _ => .inr rfl) ⟨m1.1, fun hh => by simp [PWork.conclude] at hh⟩ hT.locks (fun h4 => absurd h4 (by simp [PWork.conclude, h3])) rfl hN ?_
            simp only [PWork.conclude]
            split <;> exact SmallAns.zero rfl
        · have h4 : t.work.kind = 4 := by omega
          rw [if_neg h3]
          apply goal
          have hlk := hT.links h4 (by omega)
          have hsp := hT.spans h4
          unfold PSt.scan
          simp only
          have hno : ∀ (b : Bool) (q : Int × Int), (if b = true then t.work.noted ++ [q] else t.work.noted).length ≤ N + 1 := by
            intro b q
            have := hT.noted
            split
            · rw [List.length_append]; simp; omega
            · omega
          split
          · exact fit _ rfl (by simp [PWork.conclude]) (fun _ => .inr rfl) ⟨m1.1, fun hh => by simp [PWork.conclude] at hh⟩ hT.locks (fun _ hh => by simp [PWork.conclude] at hh) rfl (hno _ _) (answerOf_small _ _ _ hsp)
          · next hne =>
            refine fit _ rfl (by simp [hn4]) (fun _ => .inl (by simp [hn4])) ⟨m1.1, fun _ => m1.2 (by omega)⟩ hT.locks (fun _ _ => ?_) rfl (hno _ _) hT.ans
            simp only [List.length_append, List.length_drop, hlk] at hne ⊢
            unfold PSt.linksWithin at hne ⊢
            rw [if_pos hk0] at hne ⊢
            split
            · rfl
            · next hh => rw [if_neg hh] at hne; simp at hne
    · next hr =>
      -- an update
      have hnr : ∀ k : PWork, k.kind = t.work.kind → ¬ (k.kind = 3 ∨ k.kind = 4) := upd hr
      have n4 : ∀ k : PWork, k.kind = t.work.kind → ¬ k.kind = 4 := fun k e h4 => hnr k e (.inr h4)
      have go : ∀ (M : PMem) (c : Int) (k : PWork), (c = P.clock ∨ (c = P.clock + 1 ∧ P.clock < P.limit)) → k.kind = t.work.kind → (1 ≤ k.next ∧ k.next ≤ 13) → (k.made.length ≤ 2 ∧ (k.next ≤ 7 → k.made = [])) → k.locks ≤ 2 → k.spans = t.work.spans → k.noted = t.work.noted → SmallAns k.ans → Turned N P i t (({ P with mem := M, clock := c } : PSt).setW i k, 1) := by
        intro M c k hc e1 e2 e3 e4 e5 e6 e7
        exact Turned.work ht hb hl (.inl rfl) hc (fit k e1 e2 (fun hh => absurd hh (hnr k e1)) e3 e4 (fun hh => absurd hh (n4 k e1)) e5 (e6 ▸ hN) e7)
      unfold PSt.update
      split
      · next hn =>
        refine go P.mem P.clock _ (.inl rfl) ?_ ?_ ?_ ?_ ?_ ?_ ?_ <;> unfold PSt.walk <;> split
        all_goals first | rfl | exact hT.ans | exact hT.locks | (simp only; omega) | exact ⟨m1.1, fun _ => m1.2 (by omega)⟩
      · next hn =>
        unfold PSt.lock
        split
        · next hlt =>
          have hwl : (P.wanted t.work).length ≤ 2 := by
            unfold PSt.wanted
            split
            · split <;> simp
            · simp
          split
          · refine go _ P.clock _ (.inl rfl) rfl ?_ ⟨m1.1, fun _ => m1.2 (by omega)⟩ (by simp only; omega) rfl rfl hT.ans
            simp only
            split <;> omega
          · exact Turned.same ht hb hl hT (.inr rfl)
        · exact go P.mem P.clock _ (.inl rfl) rfl (by simp) ⟨m1.1, fun _ => m1.2 (by omega)⟩ hT.locks rfl rfl hT.ans
      · next hn =>
        unfold PSt.check
        split
        · exact go _ P.clock _ (.inl rfl) rfl (by simp [PWork.home]) ⟨m1.1, fun _ => m1.2 (by omega)⟩ (by simp [PWork.home]) rfl rfl hT.ans
        · split
          · exact go P.mem P.clock _ (.inl rfl) rfl (by simp [PWork.settle]) ⟨m1.1, fun hh => by simp [PWork.settle] at hh⟩ hT.locks rfl rfl (SmallAns.zero rfl)
          · exact go P.mem P.clock _ (.inl rfl) rfl (by simp) ⟨m1.1, fun _ => m1.2 (by omega)⟩ hT.locks rfl rfl hT.ans
      · next hn =>
        have hm0 := m1.2 (by omega)
        unfold PSt.prepare
        split
        · exact go P.mem P.clock _ (.inl rfl) rfl (by simp [PWork.settle]) ⟨m1.1, fun hh => by simp [PWork.settle] at hh⟩ hT.locks rfl rfl (SmallAns.zero rfl)
        · refine go _ P.clock _ (.inl rfl) ?_ (by simp) ?_ ?_ ?_ ?_ ?_ <;> by_cases h1 : t.work.kind = 1 <;> simp only [h1, if_true, if_false] <;> first | (unfold PSt.prepareInsert; simp only [hk0, if_true, hm0]) | (unfold PSt.prepareRemove; simp only [hk0, if_true, hm0])
          all_goals first | rfl | exact hT.ans | exact hT.locks | exact h1 | (constructor <;> simp)
      · next hn =>
        unfold PSt.take
        split
        · exact go _ P.clock _ (.inl rfl) rfl (by simp [PWork.settle]) ⟨m1.1, fun hh => by simp [PWork.settle] at hh⟩ hT.locks rfl rfl (SmallAns.zero rfl)
        · next hlim =>
          have hc : P.clock + 1 = P.clock ∨ (P.clock + 1 = P.clock + 1 ∧ P.clock < P.limit) := .inr ⟨rfl, by omega⟩
          simp only
          split
          · exact go P.mem (P.clock + 1) _ hc rfl (by simp) ⟨m1.1, fun hh => by simp at hh⟩ hT.locks rfl rfl (SmallAns.zero rfl)
          · exact go _ (P.clock + 1) _ hc rfl (by simp) ⟨m1.1, fun hh => by simp at hh⟩ hT.locks rfl rfl (SmallAns.zero rfl)
      · exact go _ P.clock _ (.inl rfl) rfl (by simp) ⟨m1.1, fun hh => by simp at hh⟩ hT.locks rfl rfl hT.ans
      · exact go _ P.clock _ (.inl rfl) rfl (by simp) ⟨m1.1, fun hh => by simp at hh⟩ hT.locks rfl rfl hT.ans
      · exact go _ P.clock _ (.inl rfl) rfl (by simp) ⟨m1.1, fun hh => by simp at hh⟩ hT.locks rfl rfl hT.ans
      · exact go _ P.clock _ (.inl rfl) rfl (by simp) ⟨m1.1, fun hh => by simp at hh⟩ (by simp) rfl rfl hT.ans
      · exact Turned.same ht hb hl hT (.inl rfl)
theorem Fit.of (h : Fit N P) (hi : i < P.ts.length) {M : PMem} {c : Int} {t' : PThread} (hc : c = P.clock ∨ (c = P.clock + 1 ∧ P.clock < P.limit)) (h1 : t'.busy = true → FitT (N + 1) t') (h2 : SmallAns t'.last) : Fit (N + 1) { P with mem := M, clock := c, ts := P.ts.set i t' } := by
  refine ⟨h.kind, ?_, h.lim, by simpa using h.thr, by simpa using h.swp, ?_⟩
  · have := h.clk
    show 0 ≤ c ∧ c ≤ P.limit
    omega
  · intro j u hu
    simp only [List.getElem?_set] at hu
    by_cases e : i = j
    · rw [if_pos e, if_pos hi] at hu
      obtain rfl := Option.some.inj hu
      exact ⟨h1, h2⟩
    · rw [if_neg e] at hu
      exact ⟨fun hb => ((h.th j u hu).1 hb).mono (Nat.le_succ N), (h.th j u hu).2⟩
theorem Fit.step (h : Fit N P) (ht : P.ts[i]? = some t) (hb : t.busy = true) : Fit (N + 1) (P.step i t).1 := by
  obtain ⟨M, c, t', e, hc, h1, h2, _⟩ := (h.turn ht hb).to
  rw [e]
  exact h.of (List.getElem?_eq_some_iff.1 ht).1 hc h1 h2
theorem Fit.begin (h : Fit N P) (i kind key value : Int) (spans : List (Int × Int)) : Fit N (P.begin i kind key value spans).1 := by
  unfold PSt.begin
  split
  · next hI =>
    have hb := isIn_iff.1 hI
    split
    · exact h
    · split
      · next hk =>
        obtain ⟨j, rfl⟩ := Int.eq_ofNat_of_zero_le hb.1
        have hj : j < P.ts.length := by omega
        have ht : P.ts[j]? = some (P.th j) := by simp [PSt.th, List.getElem?_eq_getElem hj]
        refine ⟨h.kind, h.clk, h.lim, by simpa [PSt.setT] using h.thr, by simpa [PSt.setT] using h.swp, ?_⟩
        intro q u hu
        simp only [PSt.setT, Int.toNat_natCast, List.getElem?_set] at hu
        by_cases e : j = q
        · rw [if_pos e, if_pos hj] at hu
          obtain rfl := Option.some.inj hu
          refine ⟨fun _ => ?_, (h.th j _ ht).2⟩
          unfold checkOp at hk
          have hkd : kind = 1 ∨ kind = 2 ∨ kind = 3 ∨ kind = 4 := by
            by_cases h1 : kind = 1 ∨ kind = 2 ∨ kind = 3
            · omega
            · rw [if_neg h1] at hk
              by_cases h4 : kind = 4
              · omega
              · rw [if_neg h4] at hk; cases hk
          have hsp : kind = 4 → spans.length ≤ 16 := by
            intro h4
            rw [if_neg (by omega), if_pos h4] at hk
            split at hk
            · next hh =>
              simp only [Bool.and_eq_true] at hh
              have := isIn_iff.1 hh.1
              omega
            · cases hk
          have hnw : (newWork kind key value spans).kind = kind ∧ (newWork kind key value spans).next = 1 ∧ (newWork kind key value spans).made = [] ∧ (newWork kind key value spans).locks = 0 ∧ (kind = 4 → (newWork kind key value spans).links.length = 1 ∧ (newWork kind key value spans).spans = spans) ∧ (newWork kind key value spans).noted = [] ∧ (newWork kind key value spans).ans.spans = [] := by
            unfold newWork
            simp only
            rcases hkd with rfl | rfl | rfl | rfl <;> simp [PWork.zero]
          obtain ⟨a1, a2, a3, a4, a5, a6, a7⟩ := hnw
          refine ⟨by show (newWork kind key value spans).kind = 1 ∨ _; rw [a1]; exact hkd, by show 1 ≤ (newWork kind key value spans).next ∧ _; rw [a2]; decide, fun _ => .inl (by show (newWork kind key value spans).next ≤ 4; rw [a2]; decide), ⟨by show (newWork kind key value spans).made.length ≤ 2; rw [a3]; simp, fun _ => a3⟩, by show (newWork kind key value spans).locks ≤ 2; rw [a4]; decide, fun h4 _ => (a5 (a1 ▸ h4)).1, fun h4 => by show (newWork kind key value spans).spans.length ≤ 16; rw [(a5 (a1 ▸ h4)).2]; exact hsp (a1 ▸ h4), by show (newWork kind key value spans).noted.length ≤ N; rw [a6]; simp, SmallAns.zero a7⟩
        · rw [if_neg e] at hu
          exact h.th q u hu
      · exact h
  · exact h
theorem retired_le : ∀ (l : List PNode) (i : Nat), (retiredFrom l i).length ≤ l.length
  | [], _ => Nat.le_refl _
  | x :: r, i => by
    rw [retiredFrom]
    have := retired_le r (i + 1)
    split <;> simp <;> omega
theorem Fit.sweep (h : Fit N P) (hn : P.mem.ns.length ≤ 66) : Fit N P.doSweep.1 ∧ 1 ≤ P.doSweep.2 ∧ P.doSweep.2 ≤ 3 := by
  have hs := h.swp
  unfold PSt.doSweep
  simp only
  split
  · refine ⟨⟨h.kind, h.clk, h.lim, h.thr, ⟨?_, ?_⟩, h.th⟩, by simp, by simp⟩
    · show 1 ≤ _; omega
    · exact Nat.le_trans (retired_le _ _) hn
  · split
    · split
      · exact ⟨h, by simp, by simp⟩
      · refine ⟨⟨h.kind, h.clk, h.lim, h.thr, ⟨?_, ?_⟩, h.th⟩, by simp, by simp⟩
        · show P.sweep.made + 1 ≤ _; simp only; omega
        · show (PSweep.lookAt _ _).retired.length ≤ 66
          unfold PSweep.lookAt
          split <;> exact hs.2
    · split
      · refine ⟨⟨h.kind, h.clk, h.lim, h.thr, ⟨?_, hs.2⟩, h.th⟩, by simp, by simp⟩
        show P.sweep.made + 1 ≤ P.ts.length + 2; omega
      · exact ⟨⟨h.kind, h.clk, h.lim, h.thr, ⟨by show 0 ≤ _; omega, by simp [PSweep.zero]⟩, h.th⟩, by simp, by simp⟩
end
end Go.Proofs.YtfccelbmacjifaaGreat

