import Derived.Test.YtfccelbmacjifaaGreatP0
namespace Go.Proofs.YtfccelbmacjifaaGreat

/-! ### The program's memory, as plain data -/
structure PNode where
  key : Int
  value : Int
  dead : Bool
  retired : Bool
  retiredAt : Int
  used : Bool
  holder : Int
  links : Nat
  leads : Bool → Int
structure PEntry where
  used : Bool
  pending : Bool
  src : Int
  side : Bool
  dst : Int
  stamp : Int
def PNode.zero : PNode := ⟨0, 0, false, false, 0, false, 0, 0, fun _ => 0⟩
def PEntry.zero : PEntry := ⟨false, false, 0, false, 0, 0⟩
structure PMem where
  ns : List PNode
  es : List PEntry

/-- The place of the first that p holds of; else -1. -/
def find {α : Type} (p : α → Bool) : List α → Nat → Int
  | [], _ => -1
  | x :: r, i => if p x then i else find p r (i + 1)
theorem find_skip {α : Type} (p : α → Bool) : ∀ (l : List α) (i k : Nat), k ≤ l.length → (∀ j, j < k → ∀ x, l[j]? = some x → p x = false) → find p l i = find p (l.drop k) (i + k)
  | l, i, 0, _, _ => by simp
  | [], i, k + 1, h, _ => by simp at h
  | x :: r, i, k + 1, h, hp => by
    have h0 := hp 0 (by omega) x rfl
    rw [find, if_neg (by simp [h0]), find_skip p r (i + 1) k (by simpa using h) (fun j hj y hy => hp (j + 1) (by omega) y (by simpa using hy))]
    simp only [List.drop_succ_cons]; congr 1; omega
theorem find_hit {α : Type} (p : α → Bool) (l : List α) (k : Nat) (x : α) (hx : l[k]? = some x) (hp : ∀ j, j < k → ∀ y, l[j]? = some y → p y = false) (h : p x = true) : find p l 0 = k := by
  have hk := (List.getElem?_eq_some_iff.1 hx).1
  rw [find_skip p l 0 k (by omega) hp, List.drop_eq_getElem_cons hk, find, if_pos (by rw [(List.getElem?_eq_some_iff.1 hx).2]; exact h)]
  simp
theorem find_miss {α : Type} (p : α → Bool) (l : List α) (hp : ∀ j, j < l.length → ∀ y, l[j]? = some y → p y = false) : find p l 0 = -1 := by
  rw [find_skip p l 0 l.length (by omega) hp, List.drop_length, find]
theorem find_bd {α : Type} (p : α → Bool) : ∀ (l : List α) (i : Nat), (find p l i = -1 ∧ ∀ x ∈ l, p x = false) ∨ (∃ k x, l[k]? = some x ∧ p x = true ∧ find p l i = ((i + k : Nat) : Int) ∧ ∀ j, j < k → ∀ y, l[j]? = some y → p y = false)
  | [], i => .inl ⟨rfl, by simp⟩
  | y :: r, i => by
    by_cases h : p y = true
    · right; exact ⟨0, y, rfl, h, by simp [find, h], by omega⟩
    · rw [find, if_neg h]
      rcases find_bd p r (i + 1) with ⟨h1, h2⟩ | ⟨k, x, h1, h2, h3, h4⟩
      · left; exact ⟨h1, by intro x hx; rcases List.mem_cons.1 hx with rfl | hx; simpa using h; exact h2 x hx⟩
      · right
        refine ⟨k + 1, x, by simpa using h1, h2, by rw [h3]; congr 1; omega, ?_⟩
        intro j hj z hz
        cases j with
        | zero => simp at hz; subst hz; simpa using h
        | succ j => exact h4 j (by omega) z (by simpa using hz)

def PMem.hasNode (M : PMem) (i : Int) : Bool := isIn i 0 (M.ns.length - 1)
def PMem.hasEntry (M : PMem) (i : Int) : Bool := isIn i 0 (M.es.length - 1)
def PMem.node (M : PMem) (i : Int) : PNode := if M.hasNode i then M.ns[i.toNat]?.getD PNode.zero else PNode.zero
def PMem.ent (M : PMem) (i : Int) : PEntry := M.es[i.toNat]?.getD PEntry.zero
def PMem.modN (M : PMem) (i : Int) (f : PNode → PNode) : PMem := if M.hasNode i then { M with ns := M.ns.modify i.toNat f } else M
def PMem.setE (M : PMem) (i : Int) (e : PEntry) : PMem := { M with es := M.es.set i.toNat e }
def PMem.freeEntry (M : PMem) : Int := find (fun x => !x.used) M.es 0
def PMem.freeNode (M : PMem) : Int := find (fun x => !x.used) M.ns 0
def isPd (n : Int) (s : Bool) (e : PEntry) : Bool := e.pending && (e.src == n && e.side == s)
def isSt (n : Int) (s : Bool) (e : PEntry) : Bool := e.used && (!e.pending && (e.src == n && e.side == s))
def PMem.pending (M : PMem) (n : Int) (s : Bool) : Int := find (isPd n s) M.es 0
def PMem.hasLink (M : PMem) (n : Int) (s : Bool) : Bool := M.hasNode n && decide (b2i s < (M.node n).links)
def PMem.pend (M : PMem) (n : Int) (s : Bool) (to : Int) : PMem :=
  if M.hasEntry M.freeEntry && M.hasLink n s then M.setE M.freeEntry ⟨true, true, n, s, to, 0⟩ else M
def PMem.unpend (M : PMem) (n : Int) (s : Bool) : PMem :=
  if M.hasEntry (M.pending n s) then M.setE (M.pending n s) PEntry.zero else M
def PMem.stamp (M : PMem) (n : Int) (s : Bool) (st : Int) : PMem :=
  if M.hasEntry (M.pending n s) then M.setE (M.pending n s) { M.ent (M.pending n s) with pending := false, stamp := st } else M
def PMem.stampNew (M : PMem) (n st : Int) : PMem := (M.stamp n false st).stamp n true st
def PMem.hasPending (M : PMem) (n : Int) (s : Bool) : Bool := M.pending n s != -1
/-- One link more. -/
def linked (s : Bool) (to : Int) (x : PNode) : PNode := { x with links := x.links + 1, leads := upd x.leads s to }
def PMem.addLink (M : PMem) (n to : Int) : PMem :=
  if M.hasNode n && M.freeEntry != -1 then
    match (M.node n).links with
    | 0 => (M.modN n (linked false to)).pend n false to
    | 1 => (M.modN n (linked true to)).pend n true to
    | _ => M
  else M
def PNode.made (key value : Int) : PNode := { PNode.zero with key := key, value := value, used := true, holder := -1 }
def PMem.make (M : PMem) (key value : Int) : PMem × Int :=
  if M.hasNode M.freeNode then ({ M with ns := M.ns.set M.freeNode.toNat (PNode.made key value) }, M.freeNode) else (M, -1)
def ofNode (n : Int) (e : PEntry) : Bool := e.used && e.src == n
def PMem.free (M : PMem) (n : Int) : PMem :=
  if M.hasNode n && (n != 0 && n != 1) then { ns := M.ns.set n.toNat PNode.zero, es := M.es.map fun e => if ofNode n e then PEntry.zero else e } else M
def PMem.lock (M : PMem) (n t : Int) : PMem × Bool :=
  if M.hasNode n then
    if (M.node n).holder != -1 && (M.node n).holder != t then (M, false) else (M.modN n fun x => { x with holder := t }, true)
  else (M, false)
def unlocked (t : Int) (x : PNode) : PNode := if x.used && x.holder == t then { x with holder := -1 } else x
def PMem.unlock (M : PMem) (t : Int) : PMem := { M with ns := M.ns.map (unlocked t) }
def PMem.kill (M : PMem) (n : Int) : PMem := M.modN n fun x => { x with dead := true }
def PMem.retire (M : PMem) (n time : Int) : PMem := M.modN n fun x => { x with retired := true, retiredAt := time }
def retiredFrom : List PNode → Nat → List Nat
  | [], _ => []
  | x :: r, i => if x.retired then i :: retiredFrom r (i + 1) else retiredFrom r (i + 1)
def PMem.sideFor (M : PMem) (n key : Int) : Bool := (M.node n).links == 2 && decide ((M.node n).key ≤ key)
def PMem.leadsTo (M : PMem) (n : Int) (s : Bool) : Int := if M.hasLink n s then (M.node n).leads s else -1
def PMem.lead (M : PMem) (n : Int) (s : Bool) : PMem :=
  if M.hasEntry (M.pending n s) && M.hasLink n s then M.modN n fun x => { x with leads := upd x.leads s (M.ent (M.pending n s)).dst } else M
/-- The newest stamp so far up to a time, and where it leads. -/
def ledStep (n : Int) (s : Bool) (time : Int) (p : Int × Int) (e : PEntry) : Int × Int :=
  if isSt n s e && (decide (e.stamp ≤ time) && decide (p.1 < e.stamp)) then (e.stamp, e.dst) else p
def PMem.ledTo (M : PMem) (n : Int) (s : Bool) (time : Int) : Int := (M.es.foldl (ledStep n s time) (-1, 1)).2
def stampAbove (n : Int) (s : Bool) (above time : Int) (e : PEntry) : Bool := isSt n s e && (decide (above < e.stamp) && decide (e.stamp ≤ time))
def dropOne (time : Int) (es : List PEntry) (k : Nat) : List PEntry :=
  match es[k]? with
  | some e => if isSt e.src e.side e && es.any (stampAbove e.src e.side e.stamp time) then es.set k PEntry.zero else es
  | none => es
def dropTo (time : Int) (es : List PEntry) : Nat → List PEntry
  | 0 => es
  | k + 1 => dropOne time (dropTo time es k) k
def PMem.drop (M : PMem) (time : Int) : PMem := { M with es := dropTo time M.es M.es.length }
def count {α : Type} (p : α → Bool) (l : List α) : Nat := (l.filter p).length
def PMem.room (M : PMem) : Int × Int := (count (fun x => !x.used) M.ns, count (fun x => !x.used) M.es)

/-! ### The program's store -/
structure PWork where
  kind : Int
  key : Int
  value : Int
  spans : List (Int × Int)
  next : Nat
  time : Int
  stand : Int
  ahead : Int
  above : Int
  locks : Nat
  made : List Int
  tsrc : Int
  tside : Bool
  links : List (Int × Bool)
  noted : List (Int × Int)
  ans : BAns
def PWork.zero : PWork := ⟨0, 0, 0, [], 0, 0, 0, 0, 0, 0, [], 0, false, [], [], {}⟩
structure PThread where
  slot : Int
  busy : Bool
  work : PWork
  hasEnded : Bool
  last : BAns
def PThread.zero : PThread := ⟨0, false, PWork.zero, false, {}⟩
structure PSweep where
  made : Nat
  clock : Int
  retired : List Nat
  hasTime : Bool
  time : Int
def PSweep.zero : PSweep := ⟨0, 0, [], false, 0⟩
structure PSt where
  kind : Int
  limit : Int
  clock : Int
  mem : PMem
  ts : List PThread
  sweep : PSweep
def PSt.th (P : PSt) (i : Nat) : PThread := P.ts[i]?.getD PThread.zero
def PSt.setW (P : PSt) (i : Nat) (k : PWork) : PSt := { P with ts := P.ts.modify i fun t => { t with work := k } }
def PSt.setT (P : PSt) (i : Nat) (t : PThread) : PSt := { P with ts := P.ts.set i t }
def PSt.setM (P : PSt) (M : PMem) : PSt := { P with mem := M }

def PSt.leadsFrom (P : PSt) (n key : Int) : Int := P.mem.leadsTo n (P.mem.sideFor n key)
def PSt.isPassed (P : PSt) (n key : Int) : Bool := if P.kind = 1 then (P.mem.node n).links == 2 else decide ((P.mem.node n).key < key)
def PSt.meetsKey (P : PSt) (k : PWork) : Bool := (P.mem.node k.ahead).key == k.key
def PSt.takesOut (P : PSt) (k : PWork) : Bool := k.kind == 2 && P.meetsKey k
def PSt.wanted (P : PSt) (k : PWork) : List Int := if P.takesOut k then (if P.kind = 1 then [k.above, k.stand] else [k.stand, k.ahead]) else [k.stand]
def PSt.asFound (P : PSt) (n to key : Int) : Bool := !(P.mem.node n).dead && P.leadsFrom n key == to
def PSt.outdated (P : PSt) (k : PWork) : Bool :=
  if P.asFound k.stand k.ahead k.key then
    if P.kind = 0 then (P.mem.node k.ahead).dead else P.takesOut k && !P.asFound k.above k.stand k.key
  else true
def PSt.needs (P : PSt) (kind : Int) : Int × Int := if kind = 2 then (0, 1) else if P.kind = 1 then (2, 3) else (1, 2)
def PWork.home (k : PWork) : PWork := { k with stand := 0, next := 4 }
def PWork.settle (k : PWork) (a : BAns) : PWork := { k with ans := a, next := 12 }
def PWork.conclude (k : PWork) (a : BAns) : PWork := { k with ans := a, next := 13 }

def PSt.walk (P : PSt) (k : PWork) : PWork :=
  if P.isPassed (P.leadsFrom k.stand k.key) k.key then { k with above := k.stand, stand := P.leadsFrom k.stand k.key }
  else { k with ahead := P.leadsFrom k.stand k.key, next := 5 }
def PSt.lock (P : PSt) (i : Nat) (k : PWork) : PSt × Int :=
  if k.locks < (P.wanted k).length then
    if (P.mem.lock ((P.wanted k)[k.locks]?.getD 0) i).2 then
      ((P.setM (P.mem.lock ((P.wanted k)[k.locks]?.getD 0) i).1).setW i { k with locks := k.locks + 1, next := if (P.wanted k).length ≤ k.locks + 1 then 6 else k.next }, 1)
    else (P, 2)
  else (P.setW i { k with next := 6 }, 1)
def PSt.check (P : PSt) (i : Nat) (k : PWork) : PSt :=
  if P.outdated k then (P.setM (P.mem.unlock i)).setW i ({ k with locks := 0 } : PWork).home
  else if P.meetsKey k == (k.kind == 1) then P.setW i (k.settle { stamp := P.clock })
  else P.setW i { k with next := 7 }
/-- An inner node above two leaves. -/
def PMem.join (M : PMem) (one other : Int) : PMem × Int :=
  let lesser := if (M.node other).key < (M.node one).key then other else one
  let greater := if (M.node other).key < (M.node one).key then one else other
  let p := M.make (M.node greater).key 0
  ((p.1.addLink p.2 lesser).addLink p.2 greater, p.2)
def PSt.prepareInsert (P : PSt) (k : PWork) : PMem × PWork :=
  let p := P.mem.make k.key k.value
  let s := p.1.sideFor k.stand k.key
  if P.kind = 0 then
    (((p.1.addLink p.2 k.ahead).pend k.stand s p.2), { k with made := k.made ++ [p.2], tsrc := k.stand, tside := s })
  else
    let q := p.1.join p.2 k.ahead
    (q.1.pend k.stand s q.2, { k with made := k.made ++ [p.2] ++ [q.2], tsrc := k.stand, tside := s })
def PSt.prepareRemove (P : PSt) (k : PWork) : PMem × PWork :=
  let s := P.mem.sideFor k.stand k.key
  if P.kind = 0 then
    (P.mem.pend k.stand s (P.leadsFrom k.ahead k.key), { k with tsrc := k.stand, tside := s })
  else
    let r := P.mem.sideFor k.above k.key
    (P.mem.pend k.above r (P.mem.leadsTo k.stand (!s)), { k with tsrc := k.above, tside := r })
def PSt.prepare (P : PSt) (i : Nat) (k : PWork) : PSt :=
  if P.mem.room.1 < (P.needs k.kind).1 ∨ P.mem.room.2 < (P.needs k.kind).2 then P.setW i (k.settle { err := 7 })
  else
    let p := if k.kind = 1 then P.prepareInsert k else P.prepareRemove k
    (P.setM p.1).setW i { p.2 with next := 8 }
def PMem.frees (M : PMem) : List Int → PMem
  | [] => M
  | n :: r => (M.free n).frees r
def PMem.stampsNew (M : PMem) (st : Int) : List Int → PMem
  | [] => M
  | n :: r => (M.stampNew n st).stampsNew st r
def PMem.kills (M : PMem) : List Int → PMem
  | [] => M
  | n :: r => (M.kill n).kills r
def PMem.retires (M : PMem) (time : Int) : List Int → PMem
  | [] => M
  | n :: r => (M.retire n time).retires time r
def PSt.take (P : PSt) (i : Nat) (k : PWork) : PSt :=
  if P.limit ≤ P.clock then (P.setM ((P.mem.unpend k.tsrc k.tside).frees k.made)).setW i (k.settle { err := 8 })
  else
    let P1 := { P with clock := P.clock + 1 }
    if k.kind = 2 then P1.setW i { k with ans := { did := true, stamp := P.clock + 1, value := (P.mem.node k.ahead).value }, next := 9 }
    else (P1.setM (P.mem.stampsNew (P.clock + 1) k.made)).setW i { k with ans := { did := true, stamp := P.clock + 1 }, next := 10 }
def PSt.takenOut (P : PSt) (k : PWork) : List Int := if P.kind = 1 then [k.ahead, k.stand] else [k.ahead]
def PSt.unlock (P : PSt) (i : Nat) (k : PWork) : PSt :=
  let M := P.mem.unlock i
  (P.setM (if k.kind = 2 ∧ k.ans.did = true then M.retires P.clock (P.takenOut k) else M)).setW i { k with locks := 0, next := 13 }
/-- A step of an update, from the walk to the unlocking. -/
def PSt.update (P : PSt) (i : Nat) (k : PWork) : PSt × Int :=
  match k.next with
  | 4 => (P.setW i (P.walk k), 1)
  | 5 => P.lock i k
  | 6 => (P.check i k, 1)
  | 7 => (P.prepare i k, 1)
  | 8 => (P.take i k, 1)
  | 9 => ((P.setM (P.mem.kills (P.takenOut k))).setW i { k with next := 10 }, 1)
  | 10 => ((P.setM (P.mem.lead k.tsrc k.tside)).setW i { k with next := 11 }, 1)
  | 11 => ((P.setM (P.mem.stamp k.tsrc k.tside k.ans.stamp)).setW i { k with next := 12 }, 1)
  | 12 => (P.unlock i k, 1)
  | _ => (P, 1)

/-! ### Reads -/
def leastLo (l : List (Int × Int)) : Int := l.foldl (fun m p => if p.1 < m then p.1 else m) (2 ^ 40)
def greatestHi (l : List (Int × Int)) : Int := l.foldl (fun m p => if p.2 > m then p.2 else m) 0
def PSt.linkNext (P : PSt) (k : PWork) : Int × Bool := match k.links with
  | p :: _ => p
  | [] => (k.stand, P.mem.sideFor k.stand k.key)
def PSt.lookUp (P : PSt) (k : PWork) (ahead : Int) : PWork :=
  if P.isPassed ahead k.key then { k with stand := ahead }
  else k.conclude (if (P.mem.node ahead).key = k.key then { stamp := k.time, did := true, value := (P.mem.node ahead).value } else { stamp := k.time })
def PSt.linksWithin (P : PSt) (n lo hi : Int) : List (Int × Bool) :=
  if P.kind = 0 then (if (P.mem.node n).key ≤ hi then [(n, false)] else [])
  else (if (P.mem.node n).links == 2 && decide (lo < (P.mem.node n).key) then [(n, false)] else []) ++ (if (P.mem.node n).links == 2 && decide ((P.mem.node n).key ≤ hi) then [(n, true)] else [])
def answerOf (spans noted : List (Int × Int)) (stamp : Int) : BAns :=
  if lensOf (spanLists spans noted) > 64 then { err := 9 } else { stamp := stamp, spans := spanLists spans noted }
def PSt.scan (P : PSt) (k : PWork) (ahead : Int) : PWork :=
  let lo := leastLo k.spans
  let hi := greatestHi k.spans
  let nd := P.mem.node ahead
  let noted := if !(nd.links == 2) && isIn nd.key lo hi then k.noted ++ [(nd.key, nd.value)] else k.noted
  let links := P.linksWithin ahead lo hi ++ k.links.drop 1
  let k1 := { k with noted := noted, links := links }
  if links.length = 0 then k1.conclude (answerOf k.spans noted k.time) else k1
def PSt.read (P : PSt) (i : Nat) (k : PWork) : PSt × Int :=
  let p := P.linkNext k
  if P.mem.hasPending p.1 p.2 then (P, 2)
  else (P.setW i (if k.kind = 3 then P.lookUp k (P.mem.ledTo p.1 p.2 k.time) else P.scan k (P.mem.ledTo p.1 p.2 k.time)), 1)

/-! ### The calls -/
def PThread.leave (t : PThread) : PThread := { t with slot := 0, last := t.work.ans, hasEnded := true, busy := false, work := PWork.zero }
def PSt.step (P : PSt) (i : Nat) (t : PThread) : PSt × Int :=
  match t.work.next with
  | 1 => (P.setT i { t with slot := 1, work := { t.work with next := 2 } }, 1)
  | 2 => (P.setT i { t with work := { t.work with time := P.clock, next := 3 } }, 1)
  | 3 => (P.setT i { t with slot := 2, work := t.work.home }, 1)
  | 13 => (P.setT i t.leave, 3)
  | _ => if t.work.kind = 3 ∨ t.work.kind = 4 then P.read i t.work else P.update i t.work
def spansOkX : List (Int × Int) → Bool
  | [] => true
  | p :: r => isIn p.1 0 (2 ^ 40) && (isIn p.2 0 (2 ^ 40) && (decide (p.1 ≤ p.2) && spansOkX r))
def checkOp (kind key : Int) (spans : List (Int × Int)) : Int :=
  if kind = 1 ∨ kind = 2 ∨ kind = 3 then (if isIn key 0 (2 ^ 40) then 0 else 5)
  else if kind = 4 then (if isIn spans.length 1 16 && spansOkX spans then 0 else 6)
  else 5
def newWork (kind key value : Int) (spans : List (Int × Int)) : PWork :=
  let k := { PWork.zero with kind := kind, next := 1 }
  if kind = 1 then { k with key := key, value := value }
  else if kind = 2 ∨ kind = 3 then { k with key := key }
  else if kind = 4 then { k with spans := spans, links := [(0, false)] }
  else k
def PSt.begin (P : PSt) (i kind key value : Int) (spans : List (Int × Int)) : PSt × Int :=
  if isIn i 0 (P.ts.length - 1) then
    if (P.th i.toNat).busy then (P, 3)
    else if checkOp kind key spans = 0 then (P.setT i.toNat { P.th i.toNat with busy := true, work := newWork kind key value spans }, 0) else (P, checkOp kind key spans)
  else (P, 2)
def PSweep.lookAt (r : PSweep) (t : PThread) : PSweep :=
  if t.slot = 2 then { r with time := if !r.hasTime || decide (t.work.time < r.time) then t.work.time else r.time, hasTime := true } else r
def PMem.freesIf (M : PMem) (hasTime : Bool) (time : Int) : List Nat → PMem
  | [] => M
  | n :: r => (if !hasTime || decide ((M.node n).retiredAt < time) then M.free n else M).freesIf hasTime time r
def PSt.doSweep (P : PSt) : PSt × Int :=
  let r := P.sweep
  if r.made = 0 then ({ P with sweep := { r with made := 1, clock := P.clock, retired := retiredFrom P.mem.ns 0 } }, 1)
  else if r.made - 1 < P.ts.length then
    if (P.th (r.made - 1)).slot = 1 then (P, 2)
    else ({ P with sweep := { r.lookAt (P.th (r.made - 1)) with made := r.made + 1 } }, 1)
  else if r.made - 1 = P.ts.length then
    ({ P with mem := P.mem.drop (if r.hasTime && decide (r.time < r.clock) then r.time else r.clock), sweep := { r with made := r.made + 1 } }, 1)
  else ({ P with mem := P.mem.freesIf r.hasTime r.time r.retired, sweep := PSweep.zero }, 3)
end Go.Proofs.YtfccelbmacjifaaGreat

set_option linter.unusedSimpArgs false
namespace Go.Proofs.YtfccelbmacjifaaGreat
/-! ### What is seen of a memory: its nodes, the pending and the stamped entries of each link -/
def Pd (M : PMem) (x : Int) : List Int := (M.es.filter (isPd x false)).map PEntry.dst
def Sd (M : PMem) (x s d : Int) : Prop := ∃ e ∈ M.es, isSt x false e = true ∧ e.stamp = s ∧ e.dst = d
structure Wm (M : PMem) : Prop where
  len : 2 ≤ M.ns.length
  wfe : ∀ e ∈ M.es, e.used = false → e = PEntry.zero
  sd : ∀ e ∈ M.es, e.side = false
  un : ∀ x, (M.node x).used = false → M.node x = PNode.zero
theorem hasN_iff {M : PMem} {x : Int} : M.hasNode x = true ↔ 0 ≤ x ∧ x < M.ns.length := by
  unfold PMem.hasNode; rw [isIn_iff]; omega
theorem hasN_used {M : PMem} {x : Int} (h : (M.node x).used = true) : M.hasNode x = true := by
  cases hh : M.hasNode x
  · unfold PMem.node at h; rw [hh] at h; exact nomatch h
  · rfl
theorem node_get {M : PMem} {k : Nat} {e : PNode} (h : M.ns[k]? = some e) : M.node (k : Int) = e ∧ M.hasNode (k : Int) = true := by
  have h1 : M.hasNode (k : Int) = true := by
    have := (List.getElem?_eq_some_iff.1 h).1
    unfold PMem.hasNode; rw [isIn_iff]; omega
  exact ⟨by unfold PMem.node; rw [h1]; simp [h], h1⟩
theorem node_at {M : PMem} {x : Int} (h : M.hasNode x = true) : ∃ (k : Nat) (e : PNode), x = k ∧ M.ns[k]? = some e ∧ M.node x = e := by
  have hx := h
  unfold PMem.hasNode at hx
  rw [isIn_iff] at hx
  have hk : x.toNat < M.ns.length := by omega
  refine ⟨x.toNat, M.ns[x.toNat], by omega, List.getElem?_eq_getElem hk, ?_⟩
  unfold PMem.node
  rw [h]; simp [List.getElem?_eq_getElem hk]
theorem hasN_len {M M' : PMem} (h : M'.ns.length = M.ns.length) (x : Int) : M'.hasNode x = M.hasNode x := by unfold PMem.hasNode; rw [h]
theorem modN_len (M : PMem) (n : Int) (f : PNode → PNode) : (M.modN n f).ns.length = M.ns.length := by unfold PMem.modN; split <;> simp
theorem modN_ents (M : PMem) (n : Int) (f : PNode → PNode) : (M.modN n f).es = M.es := by unfold PMem.modN; split <;> rfl
theorem node_modN {M : PMem} {n : Int} (h : M.hasNode n = true) (f : PNode → PNode) (x : Int) : (M.modN n f).node x = if x = n then f (M.node n) else M.node x := by
  unfold PMem.modN PMem.node
  rw [if_pos h]
  have hl : ∀ y, PMem.hasNode { M with ns := M.ns.modify n.toNat f } y = M.hasNode y := fun y => hasN_len (by simp) y
  rw [hl]
  have hn := h
  unfold PMem.hasNode at hn
  rw [isIn_iff] at hn
  by_cases hx : x = n
  · subst hx
    rw [if_pos h, if_pos h, if_pos rfl, List.getElem?_modify]
    have : x.toNat < M.ns.length := by omega
    simp [List.getElem?_eq_getElem this]
  · rw [if_neg hx]
    by_cases hh : M.hasNode x = true
    · rw [if_pos hh, if_pos hh]
      unfold PMem.hasNode at hh
      rw [isIn_iff] at hh
      have hne : ¬ n.toNat = x.toNat := by omega
      rw [List.getElem?_modify]; simp [hne]
    · rw [if_neg hh, if_neg hh]
theorem pd_es {M M' : PMem} (h : M'.es = M.es) (x : Int) : Pd M' x = Pd M x := by unfold Pd; rw [h]
theorem sd_es {M M' : PMem} (h : M'.es = M.es) (x s d : Int) : Sd M' x s d ↔ Sd M x s d := by unfold Sd; rw [h]
/-- Only nodes have turned. -/
theorem Wm.nodes {M M' : PMem} (h : Wm M) (hl : M'.ns.length = M.ns.length) (he : M'.es = M.es) (hu : ∀ x, (M'.node x).used = false → M'.node x = PNode.zero) : Wm M' :=
  ⟨by rw [hl]; exact h.len, by rw [he]; exact h.wfe, by rw [he]; exact h.sd, hu⟩
theorem Wm.modN {M : PMem} (h : Wm M) {n : Int} (hn : (M.node n).used = true) (f : PNode → PNode) (hf : (f (M.node n)).used = true) : Wm (M.modN n f) := by
  refine h.nodes (modN_len _ _ _) (modN_ents _ _ _) ?_
  intro x hx
  rw [node_modN (hasN_used hn)] at hx ⊢
  split at hx
  · rw [hf] at hx; cases hx
  · next hne => rw [if_neg hne]; exact h.un x hx
/-- The locks. -/
theorem unlock_node (M : PMem) (t x : Int) : (M.unlock t).node x = unlocked t (M.node x) := by
  have hl : (M.unlock t).hasNode x = M.hasNode x := hasN_len (by simp [PMem.unlock]) x
  by_cases hh : M.hasNode x = true
  · obtain ⟨k, e, rfl, h1, h2⟩ := node_at hh
    rw [h2]
    exact (node_get (M := M.unlock t) (by simp [PMem.unlock, h1])).1
  · unfold PMem.node
    rw [hl, if_neg hh, if_neg hh]; rfl
theorem Wm.unlock {M : PMem} (h : Wm M) (t : Int) : Wm (M.unlock t) := by
  refine h.nodes (by simp [PMem.unlock]) rfl ?_
  intro x hx
  rw [unlock_node] at hx ⊢
  have hu : (unlocked t (M.node x)).used = (M.node x).used := by unfold unlocked; split <;> rfl
  rw [hu] at hx
  rw [h.un x hx]; rfl
theorem lock_eq {M : PMem} {n t : Int} (hn : (M.node n).used = true) : M.lock n t = if (M.node n).holder = -1 ∨ (M.node n).holder = t then (M.modN n fun x => { x with holder := t }, true) else (M, false) := by
  unfold PMem.lock
  rw [if_pos (hasN_used hn)]
  by_cases h : (M.node n).holder = -1 ∨ (M.node n).holder = t
  · rw [if_pos h, if_neg]
    intro hh
    simp at hh
    rcases h with h | h
    · exact hh.1 h
    · exact hh.2 h
  · rw [if_neg h, if_pos]
    simp only [not_or] at h
    simp [h.1, h.2]
/-- Entries, one of which is set. -/
theorem filt_set {α β : Type} (p : α → Bool) (f : α → β) : ∀ {l : List α} {k : Nat} {x : α}, l[k]? = some x → ∀ y, p x = false → p y = false → ((l.set k y).filter p).map f = (l.filter p).map f
  | [], k, x, h => by simp at h
  | z :: r, 0, x, h => by
    intro y hx hy
    simp at h; subst h
    simp [hx, hy]
  | z :: r, k + 1, x, h => by
    intro y hx hy
    simp only [List.getElem?_cons_succ] at h
    have := filt_set p f h y hx hy
    simp only [List.set_cons_succ, List.filter_cons]
    split <;> simp [this]
theorem filt_new {α β : Type} (p : α → Bool) (f : α → β) : ∀ {l : List α} {k : Nat} {x : α}, l[k]? = some x → ∀ y, (l.filter p).map f = [] → p y = true → ((l.set k y).filter p).map f = [f y]
  | [], k, x, h => by simp at h
  | z :: r, 0, x, h => by
    intro y hx hy
    simp only [List.filter_cons] at hx
    split at hx
    · simp at hx
    · simp [hy]; simpa using hx
  | z :: r, k + 1, x, h => by
    intro y hx hy
    simp only [List.getElem?_cons_succ] at h
    simp only [List.filter_cons] at hx
    split at hx
    · simp at hx
    · next hz =>
      simp only [List.set_cons_succ, List.filter_cons]
      rw [if_neg hz]
      exact filt_new p f h y hx hy
theorem filt_del {α β : Type} (p : α → Bool) (f : α → β) : ∀ {l : List α} {k : Nat} {x : α} {b : β}, l[k]? = some x → ∀ y, (l.filter p).map f = [b] → p x = true → p y = false → ((l.set k y).filter p).map f = [] ∧ b = f x
  | [], k, x, b, h => by simp at h
  | z :: r, 0, x, b, h => by
    intro y hx hp hy
    simp at h; subst h
    simp only [List.filter_cons, hp, if_true, List.map_cons] at hx
    injection hx with e1 e2
    simp [hy]
    exact ⟨by simpa using e2, e1.symm⟩
  | z :: r, k + 1, x, b, h => by
    intro y hx hp hy
    simp only [List.getElem?_cons_succ] at h
    simp only [List.filter_cons] at hx
    split at hx
    · simp only [List.map_cons] at hx
      injection hx with e1 e2
      have hm : x ∈ r.filter p := List.mem_filter.2 ⟨List.mem_of_getElem? h, hp⟩
      have : r.filter p = [] := by simpa using e2
      rw [this] at hm; cases hm
    · next hz =>
      simp only [List.set_cons_succ, List.filter_cons]
      rw [if_neg hz]
      exact filt_del p f h y hx hp hy
theorem isPd_z (n : Int) (s : Bool) : isPd n s PEntry.zero = false := by simp [isPd, PEntry.zero]
theorem isSt_z (n : Int) (s : Bool) : isSt n s PEntry.zero = false := by simp [isSt, PEntry.zero]
theorem set_get {α : Type} {l : List α} {k : Nat} {x y e : α} (h : l[k]? = some x) : e ∈ l.set k y ↔ e = y ∨ ∃ j, j ≠ k ∧ l[j]? = some e := by
  have hk := (List.getElem?_eq_some_iff.1 h).1
  rw [List.mem_iff_getElem?]
  constructor
  · rintro ⟨j, hj⟩
    rw [List.getElem?_set] at hj
    by_cases e1 : k = j
    · subst e1; simp [hk] at hj; exact .inl hj.symm
    · rw [if_neg e1] at hj; exact .inr ⟨j, fun h => e1 h.symm, hj⟩
  · rintro (rfl | ⟨j, h1, h2⟩)
    · exact ⟨k, by simp [hk]⟩
    · exact ⟨j, by rw [List.getElem?_set, if_neg (fun h => h1 h.symm)]; exact h2⟩
/-- An entry that is set: what is stamped. -/
theorem sd_set {M : PMem} {k : Nat} {e0 y : PEntry} (h : M.es[k]? = some e0) (h0 : ∀ x, isSt x false e0 = false) (x s d : Int) : Sd { M with es := M.es.set k y } x s d ↔ Sd M x s d ∨ (isSt x false y = true ∧ y.stamp = s ∧ y.dst = d) := by
  unfold Sd
  constructor
  · rintro ⟨e, he, h1, h2⟩
    rcases (set_get h).1 he with rfl | ⟨j, _, hj⟩
    · exact .inr ⟨h1, h2⟩
    · exact .inl ⟨e, List.mem_of_getElem? hj, h1, h2⟩
  · rintro (⟨e, he, h1, h2⟩ | ⟨h1, h2⟩)
    · obtain ⟨j, hj⟩ := List.mem_iff_getElem?.1 he
      refine ⟨e, (set_get h).2 (.inr ⟨j, ?_, hj⟩), h1, h2⟩
      rintro rfl
      rw [h] at hj; injection hj with hj; subst hj
      rw [h0] at h1; cases h1
    · exact ⟨y, (set_get h).2 (.inl rfl), h1, h2⟩
theorem Wm.setE {M : PMem} (h : Wm M) {k : Nat} {y : PEntry} (hy : y.used = false → y = PEntry.zero) (hs : y.side = false) : Wm { M with es := M.es.set k y } := by
  refine ⟨h.len, ?_, ?_, h.un⟩
  · intro e he hu
    rcases List.mem_or_eq_of_mem_set he with he | rfl
    · exact h.wfe e he hu
    · exact hy hu
  · intro e he
    rcases List.mem_or_eq_of_mem_set he with he | rfl
    · exact h.sd e he
    · exact hs
theorem found {α : Type} {p : α → Bool} {l : List α} {x : α} (hx : x ∈ l) (hp : p x = true) : ∃ (k : Nat) (y : α), l[k]? = some y ∧ p y = true ∧ find p l 0 = (k : Int) := by
  rcases find_bd p l 0 with ⟨_, h⟩ | ⟨k, y, h1, h2, h3, _⟩
  · rw [h x hx] at hp; cases hp
  · exact ⟨k, y, h1, h2, by simpa using h3⟩
theorem hasE_of {M : PMem} {k : Nat} {e : PEntry} (h : M.es[k]? = some e) : M.hasEntry (k : Int) = true := by
  have := (List.getElem?_eq_some_iff.1 h).1
  exact isIn_true (by omega)
/-- An entry is made pending. -/
theorem pend_e {M : PMem} {n to : Int} (hw : Wm M) (hf : ∃ e ∈ M.es, e.used = false) (hl : M.hasLink n false = true) (hp : Pd M n = []) :
    ∃ k : Nat, M.es[k]? = some PEntry.zero ∧ M.pend n false to = { M with es := M.es.set k ⟨true, true, n, false, to, 0⟩ } ∧ Wm (M.pend n false to) ∧ (∀ x, Pd (M.pend n false to) x = if x = n then [to] else Pd M x) ∧ (∀ x s d, Sd (M.pend n false to) x s d ↔ Sd M x s d) := by
  obtain ⟨e, he, hu⟩ := hf
  obtain ⟨k, y, h1, h2, h3⟩ := found (p := fun x : PEntry => !x.used) he (by simp [hu])
  have hy : y = PEntry.zero := hw.wfe y (List.mem_of_getElem? h1) (by simpa using h2)
  subst hy
  have heq : M.pend n false to = { M with es := M.es.set k ⟨true, true, n, false, to, 0⟩ } := by
    have hk : M.freeEntry = (k : Int) := h3
    unfold PMem.pend
    rw [hk, hasE_of h1, hl]
    simp [PMem.setE]
  refine ⟨k, h1, heq, ?_, ?_, ?_⟩
  · rw [heq]; exact hw.setE (by simp) rfl
  · intro x
    rw [heq]
    unfold Pd
    split
    · next hx => subst hx; exact filt_new _ _ h1 _ hp (by simp [isPd])
    · next hx =>
      have hx' : ¬ n = x := fun h => hx h.symm
      exact filt_set _ _ h1 _ (isPd_z _ _) (by simp [isPd, hx'])
  · intro x s d
    rw [heq, sd_set h1 (fun x => isSt_z _ _)]
    simp [isSt]
theorem pending_at {M : PMem} {n d : Int} (h : Pd M n = [d]) : ∃ (k : Nat) (e : PEntry), M.es[k]? = some e ∧ isPd n false e = true ∧ e.dst = d ∧ M.pending n false = (k : Int) := by
  have hm : ∃ a, a ∈ M.es.filter (isPd n false) := by
    cases hf : M.es.filter (isPd n false) with
    | nil => unfold Pd at h; rw [hf] at h; simp at h
    | cons a r => exact ⟨a, by simp⟩
  obtain ⟨a, ha⟩ := hm
  rw [List.mem_filter] at ha
  obtain ⟨k, y, h1, h2, h3⟩ := found ha.1 ha.2
  refine ⟨k, y, h1, h2, ?_, h3⟩
  exact ((filt_del (isPd n false) PEntry.dst h1 PEntry.zero h h2 (isPd_z _ _)).2).symm
theorem pending_no {M : PMem} {n : Int} (h : Pd M n = []) : M.pending n false = -1 := by
  unfold Pd at h
  simp at h
  apply find_miss
  intro j hj y hy
  have := h y (List.mem_of_getElem? hy)
  simpa using this
theorem hasPd_iff {M : PMem} {n : Int} : M.hasPending n false = true ↔ Pd M n ≠ [] := by
  unfold PMem.hasPending
  constructor
  · intro h hp
    rw [pending_no hp] at h
    simp at h
  · intro h
    have hm : ∃ a, a ∈ M.es.filter (isPd n false) := by
      cases hf : M.es.filter (isPd n false) with
      | nil => unfold Pd at h; rw [hf] at h; simp at h
      | cons a r => exact ⟨a, by simp⟩
    obtain ⟨a, ha⟩ := hm
    rw [List.mem_filter] at ha
    obtain ⟨k, y, h1, h2, h3⟩ := found ha.1 ha.2
    unfold PMem.pending
    rw [h3]
    simp
theorem isSt_pd {e : PEntry} {n : Int} (h : isPd n false e = true) (x : Int) : isSt x false e = false := by
  simp only [isPd, Bool.and_eq_true] at h
  simp [isSt, h.1]
theorem isPd_ne {e : PEntry} {n x : Int} (h : isPd n false e = true) (hx : x ≠ n) : isPd x false e = false := by
  simp only [isPd, Bool.and_eq_true, beq_iff_eq] at h
  have : ¬ n = x := fun h => hx h.symm
  simp [isPd, h.2.1, this]
theorem unpend_e {M : PMem} {n d : Int} (hw : Wm M) (h : Pd M n = [d]) : (M.unpend n false).ns = M.ns ∧ Wm (M.unpend n false) ∧ (∀ x, Pd (M.unpend n false) x = if x = n then [] else Pd M x) ∧ (∀ x s d, Sd (M.unpend n false) x s d ↔ Sd M x s d) := by
  obtain ⟨k, e, h1, h2, _, h4⟩ := pending_at h
  have heq : M.unpend n false = { M with es := M.es.set k PEntry.zero } := by
    unfold PMem.unpend
    rw [h4, hasE_of h1]; simp [PMem.setE]
  rw [heq]
  refine ⟨rfl, hw.setE (fun _ => rfl) rfl, ?_, ?_⟩
  · intro x
    unfold Pd
    split
    · next hx => subst hx; exact (filt_del _ _ h1 _ h h2 (isPd_z _ _)).1
    · next hx => exact filt_set _ _ h1 _ (isPd_ne h2 hx) (isPd_z _ _)
  · intro x s d
    rw [sd_set h1 (isSt_pd h2)]
    simp [isSt_z]
theorem stamp_e {M : PMem} {n d : Int} (st : Int) (hw : Wm M) (h : Pd M n = [d]) : (M.stamp n false st).ns = M.ns ∧ Wm (M.stamp n false st) ∧ (∀ x, Pd (M.stamp n false st) x = if x = n then [] else Pd M x) ∧ (∀ x s e, Sd (M.stamp n false st) x s e ↔ Sd M x s e ∨ (x = n ∧ s = st ∧ e = d)) := by
  obtain ⟨k, e, h1, h2, h3, h4⟩ := pending_at h
  have he : M.ent (k : Int) = e := by simp [PMem.ent, h1]
  have heq : M.stamp n false st = { M with es := M.es.set k { e with pending := false, stamp := st } } := by
    unfold PMem.stamp
    rw [h4, hasE_of h1, he]; simp [PMem.setE]
  rw [heq]
  have h2' := h2
  simp only [isPd, Bool.and_eq_true, beq_iff_eq] at h2'
  have hu : e.used = true := by
    cases hu : e.used
    · rw [hw.wfe e (List.mem_of_getElem? h1) hu] at h2'; exact nomatch h2'.1
    · rfl
  refine ⟨rfl, hw.setE (fun hh => by simp [hu] at hh) h2'.2.2, ?_, ?_⟩
  · intro x
    unfold Pd
    split
    · next hx => subst hx; exact (filt_del _ _ h1 _ h h2 (by simp [isPd])).1
    · next hx => exact filt_set _ _ h1 _ (isPd_ne h2 hx) (by simp [isPd])
  · intro x s d'
    rw [sd_set h1 (isSt_pd h2)]
    refine or_congr Iff.rfl ?_
    simp only [isSt, hu, h2'.2.2, h2'.2.1, h3, Bool.true_and, Bool.not_false, beq_self_eq_true, Bool.and_true, beq_iff_eq]
    constructor
    · rintro ⟨a, b, c⟩; exact ⟨a.symm, b.symm, c.symm⟩
    · rintro ⟨a, b, c⟩; exact ⟨a.symm, b.symm, c.symm⟩
theorem stamp_no {M : PMem} {n : Int} (hw : Wm M) (st : Int) : M.stamp n true st = M := by
  have : M.pending n true = -1 := by
    apply find_miss
    intro j hj y hy
    have := hw.sd y (List.mem_of_getElem? hy)
    simp [isPd, this]
  unfold PMem.stamp
  rw [this, show M.hasEntry (-1) = false from isIn_false (by omega)]
  simp
theorem lead_e {M : PMem} {n d : Int} (h : Pd M n = [d]) (hl : M.hasLink n false = true) : M.lead n false = M.modN n fun x => { x with leads := upd x.leads false d } := by
  obtain ⟨k, e, h1, h2, h3, h4⟩ := pending_at h
  have he : M.ent (k : Int) = e := by simp [PMem.ent, h1]
  unfold PMem.lead
  rw [h4, hasE_of h1, hl, he, h3]; simp
end Go.Proofs.YtfccelbmacjifaaGreat

