import Derived.Test.YtfccelbmacjifaaGreatP0
namespace Go.Proofs.YtfccelbmacjifaaGreat
open Go.RowKit

/-- What a block of a store is there for. -/
inductive Tag where
  | store | spl | thl | log | round | noted | gone | lists
  | spot (i : Nat)
  | st (i : Nat) (s : Bool)
  | thread (i : Nat)
  | tr (i : Nat) (k : Nat)
  | oth (n : Nat)
  deriving DecidableEq
structure Zone where
  z : Nat
  tag : Tag
abbrev Own := Nat → Zone
def Own.put (own : Own) (k z : Nat) (tag : Tag) : Own := fun j => if j = k then ⟨z, tag⟩ else own j
theorem Own.put_same (own : Own) (k z : Nat) (tag : Tag) : own.put k z tag k = ⟨z, tag⟩ := by simp [Own.put]
theorem Own.put_ne (own : Own) {k j : Nat} (z : Nat) (tag : Tag) (h : j ≠ k) : own.put k z tag j = own j := by simp [Own.put, h]
/-- What was there keeps its owner. -/
def Ext (own own' : Own) (w : World) : Prop := ∀ k, k < w.heap.size → own' k = own k
theorem Ext.refl (own : Own) (w : World) : Ext own own w := fun _ _ => rfl
theorem Ext.trans {own own1 own2 : Own} {w w1 : World} (h : Ext own own1 w) (k : Ext own1 own2 w1) (hs : w.heap.size ≤ w1.heap.size) : Ext own own2 w :=
  fun j hj => (k j (Nat.lt_of_lt_of_le hj hs)).trans (h j hj)
theorem Ext.put {own : Own} {w : World} {k : Nat} (hk : w.heap.size ≤ k) (z : Nat) (tag : Tag) : Ext own (own.put k z tag) w := fun j hj => Own.put_ne own z tag (by omega)
theorem Ext.put' {own own' : Own} {w : World} {k : Nat} (h : Ext own own' w) {z : Nat} {tag : Tag} (hk : own k = ⟨z, tag⟩ ∨ w.heap.size ≤ k) : Ext own (own'.put k z tag) w := by
  intro j hj
  by_cases e : j = k
  · subst e
    rcases hk with hk | hk
    · rw [Own.put_same, hk]
    · omega
  · rw [Own.put_ne _ _ _ e]; exact h j hj

/-- Within the zone z only blocks of some tags have turned, and no other zone. -/
def FrT (own : Own) (z : Nat) (A : Tag → Prop) (w w' : World) : Prop := Fr (fun k => (own k).z = z ∧ A (own k).tag) w w'
def FrZ (own : Own) (z : Nat) (w w' : World) : Prop := Fr (fun k => (own k).z = z) w w'
theorem FrT.zone {own : Own} {z : Nat} {A : Tag → Prop} {w w' : World} (h : FrT own z A w w') : FrZ own z w w' := Fr.mono h (fun _ _ hk => hk.1)
theorem FrT.mono {own : Own} {z : Nat} {A B : Tag → Prop} {w w' : World} (h : FrT own z A w w') (hAB : ∀ t, A t → B t) : FrT own z B w w' := Fr.mono h (fun _ _ hk => ⟨hk.1, hAB _ hk.2⟩)
theorem FrT.of {own : Own} {z : Nat} {A : Tag → Prop} {w w' : World} {S : Nat → Prop} (h : Fr S w w') (hS : ∀ k, S k → (own k).z = z ∧ A (own k).tag) : FrT own z A w w' := Fr.mono h (fun k _ hk => hS k hk)
theorem FrT.one {own : Own} {z b : Nat} {A : Tag → Prop} {w w' : World} {tag : Tag} (h : Fr (fun k => k = b) w w') (hb : own b = ⟨z, tag⟩) (hA : A tag) : FrT own z A w w' :=
  FrT.of h (by rintro k rfl; rw [hb]; exact ⟨rfl, hA⟩)
theorem FrZ.trans {own own1 : Own} {z : Nat} {w w1 w2 : World} (h : FrZ own z w w1) (he : Ext own own1 w) (k : FrZ own1 z w1 w2) : FrZ own z w w2 :=
  Fr.transNew h k (fun i hi => by
    by_cases hlt : i < w.heap.size
    · left; rw [← he i hlt]; exact hi
    · right; omega)
theorem FrT.trans {own own1 : Own} {z : Nat} {A : Tag → Prop} {w w1 w2 : World} (h : FrT own z A w w1) (he : Ext own own1 w) (k : FrT own1 z A w1 w2) : FrT own z A w w2 :=
  Fr.transNew h k (fun i hi => by
    by_cases hlt : i < w.heap.size
    · left; rw [← he i hlt]; exact hi
    · right; omega)

/-- A row of a slice that the zone owns under a tag. -/
structure Row (own : Own) (z : Nat) (w : World) (tag : Tag) (e : TypeId) (size : Nat) (v : Value) (n : Nat) (xs : List Value) : Prop where
  row : w.ownsRow 0 e size v n xs
  tg : ∀ k, v.ownBlock = some k → own k = ⟨z, tag⟩
theorem ownsRow_lt {w : World} {e : TypeId} {size : Nat} {v : Value} {n : Nat} {xs : List Value} (h : w.ownsRow 0 e size v n xs) {k : Nat} (hk : v.ownBlock = some k) : k < w.heap.size := by
  rcases h.2 with ⟨rfl, _⟩ | ⟨g, cap, cur, rfl, _, hg, _⟩
  · simp [Value.ownBlock] at hk
  · simp [Value.ownBlock] at hk; subst hk; exact (Array.getElem?_eq_some_iff.1 hg).1
theorem Row.fr {own own' : Own} {z : Nat} {w w' : World} {tag : Tag} {e : TypeId} {size : Nat} {v : Value} {n : Nat} {xs : List Value} {S : Nat → Prop}
    (h : Row own z w tag e size v n xs) (hf : Fr S w w') (he : Ext own own' w) (hS : ∀ k, own k = ⟨z, tag⟩ → ¬ S k) : Row own' z w' tag e size v n xs :=
  ⟨hf.owns h.row (fun k hk => hS k (h.tg k hk)), fun k hk => by rw [he k (ownsRow_lt h.row hk)]; exact h.tg k hk⟩
theorem Row.ext {own own' : Own} {z : Nat} {w : World} {tag : Tag} {e : TypeId} {size : Nat} {v : Value} {n : Nat} {xs : List Value}
    (h : Row own z w tag e size v n xs) (he : Ext own own' w) : Row own' z w tag e size v n xs :=
  ⟨h.row, fun k hk => by rw [he k (ownsRow_lt h.row hk)]; exact h.tg k hk⟩
theorem Row.nil (own : Own) (z : Nat) (w : World) (tag : Tag) (e : TypeId) (size : Nat) : Row own z w tag e size (.slice none 0 0) 0 [] :=
  ⟨⟨by simp, .inl ⟨rfl, rfl⟩⟩, by intro k hk; simp [Value.ownBlock] at hk⟩

def intCells (l : List Int) : List Value := l.map (.int .i64)
def natCells (l : List Nat) : List Value := l.map fun (k : Nat) => .int .i64 k
def pairCells (p : Int × Int) : List Value := [.int .i64 p.1, .int .i64 p.2]
def linkCells (p : Int × Bool) : List Value := [.int .i64 p.1, .int .i64 (b2i p.2)]
def madeCells (m : BMade) : List Value := [.int .i64 m.stamp, .int .i64 m.key, .int .i64 m.value, .bool m.put]

structure SLay where
  b : Nat
  st : Bool → Value
def BSpot.cells (x : BSpot) (l : SLay) : List Value :=
  [.int .i64 x.id, .bool x.leaf, .int .i64 x.key, .int .i64 x.value, .int .i64 (x.now false), .int .i64 (x.now true), l.st false, l.st true, .bool (x.opn false), .bool (x.opn true),
   .bool x.dead, .int .i64 x.owner, .int .i64 x.out, .bool x.free]
structure TLay where
  b : Nat
  spans : Value
  want : Value
  new : Value
  todo : Value
  found : Value
  aspans : Value
  lspans : Value
def BThread.cells (t : BThread) (l : TLay) : List Value :=
  [.int .i64 t.okind, .int .i64 t.okey, .int .i64 t.ovalue, l.spans, .bool t.busy, .bool t.has, .int .i64 t.at_, .int .i64 t.slot, .int .i64 t.t, .int .i64 t.g, .int .i64 (b2i t.gs), .int .i64 t.x, .int .i64 (b2i t.xs), .int .i64 t.c, l.want,
   .int .i64 t.have_, .int .i64 t.src, .int .i64 (b2i t.side), .int .i64 t.dst, l.new, .int .i64 t.hid, .int .i64 (b2i t.hside), .int .i64 t.hkey, l.todo, l.found,
   .int .i64 t.ans.err, .bool t.ans.did, .int .i64 t.ans.value, .int .i64 t.ans.stamp, l.aspans, .int .i64 t.last.err, .bool t.last.did, .int .i64 t.last.value, .int .i64 t.last.stamp, l.lspans]
structure DLay where
  b : Nat
  noted : Value
  gone : Value
structure BLay where
  s : Nat
  sv : Value
  sps : List SLay
  lv : Value
  tv : Value
  ths : List TLay
  rd : DLay

/-- The lists of an answer. -/
structure ListsAt (own : Own) (z : Nat) (w : World) (v : Value) (ll : List (List (Int × Int))) : Prop where
  nil : ll = [] → v = .slice none 0 0
  top : ∃ ins : List Value, ins.length = ll.length ∧ Row own z w .lists 58 1 v ll.length ins ∧
    ∀ (i : Nat) (u : Value) (l : List (Int × Int)), ins[i]? = some u → ll[i]? = some l → Row own z w .lists 147 2 u l.length (l.flatMap pairCells)
structure SpAt (own : Own) (z : Nat) (w : World) (i : Nat) (l : SLay) (x : BSpot) : Prop where
  at_ : At w l.b (x.cells l) 130
  tg : own l.b = ⟨z, .spot i⟩
  st : ∀ s, Row own z w (.st i s) 3 1 (l.st s) (x.st s).length (intCells (x.st s))
structure ThAt (own : Own) (z : Nat) (w : World) (i : Nat) (l : TLay) (t : BThread) : Prop where
  at_ : At w l.b (t.cells l) 136
  tg : own l.b = ⟨z, .thread i⟩
  spans : Row own z w (.tr i 0) 138 2 l.spans t.ospans.length (t.ospans.flatMap pairCells)
  want : Row own z w (.tr i 1) 3 1 l.want t.want.length (natCells t.want)
  new : Row own z w (.tr i 2) 3 1 l.new t.new.length (natCells t.new)
  todo : Row own z w (.tr i 3) 133 2 l.todo t.todo.length (t.todo.flatMap linkCells)
  found : Row own z w (.tr i 4) 147 2 l.found t.found.length (t.found.flatMap pairCells)
  alists : ListsAt own z w l.aspans t.ans.spans
  llists : ListsAt own z w l.lspans t.last.spans
structure RdAt (own : Own) (z : Nat) (w : World) (l : DLay) (r : BRound) : Prop where
  at_ : At w l.b [.int .i64 r.at_, .int .i64 r.clock, .int .i64 r.thread, l.noted, l.gone] 118
  tg : own l.b = ⟨z, .round⟩
  noted : Row own z w .noted 3 1 l.noted r.noted.length (intCells r.noted)
  gone : Row own z w .gone 3 1 l.gone r.gone.length (natCells r.gone)
def sptrs (l : List SLay) : List Value := l.map fun x => .pointer (some ⟨x.b, 0, none⟩)
def tptrs (l : List TLay) : List Value := l.map fun x => .pointer (some ⟨x.b, 0, none⟩)
def BSt.head (R : BSt) (L : BLay) : List Value :=
  [.int .i64 R.kind, .int .i64 R.threads, .int .i64 R.nodes, .int .i64 R.entries, .int .i64 R.limit, .int .i64 R.clock, L.sv, L.lv, L.tv, .pointer (some ⟨L.rd.b, 0, none⟩)]
structure BAt (own : Own) (z : Nat) (w : World) (L : BLay) (R : BSt) : Prop where
  hd : At w L.s (R.head L) 123
  hown : own L.s = ⟨z, .store⟩
  sp : Row own z w .spl 125 1 L.sv R.spots.length (sptrs L.sps)
  slen : L.sps.length = R.spots.length
  spot : ∀ (i : Nat) (l : SLay) (x : BSpot), L.sps[i]? = some l → R.spots[i]? = some x → SpAt own z w i l x
  th : Row own z w .thl 131 1 L.tv R.ts.length (tptrs L.ths)
  tlen : L.ths.length = R.ts.length
  thr : ∀ (i : Nat) (l : TLay) (t : BThread), L.ths[i]? = some l → R.ts[i]? = some t → ThAt own z w i l t
  log : Row own z w .log 212 4 L.lv R.log.length (R.log.flatMap madeCells)
  rd : RdAt own z w L.rd R.round

section
variable {own own' : Own} {z : Nat} {w w' : World} {S : Nat → Prop}
theorem at_fr {b : Nat} {c : List Value} {e : TypeId} {tag : Tag} (h : At w b c e) (ho : own b = ⟨z, tag⟩) (hf : Fr S w w') (he : Ext own own' w) (hS : ∀ k, own k = ⟨z, tag⟩ → ¬ S k) : At w' b c e ∧ own' b = ⟨z, tag⟩ :=
  ⟨hf.at h (hS b ho), by rw [he b h.lt]; exact ho⟩
theorem ListsAt.fr {v : Value} {ll : List (List (Int × Int))} (h : ListsAt own z w v ll) (hf : Fr S w w') (he : Ext own own' w) (hS : ∀ k, own k = ⟨z, .lists⟩ → ¬ S k) : ListsAt own' z w' v ll := by
  obtain ⟨ins, h1, h2, h3⟩ := h.top
  exact ⟨h.nil, ins, h1, h2.fr hf he hS, fun i u l hu hl => (h3 i u l hu hl).fr hf he hS⟩
theorem ListsAt.none (own : Own) (z : Nat) (w : World) : ListsAt own z w (.slice none 0 0) [] :=
  ⟨fun _ => rfl, [], rfl, Row.nil _ _ _ _ _ _, by intro i u l hu; simp at hu⟩
theorem SpAt.fr {i : Nat} {l : SLay} {x : BSpot} (h : SpAt own z w i l x) (hf : Fr S w w') (he : Ext own own' w) (h1 : ∀ k, own k = ⟨z, .spot i⟩ → ¬ S k) (h2 : ∀ k s, own k = ⟨z, .st i s⟩ → ¬ S k) : SpAt own' z w' i l x :=
  ⟨(at_fr h.at_ h.tg hf he h1).1, (at_fr h.at_ h.tg hf he h1).2, fun s => (h.st s).fr hf he (fun k hk => h2 k s hk)⟩
theorem ThAt.fr {i : Nat} {l : TLay} {t : BThread} (h : ThAt own z w i l t) (hf : Fr S w w') (he : Ext own own' w) (h1 : ∀ k, own k = ⟨z, .thread i⟩ → ¬ S k) (h2 : ∀ k j, own k = ⟨z, .tr i j⟩ → ¬ S k)
    (h3 : ∀ k, own k = ⟨z, .lists⟩ → ¬ S k) : ThAt own' z w' i l t :=
  ⟨(at_fr h.at_ h.tg hf he h1).1, (at_fr h.at_ h.tg hf he h1).2, h.spans.fr hf he (fun k => h2 k _), h.want.fr hf he (fun k => h2 k _), h.new.fr hf he (fun k => h2 k _), h.todo.fr hf he (fun k => h2 k _),
    h.found.fr hf he (fun k => h2 k _), h.alists.fr hf he h3, h.llists.fr hf he h3⟩
theorem RdAt.fr {l : DLay} {r : BRound} (h : RdAt own z w l r) (hf : Fr S w w') (he : Ext own own' w) (h1 : ∀ k, own k = ⟨z, .round⟩ → ¬ S k) (h2 : ∀ k, own k = ⟨z, .noted⟩ → ¬ S k) (h3 : ∀ k, own k = ⟨z, .gone⟩ → ¬ S k) : RdAt own' z w' l r :=
  ⟨(at_fr h.at_ h.tg hf he h1).1, (at_fr h.at_ h.tg hf he h1).2, h.noted.fr hf he h2, h.gone.fr hf he h3⟩
variable {L : BLay} {R : BSt}
/-- What other zones do leaves a store as it is. -/
theorem BAt.fr (h : BAt own z w L R) (hf : Fr S w w') (he : Ext own own' w) (hS : ∀ k, (own k).z = z → ¬ S k) : BAt own' z w' L R := by
  have hT : ∀ tag k, own k = ⟨z, tag⟩ → ¬ S k := fun tag k hk => hS k (by rw [hk])
  have hh := at_fr h.hd h.hown hf he (hT _)
  exact ⟨hh.1, hh.2, h.sp.fr hf he (hT _), h.slen, fun i l x hl hx => (h.spot i l x hl hx).fr hf he (hT _) (fun k s => hT _ k), h.th.fr hf he (hT _), h.tlen,
    fun i l t hl ht => (h.thr i l t hl ht).fr hf he (hT _) (fun k j => hT _ k) (hT _), h.log.fr hf he (hT _), h.rd.fr hf he (hT _) (hT _) (hT _)⟩
theorem not_tag {A : Tag → Prop} {tag : Tag} (h : ¬ A tag) : ∀ k, own k = ⟨z, tag⟩ → ¬ ((own k).z = z ∧ A (own k).tag) := by
  intro k hk hs; rw [hk] at hs; exact h hs.2
/-- A spot is turned. -/
theorem BAt.spotSet (h : BAt own z w L R) {i : Nat} {l : SLay} {x' : BSpot} {st' : Bool → Value} (hl : L.sps[i]? = some l)
    (hf : FrT own z (fun t => t = .spot i ∨ t = .st i false ∨ t = .st i true) w w') (he : Ext own own' w) (hx : SpAt own' z w' i ⟨l.b, st'⟩ x') :
    BAt own' z w' { L with sps := L.sps.set i ⟨l.b, st'⟩ } { R with spots := R.spots.set i x' } := by
  have hn : ∀ tag : Tag, ¬ (tag = .spot i ∨ tag = .st i false ∨ tag = .st i true) → ∀ k, own k = ⟨z, tag⟩ → ¬ ((own k).z = z ∧ ((own k).tag = .spot i ∨ (own k).tag = .st i false ∨ (own k).tag = .st i true)) := fun tag ht => not_tag (A := fun t => t = .spot i ∨ t = .st i false ∨ t = .st i true) ht
  have hh := at_fr h.hd h.hown hf he (hn _ (by simp))
  have hp : sptrs (L.sps.set i ⟨l.b, st'⟩) = sptrs L.sps := by
    unfold sptrs
    rw [List.map_set]
    apply List.ext_getElem?
    intro j
    rw [List.getElem?_set]
    split
    · next e =>
      subst e
      split
      · simp [hl]
      · next h2 => simp at h2; simp [List.getElem?_eq_none h2]
    · rfl
  refine ⟨hh.1, hh.2, ?_, by simp [h.slen], ?_, h.th.fr hf he (hn _ (by simp)), h.tlen, ?_, h.log.fr hf he (hn _ (by simp)), h.rd.fr hf he (hn _ (by simp)) (hn _ (by simp)) (hn _ (by simp))⟩
  · simp only [hp, List.length_set]
    exact h.sp.fr hf he (hn _ (by simp))
  · intro j l1 x1 hl1 hx1
    simp only [List.getElem?_set] at hl1 hx1
    by_cases e : i = j
    · subst e
      rw [if_pos rfl] at hl1 hx1
      split at hl1 <;> simp at hl1
      split at hx1 <;> simp at hx1
      subst hl1; subst hx1; exact hx
    · rw [if_neg e] at hl1 hx1
      exact (h.spot j l1 x1 hl1 hx1).fr hf he (hn _ (by simp; omega)) (fun k s => hn _ (by cases s <;> simp <;> omega) k)
  · intro j l1 t1 hl1 ht1
    exact (h.thr j l1 t1 hl1 ht1).fr hf he (hn _ (by simp)) (fun k j => hn _ (by simp) k) (hn _ (by simp))
/-- A thread is turned. -/
theorem BAt.thrSet (h : BAt own z w L R) {i : Nat} {l l' : TLay} {t' : BThread} (hl : L.ths[i]? = some l) (hb : l'.b = l.b)
    (hf : FrT own z (fun t => t = .thread i ∨ ∃ k, t = .tr i k) w w') (he : Ext own own' w) (hx : ThAt own' z w' i l' t') :
    BAt own' z w' { L with ths := L.ths.set i l' } (R.setTh i t') := by
  have hn : ∀ tag : Tag, ¬ (tag = .thread i ∨ ∃ k, tag = .tr i k) → ∀ k, own k = ⟨z, tag⟩ → ¬ ((own k).z = z ∧ ((own k).tag = .thread i ∨ ∃ j, (own k).tag = .tr i j)) := fun tag ht => not_tag (A := fun t => t = .thread i ∨ ∃ k, t = .tr i k) ht
  have hh := at_fr h.hd h.hown hf he (hn _ (by simp))
  have hp : tptrs (L.ths.set i l') = tptrs L.ths := by
    unfold tptrs
    rw [List.map_set]
    apply List.ext_getElem?
    intro j
    rw [List.getElem?_set]
    split
    · next e =>
      subst e
      split
      · simp [hl, hb]
      · next h2 => simp at h2; simp [List.getElem?_eq_none h2]
    · rfl
  refine ⟨hh.1, hh.2, h.sp.fr hf he (hn _ (by simp)), h.slen, ?_, ?_, by simp [h.tlen, BSt.setTh], ?_, h.log.fr hf he (hn _ (by simp)), h.rd.fr hf he (hn _ (by simp)) (hn _ (by simp)) (hn _ (by simp))⟩
  · intro j l1 x1 hl1 hx1
    exact (h.spot j l1 x1 hl1 hx1).fr hf he (hn _ (by simp)) (fun k s => hn _ (by simp) k)
  · simp only [hp, List.length_set, BSt.setTh]
    exact h.th.fr hf he (hn _ (by simp))
  · intro j l1 t1 hl1 ht1
    simp only [List.getElem?_set, BSt.setTh] at hl1 ht1
    by_cases e : i = j
    · subst e
      rw [if_pos rfl] at hl1 ht1
      split at hl1 <;> simp at hl1
      split at ht1 <;> simp at ht1
      subst hl1; subst ht1; exact hx
    · rw [if_neg e] at hl1 ht1
      exact (h.thr j l1 t1 hl1 ht1).fr hf he (hn _ (by simp; omega)) (fun k j => hn _ (by simp; omega) k) (hn _ (by simp))
/-- The store's own block is turned, its lists are not. -/
theorem BAt.hdSet (h : BAt own z w L R) {R' : BSt} (hf : FrT own z (fun t => t = .store) w w') (he : Ext own own' w) (hA : At w' L.s (R'.head L) 123)
    (e1 : R'.spots = R.spots) (e2 : R'.ts = R.ts) (e3 : R'.log = R.log) (e4 : R'.round = R.round) : BAt own' z w' L R' := by
  have hn : ∀ tag : Tag, ¬ tag = .store → ∀ k, own k = ⟨z, tag⟩ → ¬ ((own k).z = z ∧ (own k).tag = .store) := fun tag ht => not_tag (A := fun t => t = .store) ht
  refine ⟨hA, by rw [he _ h.hd.lt]; exact h.hown, ?_, by rw [e1]; exact h.slen, ?_, ?_, by rw [e2]; exact h.tlen, ?_, ?_, ?_⟩
  · rw [e1]; exact h.sp.fr hf he (hn _ (by simp))
  · rw [e1]; exact fun i l x hl hx => (h.spot i l x hl hx).fr hf he (hn _ (by simp)) (fun k s => hn _ (by simp) k)
  · rw [e2]; exact h.th.fr hf he (hn _ (by simp))
  · rw [e2]; exact fun i l t hl ht => (h.thr i l t hl ht).fr hf he (hn _ (by simp)) (fun k j => hn _ (by simp) k) (hn _ (by simp))
  · rw [e3]; exact h.log.fr hf he (hn _ (by simp))
  · rw [e4]; exact h.rd.fr hf he (hn _ (by simp)) (hn _ (by simp)) (hn _ (by simp))
end

/-- How a store's thread finds itself, and how a spot is found. -/
theorem sptrs_get {l : List SLay} {i : Nat} {x : SLay} (h : l[i]? = some x) : (sptrs l)[i]? = some (.pointer (some ⟨x.b, 0, none⟩)) := by simp [sptrs, h]
theorem tptrs_get {l : List TLay} {i : Nat} {x : TLay} (h : l[i]? = some x) : (tptrs l)[i]? = some (.pointer (some ⟨x.b, 0, none⟩)) := by simp [tptrs, h]
section
variable {own : Own} {z : Nat} {w : World} {L : BLay} {R : BSt}
theorem BAt.spotAt (h : BAt own z w L R) {i : Nat} (hi : i < R.spots.length) : ∃ l sb cap, L.sps[i]? = some l ∧ L.sv = .slice (some ⟨sb, 0, none⟩) R.spots.length cap ∧ w.cell? ⟨sb, i, none⟩ = some (.pointer (some ⟨l.b, 0, none⟩)) ∧
    R.spots[i]? = some (R.sp i) ∧ SpAt own z w i l (R.sp i) := by
  have hx := List.getElem?_eq_getElem hi
  have hb := List.getElem?_eq_getElem (show i < L.sps.length by rw [h.slen]; exact hi)
  obtain ⟨sb, cap, hv, _⟩ := ownsRow_shape h.sp.row (by omega)
  have ho := h.sp.row
  rw [hv] at ho
  have e : R.spots[i]? = some (R.sp i) := by rw [BSt.sp, hx]; rfl
  exact ⟨L.sps[i]'(by rw [h.slen]; exact hi), sb, cap, hb, hv, ownsRow_cell ho (sptrs_get hb), e, h.spot i _ _ hb e⟩
theorem BAt.thAt (h : BAt own z w L R) {i : Nat} (hi : i < R.ts.length) : ∃ l tb cap, L.ths[i]? = some l ∧ L.tv = .slice (some ⟨tb, 0, none⟩) R.ts.length cap ∧ w.cell? ⟨tb, i, none⟩ = some (.pointer (some ⟨l.b, 0, none⟩)) ∧
    R.ts[i]? = some (R.th i) ∧ ThAt own z w i l (R.th i) := by
  have hx := List.getElem?_eq_getElem hi
  have hb := List.getElem?_eq_getElem (show i < L.ths.length by rw [h.tlen]; exact hi)
  obtain ⟨sb, cap, hv, _⟩ := ownsRow_shape h.th.row (by omega)
  have ho := h.th.row
  rw [hv] at ho
  have e : R.ts[i]? = some (R.th i) := by rw [BSt.th, hx]; rfl
  exact ⟨L.ths[i]'(by rw [h.tlen]; exact hi), sb, cap, hb, hv, ownsRow_cell ho (tptrs_get hb), e, h.thr i _ _ hb e⟩
end
end Go.Proofs.YtfccelbmacjifaaGreat

namespace Go.Proofs.YtfccelbmacjifaaGreat

/-! ### The program's memory, as plain data -/
structure PNode where
  key : Int
  value : Int
  dead : Bool
  retired : Bool
  retiredAt : Int
  used : Bool
  holder : Int
  links : Nat
  leads : Bool → Int
structure PEntry where
  used : Bool
  pending : Bool
  src : Int
  side : Bool
  dst : Int
  stamp : Int
def PNode.zero : PNode := ⟨0, 0, false, false, 0, false, 0, 0, fun _ => 0⟩
def PEntry.zero : PEntry := ⟨false, false, 0, false, 0, 0⟩
structure PMem where
  ns : List PNode
  es : List PEntry

/-- The place of the first that p holds of; else -1. -/
def find {α : Type} (p : α → Bool) : List α → Nat → Int
  | [], _ => -1
  | x :: r, i => if p x then i else find p r (i + 1)
theorem find_skip {α : Type} (p : α → Bool) : ∀ (l : List α) (i k : Nat), k ≤ l.length → (∀ j, j < k → ∀ x, l[j]? = some x → p x = false) → find p l i = find p (l.drop k) (i + k)
  | l, i, 0, _, _ => by simp
  | [], i, k + 1, h, _ => by simp at h
  | x :: r, i, k + 1, h, hp => by
    have h0 := hp 0 (by omega) x rfl
    rw [find, if_neg (by simp [h0]), find_skip p r (i + 1) k (by simpa using h) (fun j hj y hy => hp (j + 1) (by omega) y (by simpa using hy))]
    simp only [List.drop_succ_cons]; congr 1; omega
theorem find_hit {α : Type} (p : α → Bool) (l : List α) (k : Nat) (x : α) (hx : l[k]? = some x) (hp : ∀ j, j < k → ∀ y, l[j]? = some y → p y = false) (h : p x = true) : find p l 0 = k := by
  have hk := (List.getElem?_eq_some_iff.1 hx).1
  rw [find_skip p l 0 k (by omega) hp, List.drop_eq_getElem_cons hk, find, if_pos (by rw [(List.getElem?_eq_some_iff.1 hx).2]; exact h)]
  simp
theorem find_miss {α : Type} (p : α → Bool) (l : List α) (hp : ∀ j, j < l.length → ∀ y, l[j]? = some y → p y = false) : find p l 0 = -1 := by
  rw [find_skip p l 0 l.length (by omega) hp, List.drop_length, find]
theorem find_bd {α : Type} (p : α → Bool) : ∀ (l : List α) (i : Nat), (find p l i = -1 ∧ ∀ x ∈ l, p x = false) ∨ (∃ k x, l[k]? = some x ∧ p x = true ∧ find p l i = ((i + k : Nat) : Int) ∧ ∀ j, j < k → ∀ y, l[j]? = some y → p y = false)
  | [], i => .inl ⟨rfl, by simp⟩
  | y :: r, i => by
    by_cases h : p y = true
    · right; exact ⟨0, y, rfl, h, by simp [find, h], by omega⟩
    · rw [find, if_neg h]
      rcases find_bd p r (i + 1) with ⟨h1, h2⟩ | ⟨k, x, h1, h2, h3, h4⟩
      · left; exact ⟨h1, by intro x hx; rcases List.mem_cons.1 hx with rfl | hx; simpa using h; exact h2 x hx⟩
      · right
        refine ⟨k + 1, x, by simpa using h1, h2, by rw [h3]; congr 1; omega, ?_⟩
        intro j hj z hz
        cases j with
        | zero => simp at hz; subst hz; simpa using h
        | succ j => exact h4 j (by omega) z (by simpa using hz)

def PMem.hasNode (M : PMem) (i : Int) : Bool := isIn i 0 (M.ns.length - 1)
def PMem.hasEntry (M : PMem) (i : Int) : Bool := isIn i 0 (M.es.length - 1)
def PMem.node (M : PMem) (i : Int) : PNode := if M.hasNode i then M.ns[i.toNat]?.getD PNode.zero else PNode.zero
def PMem.ent (M : PMem) (i : Int) : PEntry := M.es[i.toNat]?.getD PEntry.zero
def PMem.modN (M : PMem) (i : Int) (f : PNode → PNode) : PMem := if M.hasNode i then { M with ns := M.ns.modify i.toNat f } else M
def PMem.setE (M : PMem) (i : Int) (e : PEntry) : PMem := { M with es := M.es.set i.toNat e }
def PMem.freeEntry (M : PMem) : Int := find (fun x => !x.used) M.es 0
def PMem.freeNode (M : PMem) : Int := find (fun x => !x.used) M.ns 0
def isPd (n : Int) (s : Bool) (e : PEntry) : Bool := e.pending && (e.src == n && e.side == s)
def isSt (n : Int) (s : Bool) (e : PEntry) : Bool := e.used && (!e.pending && (e.src == n && e.side == s))
def PMem.pending (M : PMem) (n : Int) (s : Bool) : Int := find (isPd n s) M.es 0
def PMem.hasLink (M : PMem) (n : Int) (s : Bool) : Bool := M.hasNode n && decide (b2i s < (M.node n).links)
def PMem.pend (M : PMem) (n : Int) (s : Bool) (to : Int) : PMem :=
  if M.hasEntry M.freeEntry && M.hasLink n s then M.setE M.freeEntry ⟨true, true, n, s, to, 0⟩ else M
def PMem.unpend (M : PMem) (n : Int) (s : Bool) : PMem :=
  if M.hasEntry (M.pending n s) then M.setE (M.pending n s) PEntry.zero else M
def PMem.stamp (M : PMem) (n : Int) (s : Bool) (st : Int) : PMem :=
  if M.hasEntry (M.pending n s) then M.setE (M.pending n s) { M.ent (M.pending n s) with pending := false, stamp := st } else M
def PMem.stampNew (M : PMem) (n st : Int) : PMem := (M.stamp n false st).stamp n true st
def PMem.hasPending (M : PMem) (n : Int) (s : Bool) : Bool := M.pending n s != -1
/-- One link more. -/
def linked (s : Bool) (to : Int) (x : PNode) : PNode := { x with links := x.links + 1, leads := upd x.leads s to }
def PMem.addLink (M : PMem) (n to : Int) : PMem :=
  if M.hasNode n && M.freeEntry != -1 then
    match (M.node n).links with
    | 0 => (M.modN n (linked false to)).pend n false to
    | 1 => (M.modN n (linked true to)).pend n true to
    | _ => M
  else M
def PNode.made (key value : Int) : PNode := { PNode.zero with key := key, value := value, used := true, holder := -1 }
def PMem.make (M : PMem) (key value : Int) : PMem × Int :=
  if M.hasNode M.freeNode then ({ M with ns := M.ns.set M.freeNode.toNat (PNode.made key value) }, M.freeNode) else (M, -1)
def ofNode (n : Int) (e : PEntry) : Bool := e.used && e.src == n
def PMem.free (M : PMem) (n : Int) : PMem :=
  if M.hasNode n && (n != 0 && n != 1) then { ns := M.ns.set n.toNat PNode.zero, es := M.es.map fun e => if ofNode n e then PEntry.zero else e } else M
def PMem.lock (M : PMem) (n t : Int) : PMem × Bool :=
  if M.hasNode n then
    if (M.node n).holder != -1 && (M.node n).holder != t then (M, false) else (M.modN n fun x => { x with holder := t }, true)
  else (M, false)
def unlocked (t : Int) (x : PNode) : PNode := if x.used && x.holder == t then { x with holder := -1 } else x
def PMem.unlock (M : PMem) (t : Int) : PMem := { M with ns := M.ns.map (unlocked t) }
def PMem.kill (M : PMem) (n : Int) : PMem := M.modN n fun x => { x with dead := true }
def PMem.retire (M : PMem) (n time : Int) : PMem := M.modN n fun x => { x with retired := true, retiredAt := time }
def retiredFrom : List PNode → Nat → List Nat
  | [], _ => []
  | x :: r, i => if x.retired then i :: retiredFrom r (i + 1) else retiredFrom r (i + 1)
def PMem.sideFor (M : PMem) (n key : Int) : Bool := (M.node n).links == 2 && decide ((M.node n).key ≤ key)
def PMem.leadsTo (M : PMem) (n : Int) (s : Bool) : Int := if M.hasLink n s then (M.node n).leads s else -1
def PMem.lead (M : PMem) (n : Int) (s : Bool) : PMem :=
  if M.hasEntry (M.pending n s) && M.hasLink n s then M.modN n fun x => { x with leads := upd x.leads s (M.ent (M.pending n s)).dst } else M
/-- The newest stamp so far up to a time, and where it leads. -/
def ledStep (n : Int) (s : Bool) (time : Int) (p : Int × Int) (e : PEntry) : Int × Int :=
  if isSt n s e && (decide (e.stamp ≤ time) && decide (p.1 < e.stamp)) then (e.stamp, e.dst) else p
def PMem.ledTo (M : PMem) (n : Int) (s : Bool) (time : Int) : Int := (M.es.foldl (ledStep n s time) (-1, 1)).2
def stampAbove (n : Int) (s : Bool) (above time : Int) (e : PEntry) : Bool := isSt n s e && (decide (above < e.stamp) && decide (e.stamp ≤ time))
def dropOne (time : Int) (es : List PEntry) (k : Nat) : List PEntry :=
  match es[k]? with
  | some e => if isSt e.src e.side e && es.any (stampAbove e.src e.side e.stamp time) then es.set k PEntry.zero else es
  | none => es
def dropTo (time : Int) (es : List PEntry) : Nat → List PEntry
  | 0 => es
  | k + 1 => dropOne time (dropTo time es k) k
def PMem.drop (M : PMem) (time : Int) : PMem := { M with es := dropTo time M.es M.es.length }
def count {α : Type} (p : α → Bool) (l : List α) : Nat := (l.filter p).length
def PMem.room (M : PMem) : Int × Int := (count (fun x => !x.used) M.ns, count (fun x => !x.used) M.es)

/-! ### The program's store -/
structure PWork where
  kind : Int
  key : Int
  value : Int
  spans : List (Int × Int)
  next : Nat
  time : Int
  stand : Int
  ahead : Int
  above : Int
  locks : Nat
  made : List Int
  tsrc : Int
  tside : Bool
  links : List (Int × Bool)
  noted : List (Int × Int)
  ans : BAns
def PWork.zero : PWork := ⟨0, 0, 0, [], 0, 0, 0, 0, 0, 0, [], 0, false, [], [], {}⟩
structure PThread where
  slot : Int
  busy : Bool
  work : PWork
  hasEnded : Bool
  last : BAns
def PThread.zero : PThread := ⟨0, false, PWork.zero, false, {}⟩
structure PSweep where
  made : Nat
  clock : Int
  retired : List Nat
  hasTime : Bool
  time : Int
def PSweep.zero : PSweep := ⟨0, 0, [], false, 0⟩
structure PSt where
  kind : Int
  limit : Int
  clock : Int
  mem : PMem
  ts : List PThread
  sweep : PSweep
def PSt.th (P : PSt) (i : Nat) : PThread := P.ts[i]?.getD PThread.zero
def PSt.setW (P : PSt) (i : Nat) (k : PWork) : PSt := { P with ts := P.ts.modify i fun t => { t with work := k } }
def PSt.setT (P : PSt) (i : Nat) (t : PThread) : PSt := { P with ts := P.ts.set i t }
def PSt.setM (P : PSt) (M : PMem) : PSt := { P with mem := M }

def PSt.leadsFrom (P : PSt) (n key : Int) : Int := P.mem.leadsTo n (P.mem.sideFor n key)
def PSt.isPassed (P : PSt) (n key : Int) : Bool := if P.kind = 1 then (P.mem.node n).links == 2 else decide ((P.mem.node n).key < key)
def PSt.meetsKey (P : PSt) (k : PWork) : Bool := (P.mem.node k.ahead).key == k.key
def PSt.takesOut (P : PSt) (k : PWork) : Bool := k.kind == 2 && P.meetsKey k
def PSt.wanted (P : PSt) (k : PWork) : List Int := if P.takesOut k then (if P.kind = 1 then [k.above, k.stand] else [k.stand, k.ahead]) else [k.stand]
def PSt.asFound (P : PSt) (n to key : Int) : Bool := !(P.mem.node n).dead && P.leadsFrom n key == to
def PSt.outdated (P : PSt) (k : PWork) : Bool :=
  if P.asFound k.stand k.ahead k.key then
    if P.kind = 0 then (P.mem.node k.ahead).dead else P.takesOut k && !P.asFound k.above k.stand k.key
  else true
def PSt.needs (P : PSt) (kind : Int) : Int × Int := if kind = 2 then (0, 1) else if P.kind = 1 then (2, 3) else (1, 2)
def PWork.home (k : PWork) : PWork := { k with stand := 0, next := 4 }
def PWork.settle (k : PWork) (a : BAns) : PWork := { k with ans := a, next := 12 }
def PWork.conclude (k : PWork) (a : BAns) : PWork := { k with ans := a, next := 13 }

def PSt.walk (P : PSt) (k : PWork) : PWork :=
  if P.isPassed (P.leadsFrom k.stand k.key) k.key then { k with above := k.stand, stand := P.leadsFrom k.stand k.key }
  else { k with ahead := P.leadsFrom k.stand k.key, next := 5 }
def PSt.lock (P : PSt) (i : Nat) (k : PWork) : PSt × Int :=
  if k.locks < (P.wanted k).length then
    if (P.mem.lock ((P.wanted k)[k.locks]?.getD 0) i).2 then
      ((P.setM (P.mem.lock ((P.wanted k)[k.locks]?.getD 0) i).1).setW i { k with locks := k.locks + 1, next := if (P.wanted k).length ≤ k.locks + 1 then 6 else k.next }, 1)
    else (P, 2)
  else (P.setW i { k with next := 6 }, 1)
def PSt.check (P : PSt) (i : Nat) (k : PWork) : PSt :=
  if P.outdated k then (P.setM (P.mem.unlock i)).setW i ({ k with locks := 0 } : PWork).home
  else if P.meetsKey k == (k.kind == 1) then P.setW i (k.settle { stamp := P.clock })
  else P.setW i { k with next := 7 }
/-- An inner node above two leaves. -/
def PMem.join (M : PMem) (one other : Int) : PMem × Int :=
  let lesser := if (M.node other).key < (M.node one).key then other else one
  let greater := if (M.node other).key < (M.node one).key then one else other
  let p := M.make (M.node greater).key 0
  ((p.1.addLink p.2 lesser).addLink p.2 greater, p.2)
def PSt.prepareInsert (P : PSt) (k : PWork) : PMem × PWork :=
  let p := P.mem.make k.key k.value
  let s := p.1.sideFor k.stand k.key
  if P.kind = 0 then
    (((p.1.addLink p.2 k.ahead).pend k.stand s p.2), { k with made := k.made ++ [p.2], tsrc := k.stand, tside := s })
  else
    let q := p.1.join p.2 k.ahead
    (q.1.pend k.stand s q.2, { k with made := k.made ++ [p.2] ++ [q.2], tsrc := k.stand, tside := s })
def PSt.prepareRemove (P : PSt) (k : PWork) : PMem × PWork :=
  let s := P.mem.sideFor k.stand k.key
  if P.kind = 0 then
    (P.mem.pend k.stand s (P.leadsFrom k.ahead k.key), { k with tsrc := k.stand, tside := s })
  else
    let r := P.mem.sideFor k.above k.key
    (P.mem.pend k.above r (P.mem.leadsTo k.stand (!s)), { k with tsrc := k.above, tside := r })
def PSt.prepare (P : PSt) (i : Nat) (k : PWork) : PSt :=
  if P.mem.room.1 < (P.needs k.kind).1 ∨ P.mem.room.2 < (P.needs k.kind).2 then P.setW i (k.settle { err := 7 })
  else
    let p := if k.kind = 1 then P.prepareInsert k else P.prepareRemove k
    (P.setM p.1).setW i { p.2 with next := 8 }
def PMem.frees (M : PMem) : List Int → PMem
  | [] => M
  | n :: r => (M.free n).frees r
def PMem.stampsNew (M : PMem) (st : Int) : List Int → PMem
  | [] => M
  | n :: r => (M.stampNew n st).stampsNew st r
def PMem.kills (M : PMem) : List Int → PMem
  | [] => M
  | n :: r => (M.kill n).kills r
def PMem.retires (M : PMem) (time : Int) : List Int → PMem
  | [] => M
  | n :: r => (M.retire n time).retires time r
def PSt.take (P : PSt) (i : Nat) (k : PWork) : PSt :=
  if P.limit ≤ P.clock then (P.setM ((P.mem.unpend k.tsrc k.tside).frees k.made)).setW i (k.settle { err := 8 })
  else
    let P1 := { P with clock := P.clock + 1 }
    if k.kind = 2 then P1.setW i { k with ans := { did := true, stamp := P.clock + 1, value := (P.mem.node k.ahead).value }, next := 9 }
    else (P1.setM (P.mem.stampsNew (P.clock + 1) k.made)).setW i { k with ans := { did := true, stamp := P.clock + 1 }, next := 10 }
def PSt.takenOut (P : PSt) (k : PWork) : List Int := if P.kind = 1 then [k.ahead, k.stand] else [k.ahead]
def PSt.unlock (P : PSt) (i : Nat) (k : PWork) : PSt :=
  let M := P.mem.unlock i
  (P.setM (if k.kind = 2 ∧ k.ans.did = true then M.retires P.clock (P.takenOut k) else M)).setW i { k with locks := 0, next := 13 }
/-- A step of an update, from the walk to the unlocking. -/
def PSt.update (P : PSt) (i : Nat) (k : PWork) : PSt × Int :=
  match k.next with
  | 4 => (P.setW i (P.walk k), 1)
  | 5 => P.lock i k
  | 6 => (P.check i k, 1)
  | 7 => (P.prepare i k, 1)
  | 8 => (P.take i k, 1)
  | 9 => ((P.setM (P.mem.kills (P.takenOut k))).setW i { k with next := 10 }, 1)
  | 10 => ((P.setM (P.mem.lead k.tsrc k.tside)).setW i { k with next := 11 }, 1)
  | 11 => ((P.setM (P.mem.stamp k.tsrc k.tside k.ans.stamp)).setW i { k with next := 12 }, 1)
  | 12 => (P.unlock i k, 1)
  | _ => (P, 1)

/-! ### Reads -/
def leastLo (l : List (Int × Int)) : Int := l.foldl (fun m p => if p.1 < m then p.1 else m) (2 ^ 40)
def greatestHi (l : List (Int × Int)) : Int := l.foldl (fun m p => if p.2 > m then p.2 else m) 0
def PSt.linkNext (P : PSt) (k : PWork) : Int × Bool := match k.links with
  | p :: _ => p
  | [] => (k.stand, P.mem.sideFor k.stand k.key)
def PSt.lookUp (P : PSt) (k : PWork) (ahead : Int) : PWork :=
  if P.isPassed ahead k.key then { k with stand := ahead }
  else k.conclude (if (P.mem.node ahead).key = k.key then { stamp := k.time, did := true, value := (P.mem.node ahead).value } else { stamp := k.time })
def PSt.linksWithin (P : PSt) (n lo hi : Int) : List (Int × Bool) :=
  if P.kind = 0 then (if (P.mem.node n).key ≤ hi then [(n, false)] else [])
  else (if (P.mem.node n).links == 2 && decide (lo < (P.mem.node n).key) then [(n, false)] else []) ++ (if (P.mem.node n).links == 2 && decide ((P.mem.node n).key ≤ hi) then [(n, true)] else [])
def answerOf (spans noted : List (Int × Int)) (stamp : Int) : BAns :=
  if lensOf (spanLists spans noted) > 64 then { err := 9 } else { stamp := stamp, spans := spanLists spans noted }
def PSt.scan (P : PSt) (k : PWork) (ahead : Int) : PWork :=
  let lo := leastLo k.spans
  let hi := greatestHi k.spans
  let nd := P.mem.node ahead
  let noted := if !(nd.links == 2) && isIn nd.key lo hi then k.noted ++ [(nd.key, nd.value)] else k.noted
  let links := P.linksWithin ahead lo hi ++ k.links.drop 1
  let k1 := { k with noted := noted, links := links }
  if links.length = 0 then k1.conclude (answerOf k.spans noted k.time) else k1
def PSt.read (P : PSt) (i : Nat) (k : PWork) : PSt × Int :=
  let p := P.linkNext k
  if P.mem.hasPending p.1 p.2 then (P, 2)
  else (P.setW i (if k.kind = 3 then P.lookUp k (P.mem.ledTo p.1 p.2 k.time) else P.scan k (P.mem.ledTo p.1 p.2 k.time)), 1)

/-! ### The calls -/
def PThread.leave (t : PThread) : PThread := { t with slot := 0, last := t.work.ans, hasEnded := true, busy := false, work := PWork.zero }
def PSt.step (P : PSt) (i : Nat) (t : PThread) : PSt × Int :=
  match t.work.next with
  | 1 => (P.setT i { t with slot := 1, work := { t.work with next := 2 } }, 1)
  | 2 => (P.setT i { t with work := { t.work with time := P.clock, next := 3 } }, 1)
  | 3 => (P.setT i { t with slot := 2, work := t.work.home }, 1)
  | 13 => (P.setT i t.leave, 3)
  | _ => if t.work.kind = 3 ∨ t.work.kind = 4 then P.read i t.work else P.update i t.work
def spansOkX : List (Int × Int) → Bool
  | [] => true
  | p :: r => isIn p.1 0 (2 ^ 40) && (isIn p.2 0 (2 ^ 40) && (decide (p.1 ≤ p.2) && spansOkX r))
def checkOp (kind key : Int) (spans : List (Int × Int)) : Int :=
  if kind = 1 ∨ kind = 2 ∨ kind = 3 then (if isIn key 0 (2 ^ 40) then 0 else 5)
  else if kind = 4 then (if isIn spans.length 1 16 && spansOkX spans then 0 else 6)
  else 5
def newWork (kind key value : Int) (spans : List (Int × Int)) : PWork :=
  let k := { PWork.zero with kind := kind, next := 1 }
  if kind = 1 then { k with key := key, value := value }
  else if kind = 2 ∨ kind = 3 then { k with key := key }
  else if kind = 4 then { k with spans := spans, links := [(0, false)] }
  else k
def PSt.begin (P : PSt) (i kind key value : Int) (spans : List (Int × Int)) : PSt × Int :=
  if isIn i 0 (P.ts.length - 1) then
    if (P.th i.toNat).busy then (P, 3)
    else if checkOp kind key spans = 0 then (P.setT i.toNat { P.th i.toNat with busy := true, work := newWork kind key value spans }, 0) else (P, checkOp kind key spans)
  else (P, 2)
def PSweep.lookAt (r : PSweep) (t : PThread) : PSweep :=
  if t.slot = 2 then { r with time := if !r.hasTime || decide (t.work.time < r.time) then t.work.time else r.time, hasTime := true } else r
def PMem.freesIf (M : PMem) (hasTime : Bool) (time : Int) : List Nat → PMem
  | [] => M
  | n :: r => (if !hasTime || decide ((M.node n).retiredAt < time) then M.free n else M).freesIf hasTime time r
def PSt.doSweep (P : PSt) : PSt × Int :=
  let r := P.sweep
  if r.made = 0 then ({ P with sweep := { r with made := 1, clock := P.clock, retired := retiredFrom P.mem.ns 0 } }, 1)
  else if r.made - 1 < P.ts.length then
    if (P.th (r.made - 1)).slot = 1 then (P, 2)
    else ({ P with sweep := { r.lookAt (P.th (r.made - 1)) with made := r.made + 1 } }, 1)
  else if r.made - 1 = P.ts.length then
    ({ P with mem := P.mem.drop (if r.hasTime && decide (r.time < r.clock) then r.time else r.clock), sweep := { r with made := r.made + 1 } }, 1)
  else ({ P with mem := P.mem.freesIf r.hasTime r.time r.retired, sweep := PSweep.zero }, 3)
end Go.Proofs.YtfccelbmacjifaaGreat

