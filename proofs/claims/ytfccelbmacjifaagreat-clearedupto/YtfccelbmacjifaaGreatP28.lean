import Derived.Test.YtfccelbmacjifaaGreatP27
set_option linter.unusedSimpArgs false
namespace Go.Proofs.YtfccelbmacjifaaGreat
/-- A node of the chain: its place, its key and its value. -/
abbrev Spot3 := Nat × Int × Int
def anchor3 : Spot3 := (0, 0, 0)
/-- The first place of a chain; the end behind the last. -/
def heads : List Spot3 → Nat
  | [] => 1
  | y :: _ => y.1
def lastOf (x : Spot3) : List Spot3 → Spot3
  | [] => x
  | y :: r => lastOf y r
def edges (x : Spot3) : List Spot3 → List (Spot3 × Nat)
  | [] => [(x, 1)]
  | y :: r => (x, y.1) :: edges y r
def preE (x : Spot3) : List Spot3 → List (Spot3 × Nat)
  | [] => []
  | y :: r => (x, y.1) :: preE y r
def postE : List Spot3 → List (Spot3 × Nat)
  | [] => []
  | y :: r => edges y r
theorem edges_head (x : Spot3) (b : List Spot3) : edges x b = (x, heads b) :: postE b := by cases b <;> rfl
theorem edges_app : ∀ (a : List Spot3) (x : Spot3) (b : List Spot3), edges x (a ++ b) = preE x a ++ (lastOf x a, heads b) :: postE b
  | [], x, b => edges_head x b
  | y :: r, x, b => by
    show (x, y.1) :: edges y (r ++ b) = (x, y.1) :: (preE y r ++ _)
    rw [edges_app r y b]; rfl
def Live (M : PMem) (q : Spot3 × Nat) : Prop := ∃ nd, M.ns[q.1.1]? = some nd ∧ nd.used = true ∧ nd.dead = false ∧ nd.retired = false ∧ nd.holder = -1 ∧ nd.links = 1 ∧ nd.key = q.1.2.1 ∧ nd.value = q.1.2.2 ∧ nd.leads false = q.2
def Newest (es : List PEntry) (x to : Nat) : Prop := ∃ en ∈ es, en.used = true ∧ en.src = x ∧ en.dst = to ∧ ∀ e' ∈ es, e'.used = true → e'.src = x → e'.stamp ≤ en.stamp
def EndIs (M : PMem) : Prop := ∃ nd, M.ns[1]? = some nd ∧ nd.used = true ∧ nd.dead = false ∧ nd.retired = false ∧ nd.holder = -1 ∧ nd.links = 0 ∧ nd.key = 1099511627777
/-- The memory of a list when nothing is under way. -/
structure QM (M : PMem) (c : Int) (ch : List Spot3) : Prop where
  end_ : EndIs M
  live : ∀ q ∈ edges anchor3 ch, Live M q
  newest : ∀ q ∈ edges anchor3 ch, Newest M.es q.1.1 q.2
  sorted : ch.Pairwise (fun a b => a.2.1 < b.2.1)
  keys : ∀ q ∈ ch, 0 ≤ q.2.1 ∧ q.2.1 ≤ 1099511627776
  nodup : (0 :: 1 :: ch.map (·.1)).Nodup
  used : ∀ (i : Nat) nd, M.ns[i]? = some nd → nd.used = true → i ∈ 0 :: 1 :: ch.map (·.1) ∨ (nd.retired = true ∧ nd.dead = true)
  unused : ∀ nd ∈ M.ns, nd.used = false → nd.retired = false
  hold : ∀ nd ∈ M.ns, nd.used = true → nd.holder = -1
  calm : ∀ en ∈ M.es, en.pending = false
  ents : ∀ en ∈ M.es, en.used = true → en.side = false ∧ 0 ≤ en.stamp ∧ en.stamp ≤ c ∧ ∃ (x : Nat) (nd : PNode), en.src = x ∧ x ≠ 1 ∧ M.ns[x]? = some nd ∧ nd.used = true
  uniq : ∀ (i j : Nat) a b, M.es[i]? = some a → M.es[j]? = some b → a.used = true → b.used = true → a.src = b.src → a.stamp = b.stamp → i = j
section
variable {M : PMem} {P : PSt} {i : Nat} {t : PThread} {c sl : Int} {k : PWork}
theorem hasNode_of {x : Nat} {nd : PNode} (h : M.ns[x]? = some nd) : M.hasNode x = true := by
  have := (List.getElem?_eq_some_iff.1 h).1
  unfold PMem.hasNode
  rw [isIn_iff]; omega
theorem node_of {x : Nat} {nd : PNode} (h : M.ns[x]? = some nd) : M.node x = nd := by
  unfold PMem.node
  rw [if_pos (hasNode_of h)]
  simp [h]
theorem Live.leads {q : Spot3 × Nat} (h : Live M q) (hm : P.mem = M) (key : Int) : P.leadsFrom q.1.1 key = q.2 ∧ M.sideFor q.1.1 key = false := by
  obtain ⟨nd, h1, h2, h3, h4, h5, h6, h7, h8, h9⟩ := h
  have hs : M.sideFor q.1.1 key = false := by
    unfold PMem.sideFor
    rw [node_of h1, h6]; rfl
  refine ⟨?_, hs⟩
  unfold PSt.leadsFrom
  rw [hm, hs]
  unfold PMem.leadsTo PMem.hasLink
  rw [hasNode_of h1, node_of h1, h6, h9]
  rfl
theorem Live.key {q : Spot3 × Nat} (h : Live M q) : (M.node q.1.1).key = q.1.2.1 ∧ (M.node q.1.1).value = q.1.2.2 ∧ (M.node q.1.1).dead = false ∧ (M.node q.1.1).links = 1 := by
  obtain ⟨nd, h1, h2, h3, h4, h5, h6, h7, h8, h9⟩ := h
  rw [node_of h1]; exact ⟨h7, h8, h3, h6⟩
theorem mem_edges_self (x : Spot3) (b : List Spot3) : (x, heads b) ∈ edges x b := by rw [edges_head]; simp
/-- The walk from x over a, as far as the first of b. -/
theorem run_walk (hi : i < P.ts.length) (h0 : P.kind = 0) (hk : k.kind = 1 ∨ k.kind = 2) (b : List Spot3) (hb : k.key ≤ (M.node (heads b)).key) : ∀ (a : List Spot3) (x : Spot3) (ab : Int), (∀ q ∈ edges x (a ++ b), Live M q) → (∀ q ∈ a, q.2.1 < k.key) →
    ∃ ab', Run (st P i t M c sl { k with above := ab, stand := x.1, next := 4 }) i (a.length + 1) (st P i t M c sl { k with above := ab', stand := (lastOf x a).1, ahead := heads b, next := 5 })
  | [], x, ab, hl, _ => by
    refine ⟨ab, run_upd (k := { k with above := ab, stand := x.1, next := 4 }) hi hk ⟨by show 4 ≤ 4; omega, by show 4 ≤ 12; omega⟩ ?_⟩
    have hL := hl (x, heads b) (by simp [mem_edges_self])
    unfold PSt.update
    simp only
    congr 1
    rw [st_setW hi]
    unfold PSt.walk
    rw [(hL.leads (P := st P i t M c sl { k with above := ab, stand := x.1, next := 4 }) rfl k.key).1]
    have hp : (st P i t M c sl { k with above := ab, stand := x.1, next := 4 }).isPassed ((x, heads b).2 : Nat) k.key = false := by
      unfold PSt.isPassed
      rw [if_neg (by show ¬ P.kind = 1; omega)]
      simp only [decide_eq_false_iff_not]
      show ¬ (M.node (heads b)).key < k.key
      omega
    simp only [hp]
    rfl
  | y :: r, x, ab, hl, ha => by
    have hL := hl (x, y.1) (by simp [edges])
    have hl' : ∀ q ∈ edges y (r ++ b), Live M q := fun q hq => hl q (by show q ∈ (x, y.1) :: edges y (r ++ b); simp [hq])
    have hy : (M.node y.1).key = y.2.1 := ((hl' (y, heads (r ++ b)) (mem_edges_self _ _)).key).1
    obtain ⟨ab', hr⟩ := run_walk hi h0 hk b hb r y x.1 hl' (fun q hq => ha q (by simp [hq]))
    refine ⟨ab', ?_⟩
    have e1 : Run (st P i t M c sl { k with above := ab, stand := x.1, next := 4 }) i 1 (st P i t M c sl { k with above := x.1, stand := y.1, next := 4 }) := by
      refine run_upd (k := { k with above := ab, stand := x.1, next := 4 }) hi hk ⟨by show 4 ≤ 4; omega, by show 4 ≤ 12; omega⟩ ?_
      unfold PSt.update
      simp only
      congr 1
      rw [st_setW hi]
      unfold PSt.walk
      rw [(hL.leads (P := st P i t M c sl { k with above := ab, stand := x.1, next := 4 }) rfl k.key).1]
      have hp : (st P i t M c sl { k with above := ab, stand := x.1, next := 4 }).isPassed ((x, y.1).2 : Nat) k.key = true := by
        unfold PSt.isPassed
        rw [if_neg (by show ¬ P.kind = 1; omega)]
        simp only [decide_eq_true_eq]
        show (M.node y.1).key < k.key
        rw [hy]; exact ha y (by simp)
      simp only [hp]
      rfl
    have := e1.trans hr
    rw [show (y :: r).length + 1 = 1 + (r.length + 1) by simp; omega]
    exact this
end
end Go.Proofs.YtfccelbmacjifaaGreat

set_option linter.unusedSimpArgs false
namespace Go.Proofs.YtfccelbmacjifaaGreat
section
variable {M M1 : PMem} {P : PSt} {i : Nat} {t : PThread} {c sl : Int} {k : PWork} {g : Nat → PNode → PNode}
/-- The nodes of M1 are those of M, each turned by g. -/
def Turns (M M1 : PMem) (g : Nat → PNode → PNode) : Prop := ∀ j, M1.ns[j]? = (M.ns[j]?).map (g j)
theorem Turns.refl (M : PMem) : Turns M M (fun _ y => y) := fun j => by simp
theorem Turns.modN (h : Turns M M1 g) (x : Nat) (f : PNode → PNode) : Turns M (M1.modN x f) (fun j y => if x = j then f (g j y) else g j y) := by
  intro j
  have hget : (M1.modN x f).ns[j]? = (M1.ns[j]?).map (fun y => if x = j then f y else y) := by
    unfold PMem.modN
    split
    · simp only [Int.toNat_natCast, List.getElem?_modify]
      by_cases hx : x = j
      · simp [hx]
      · simp [hx]
    · rename_i hn
      have hx : ¬ x < M1.ns.length := by
        intro hlt
        exact hn (hasNode_of (List.getElem?_eq_getElem hlt))
      by_cases hj : x = j
      · subst hj; rw [List.getElem?_eq_none (by omega)]; rfl
      · simp [hj]
  rw [hget, h j]
  cases M.ns[j]? with
  | none => rfl
  | some y => by_cases hx : x = j <;> simp [hx]
theorem Turns.unlock (h : Turns M M1 g) (i : Nat) : Turns M (M1.unlock i) (fun j y => unlocked i (g j y)) := by
  intro j
  show (M1.ns.map (unlocked i))[j]? = _
  rw [List.getElem?_map, h j]
  cases M.ns[j]? <;> rfl
theorem Turns.same (h : Turns M M1 g) (he : M1.es = M.es) (hg : ∀ (j : Nat) y, M.ns[j]? = some y → g j y = y) : M1 = M := by
  obtain ⟨ns, es⟩ := M
  obtain ⟨ns1, es1⟩ := M1
  simp only at he
  subst he
  congr 1
  apply List.ext_getElem?
  intro j
  have h1 := h j
  simp only at h1 hg
  rw [h1]
  cases hy : ns[j]? with
  | none => rfl
  | some y => simp [hg j y hy]
theorem modN_es (x : Int) (f : PNode → PNode) : (M.modN x f).es = M.es := by unfold PMem.modN; split <;> rfl
theorem lock_ok {x : Nat} {nd : PNode} (h : M.ns[x]? = some nd) (hh : nd.holder = -1) : M.lock x i = (M.modN x (fun y => { y with holder := i }), true) := by
  unfold PMem.lock
  rw [if_pos (hasNode_of h), node_of h, hh]
  simp
/-- The lock on the node where the walk stands. -/
theorem run_lock1 (hi : i < P.ts.length) (hk : k.kind = 1 ∨ k.kind = 2) (hn : k.next = 5) (hl : k.locks = 0) {x : Nat} (hx : k.stand = x) {nd : PNode} (h : M.ns[x]? = some nd) (hh : nd.holder = -1) (ht : (st P i t M c sl k).takesOut k = false) :
    Run (st P i t M c sl k) i 1 (st P i t (M.modN x (fun y => { y with holder := i })) c sl { k with locks := 1, next := 6 }) := by
  refine run_upd hi hk (by omega) ?_
  unfold PSt.update
  rw [hn]
  simp only
  unfold PSt.lock PSt.wanted
  rw [ht, hl]
  simp only [Bool.false_eq_true, if_false, List.length_singleton, Nat.zero_lt_one, if_true, List.getElem?_cons_zero, Option.getD_some]
  rw [show (st P i t M c sl k).mem = M from rfl, hx, lock_ok h hh]
  simp only [if_true, Nat.zero_add, Nat.le_refl]
  rw [st_setM, st_setW hi]
theorem leads_of (S : PSt) {x : Nat} {nd : PNode} (hx : S.mem.ns[x]? = some nd) (h1 : nd.links = 1) (key : Int) : S.leadsFrom x key = nd.leads false ∧ S.mem.sideFor x key = false := by
  have hs : S.mem.sideFor x key = false := by unfold PMem.sideFor; rw [node_of hx, h1]; rfl
  refine ⟨?_, hs⟩
  unfold PSt.leadsFrom
  rw [hs]
  unfold PMem.leadsTo PMem.hasLink
  rw [hasNode_of hx, node_of hx, h1]
  rfl
theorem meets_of (S : PSt) (k : PWork) {y : Nat} {nb : PNode} (ha : k.ahead = y) (hb : S.mem.ns[y]? = some nb) : S.meetsKey k = (nb.key == k.key) := by
  unfold PSt.meetsKey
  rw [ha, node_of hb]
theorem outdated_no (S : PSt) (k : PWork) (h0 : S.kind = 0) {x y : Nat} {nd nb : PNode} (hst : k.stand = x) (ha : k.ahead = y) (hx : S.mem.ns[x]? = some nd) (hd : nd.dead = false) (hl : nd.links = 1) (hle : nd.leads false = y) (hb : S.mem.ns[y]? = some nb) (hbd : nb.dead = false) : S.outdated k = false := by
  unfold PSt.outdated PSt.asFound
  rw [hst, ha, (leads_of S hx hl k.key).1, node_of hx, node_of hb, hd, hle, hbd, h0]
  simp
/-- An update that changes nothing. -/
theorem run_not (hi : i < P.ts.length) (h0 : P.kind = 0) (hk : k.kind = 1 ∨ k.kind = 2) (hn : k.next = 5) (hl : k.locks = 0) {x : Spot3} {b : List Spot3} (hx : k.stand = x.1) (ha : k.ahead = heads b) (hL : Live M (x, heads b)) {nb : PNode} (hb : M.ns[heads b]? = some nb) (hbd : nb.dead = false) (hne : x.1 ≠ heads b)
    (hm : (nb.key == k.key) = (k.kind == 1)) (hu : ∀ nd ∈ M.ns, nd.used = true → nd.holder = -1) :
    Run (st P i t M c sl k) i 3 (st P i t M c sl { k with locks := 0, ans := { stamp := c }, next := 13 }) := by
  obtain ⟨nd, l1, l2, l3, l4, l5, l6, l7, l8, l9⟩ := hL
  simp only at l1 l9
  obtain ⟨M1, hM1⟩ : ∃ M1, M1 = M.modN x.1 (fun y => { y with holder := (i : Int) }) := ⟨_, rfl⟩
  have hT := (Turns.refl M).modN x.1 (fun y => { y with holder := (i : Int) })
  rw [← hM1] at hT
  have hes : M1.es = M.es := by rw [hM1]; exact modN_es _ _
  have hmeet : (st P i t M c sl k).meetsKey k = (k.kind == 1) := (meets_of _ k ha hb).trans hm
  have e1 := run_lock1 (P := P) (t := t) (c := c) (sl := sl) hi hk hn hl hx l1 l5 (by unfold PSt.takesOut; rw [hmeet]; rcases hk with h | h <;> rw [h] <;> rfl)
  rw [← hM1] at e1
  have hx1 : M1.ns[x.1]? = some { nd with holder := i } := by rw [hT, l1]; simp
  have hb1 : M1.ns[heads b]? = some nb := by rw [hT, hb]; simp [hne]
  have e2 : Run (st P i t M1 c sl { k with locks := 1, next := 6 }) i 1 (st P i t M1 c sl { k with locks := 1, ans := { stamp := c }, next := 12 }) := by
    refine run_upd (k := { k with locks := 1, next := 6 }) hi hk ⟨by show 4 ≤ 6; omega, by show 6 ≤ 12; omega⟩ ?_
    unfold PSt.update
    simp only
    congr 1
    unfold PSt.check
    have ho : (st P i t M1 c sl { k with locks := 1, next := 6 }).outdated { k with locks := 1, next := 6 } = false := outdated_no _ _ h0 hx ha hx1 l3 l6 l9 hb1 hbd
    rw [ho]
    have hm1 : (st P i t M1 c sl { k with locks := 1, next := 6 }).meetsKey { k with locks := 1, next := 6 } = (k.kind == 1) := (meets_of _ { k with locks := 1, next := 6 } ha hb1).trans hm
    simp only [Bool.false_eq_true, if_false, hm1, beq_self_eq_true, if_true]
    rw [st_setW hi]
    rfl
  have hun : M1.unlock i = M := by
    refine Turns.same (hT.unlock i) hes ?_
    intro j y hy
    by_cases hj : x.1 = j
    · subst hj
      rw [l1] at hy
      obtain rfl := Option.some.inj hy
      simp only [if_true, unlocked, l2, beq_self_eq_true, Bool.and_self]
      rw [← l5, ← l2]
    · simp only [hj, if_false]
      unfold unlocked
      split
      · rename_i hc
        simp only [Bool.and_eq_true, beq_iff_eq] at hc
        have := hu y (List.mem_of_getElem? hy) hc.1
        omega
      · rfl
  have e3 : Run (st P i t M1 c sl { k with locks := 1, ans := { stamp := c }, next := 12 }) i 1 (st P i t M c sl { k with locks := 0, ans := { stamp := c }, next := 13 }) := by
    refine run_upd (k := { k with locks := 1, ans := { stamp := c }, next := 12 }) hi hk ⟨by show 4 ≤ 12; omega, by show 12 ≤ 12; omega⟩ ?_
    unfold PSt.update
    simp only
    congr 1
    unfold PSt.unlock
    simp only
    rw [if_neg (by simp), show (st P i t M1 c sl { k with locks := 1, ans := { stamp := c }, next := 12 }).mem = M1 from rfl, hun, st_setM, st_setW hi]
  exact (e1.trans e2).trans e3
end
end Go.Proofs.YtfccelbmacjifaaGreat

set_option linter.unusedSimpArgs false
namespace Go.Proofs.YtfccelbmacjifaaGreat
/-! ### The memory's operations, where nobody else is at work -/
section
variable {M M1 : PMem} {g : Nat → PNode → PNode}
theorem find_only {α : Type} {p : α → Bool} {l : List α} {q : Nat} {x : α} (hx : l[q]? = some x) (hp : p x = true) (h : ∀ (j : Nat) y, l[j]? = some y → p y = true → j = q) : find p l 0 = q := by
  refine find_hit p l q x hx ?_ hp
  intro j hj y hy
  cases hpy : p y with
  | false => rfl
  | true => have := h j y hy hpy; omega
theorem count_zero {α : Type} {p : α → Bool} {l : List α} (h : ∀ x ∈ l, p x = false) : count p l = 0 := by
  unfold count
  rw [List.filter_eq_nil_iff.2 (fun x hx => by simp [h x hx])]; rfl
theorem free_entry (h : 1 ≤ M.room.2) : ∃ (q : Nat) (e : PEntry), M.freeEntry = q ∧ M.es[q]? = some e ∧ e.used = false := by
  rcases find_bd (fun x : PEntry => !x.used) M.es 0 with ⟨_, h2⟩ | ⟨k, x, h1, h2, h3, _⟩
  · have : M.room.2 = 0 := by unfold PMem.room; simp only; rw [count_zero h2]; rfl
    omega
  · exact ⟨k, x, by unfold PMem.freeEntry; rw [h3]; simp, h1, by simpa using h2⟩
theorem free_node (h : 1 ≤ M.room.1) : ∃ (q : Nat) (e : PNode), M.freeNode = q ∧ M.ns[q]? = some e ∧ e.used = false := by
  rcases find_bd (fun x : PNode => !x.used) M.ns 0 with ⟨_, h2⟩ | ⟨k, x, h1, h2, h3, _⟩
  · have : M.room.1 = 0 := by unfold PMem.room; simp only; rw [count_zero h2]; rfl
    omega
  · exact ⟨k, x, by unfold PMem.freeNode; rw [h3]; simp, h1, by simpa using h2⟩
/-- One more, one fewer: how a count turns where one is set. -/
theorem count_set {α : Type} (p : α → Bool) : ∀ (l : List α) (q : Nat) (x y : α), l[q]? = some x → count p (l.set q y) + (if p x then 1 else 0) = count p l + (if p y then 1 else 0)
  | [], q, x, y, h => by simp at h
  | z :: r, 0, x, y, h => by
    simp at h
    subst h
    simp only [List.set_cons_zero, count, List.filter_cons]
    cases p z <;> cases p y <;> simp
  | z :: r, q + 1, x, y, h => by
    have ih := count_set p r q x y (by simpa using h)
    simp only [List.set_cons_succ, count, List.filter_cons] at ih ⊢
    cases p z <;> simp <;> omega
theorem hasEntry_of {q : Nat} {e : PEntry} (h : M.es[q]? = some e) : M.hasEntry q = true := by
  have := (List.getElem?_eq_some_iff.1 h).1
  unfold PMem.hasEntry
  rw [isIn_iff]; omega
theorem ent_of {q : Nat} {e : PEntry} (h : M.es[q]? = some e) : M.ent q = e := by
  unfold PMem.ent
  simp [h]
theorem pend_ok {n q : Nat} {nd : PNode} {e : PEntry} (hq : M.freeEntry = q) (he : M.es[q]? = some e) (hn : M.ns[n]? = some nd) (hl : nd.links = 1) (to : Int) : M.pend n false to = { M with es := M.es.set q ⟨true, true, n, false, to, 0⟩ } := by
  unfold PMem.pend PMem.hasLink
  rw [hq, hasEntry_of he, hasNode_of hn, node_of hn, hl]
  simp only [Bool.true_and]
  rw [if_pos (by decide)]
  unfold PMem.setE
  simp
theorem make_ok {f : Nat} {nf : PNode} (hf : M.freeNode = f) (hn : M.ns[f]? = some nf) (key value : Int) : M.make key value = ({ M with ns := M.ns.set f (PNode.made key value) }, (f : Int)) := by
  unfold PMem.make
  rw [hf, if_pos (hasNode_of hn)]
  simp
theorem addLink_ok {n q : Nat} {nd : PNode} {e : PEntry} (hq : M.freeEntry = q) (he : M.es[q]? = some e) (hn : M.ns[n]? = some nd) (hl : nd.links = 0) (to : Int) : M.addLink n to = { ns := M.ns.set n (linked false to nd), es := M.es.set q ⟨true, true, n, false, to, 0⟩ } := by
  have hlt := (List.getElem?_eq_some_iff.1 hn).1
  have hmod : M.modN n (linked false to) = { M with ns := M.ns.set n (linked false to nd) } := by
    unfold PMem.modN
    rw [if_pos (hasNode_of hn)]
    congr 1
    apply List.ext_getElem?
    intro j
    rw [List.getElem?_modify]
    by_cases hj : n = j
    · subst hj; rw [List.getElem?_set_self hlt, hn]; simp
    · simp [hj]
  unfold PMem.addLink
  rw [hasNode_of hn, hq]
  rw [if_pos (by simp), node_of hn, hl]
  simp only
  rw [hmod]
  have := pend_ok (M := { M with ns := M.ns.set n (linked false to nd) }) (n := n) (nd := linked false to nd) hq he (by simp [hlt]) (by show nd.links + 1 = 1; rw [hl]) to
  rw [this]
theorem stamp_ok {n q : Nat} {e : PEntry} (hp : M.pending n false = q) (he : M.es[q]? = some e) (s : Int) : M.stamp n false s = { M with es := M.es.set q { e with pending := false, stamp := s } } := by
  unfold PMem.stamp
  rw [hp, hasEntry_of he, ent_of he]
  simp [PMem.setE]
theorem stamp_none {n : Int} {s : Bool} (hp : M.pending n s = -1) (st : Int) : M.stamp n s st = M := by
  unfold PMem.stamp
  rw [hp]
  rw [if_neg]
  unfold PMem.hasEntry
  rw [isIn_iff]; omega
theorem lead_ok {n q : Nat} {e : PEntry} {nd : PNode} (hp : M.pending n false = q) (he : M.es[q]? = some e) (hn : M.ns[n]? = some nd) (hl : nd.links = 1) : M.lead n false = M.modN n (fun x => { x with leads := upd x.leads false e.dst }) := by
  unfold PMem.lead PMem.hasLink
  rw [hp, hasEntry_of he, hasNode_of hn, node_of hn, hl, ent_of he]
  rfl
theorem unpend_ok {n q : Nat} {e : PEntry} (hp : M.pending n false = q) (he : M.es[q]? = some e) : M.unpend n false = { M with es := M.es.set q PEntry.zero } := by
  unfold PMem.unpend
  rw [hp, hasEntry_of he]
  simp [PMem.setE]
theorem Turns.set (h : Turns M M1 g) (f : Nat) (v : PNode) : Turns M { M1 with ns := M1.ns.set f v } (fun j y => if f = j then v else g j y) := by
  intro j
  show (M1.ns.set f v)[j]? = _
  rw [List.getElem?_set]
  by_cases hj : f = j
  · subst hj
    simp only [if_true]
    have h1 := h f
    by_cases hlt : f < M1.ns.length
    · rw [if_pos hlt]
      rw [List.getElem?_eq_getElem hlt] at h1
      cases hm : M.ns[f]? with
      | none => rw [hm] at h1; simp at h1
      | some y => rfl
    · rw [if_neg hlt]
      rw [List.getElem?_eq_none (by omega)] at h1
      cases hm : M.ns[f]? with
      | none => rfl
      | some y => rw [hm] at h1; simp at h1
  · simp only [hj, if_false]; exact h j
theorem Turns.es (h : Turns M M1 g) (es : List PEntry) : Turns M { M1 with es := es } g := h
end
end Go.Proofs.YtfccelbmacjifaaGreat

set_option linter.unusedSimpArgs false
namespace Go.Proofs.YtfccelbmacjifaaGreat
section
variable {M M1 : PMem} {P : PSt} {i : Nat} {t : PThread} {c sl : Int} {k : PWork}
/-- The check, where there is something to change. -/
theorem run_check (hi : i < P.ts.length) (h0 : P.kind = 0) (hk : k.kind = 1 ∨ k.kind = 2) (hn : k.next = 6) {x y : Nat} {nd nb : PNode} (hst : k.stand = x) (ha : k.ahead = y) (hx : M.ns[x]? = some nd) (hd : nd.dead = false) (hl : nd.links = 1) (hle : nd.leads false = y) (hb : M.ns[y]? = some nb) (hbd : nb.dead = false) (hm : (nb.key == k.key) ≠ (k.kind == 1)) :
    Run (st P i t M c sl k) i 1 (st P i t M c sl { k with next := 7 }) := by
  refine run_upd hi hk (by omega) ?_
  unfold PSt.update
  rw [hn]
  simp only
  congr 1
  unfold PSt.check
  rw [outdated_no (st P i t M c sl k) k h0 hst ha hx hd hl hle hb hbd, meets_of (st P i t M c sl k) k ha hb]
  rw [if_neg (by simp), if_neg (by simpa using hm), st_setW hi]
/-- No room. -/
theorem run_full (hi : i < P.ts.length) (hk : k.kind = 1 ∨ k.kind = 2) (hn : k.next = 7) (hr : M.room.1 < ((st P i t M c sl k).needs k.kind).1 ∨ M.room.2 < ((st P i t M c sl k).needs k.kind).2) :
    Run (st P i t M c sl k) i 1 (st P i t M c sl { k with ans := { err := 7 }, next := 12 }) := by
  refine run_upd hi hk (by omega) ?_
  unfold PSt.update
  rw [hn]
  simp only
  congr 1
  unfold PSt.prepare
  have hr' : (st P i t M c sl k).mem.room.1 < ((st P i t M c sl k).needs k.kind).1 ∨ (st P i t M c sl k).mem.room.2 < ((st P i t M c sl k).needs k.kind).2 := hr
  rw [if_pos hr', st_setW hi]; rfl
/-- Unlocked, with nothing retired. -/
theorem run_unlock (hi : i < P.ts.length) (hk : k.kind = 1 ∨ k.kind = 2) (hn : k.next = 12) (hd : ¬ (k.kind = 2 ∧ k.ans.did = true)) :
    Run (st P i t M c sl k) i 1 (st P i t (M.unlock i) c sl { k with locks := 0, next := 13 }) := by
  refine run_upd hi hk (by omega) ?_
  unfold PSt.update
  rw [hn]
  simp only
  congr 1
  unfold PSt.unlock
  simp only
  rw [if_neg hd, st_setM, st_setW hi]; rfl
/-- The link leads on. -/
theorem run_lead (hi : i < P.ts.length) (hk : k.kind = 1 ∨ k.kind = 2) (hn : k.next = 10) :
    Run (st P i t M c sl k) i 1 (st P i t (M.lead k.tsrc k.tside) c sl { k with next := 11 }) := by
  refine run_upd hi hk (by omega) ?_
  unfold PSt.update
  rw [hn]
  simp only
  congr 1
  rw [st_setM, st_setW hi]; rfl
theorem run_stamp (hi : i < P.ts.length) (hk : k.kind = 1 ∨ k.kind = 2) (hn : k.next = 11) :
    Run (st P i t M c sl k) i 1 (st P i t (M.stamp k.tsrc k.tside k.ans.stamp) c sl { k with next := 12 }) := by
  refine run_upd hi hk (by omega) ?_
  unfold PSt.update
  rw [hn]
  simp only
  congr 1
  rw [st_setM, st_setW hi]; rfl
theorem run_kill (hi : i < P.ts.length) (hk : k.kind = 1 ∨ k.kind = 2) (hn : k.next = 9) (h0 : P.kind = 0) :
    Run (st P i t M c sl k) i 1 (st P i t (M.kill k.ahead) c sl { k with next := 10 }) := by
  refine run_upd hi hk (by omega) ?_
  unfold PSt.update
  rw [hn]
  simp only
  congr 1
  unfold PSt.takenOut
  rw [if_neg (by show ¬ P.kind = 1; omega), st_setM, st_setW hi]; rfl
/-- The stamp is taken. -/
theorem run_take1 (hi : i < P.ts.length) (hk : k.kind = 1) (hn : k.next = 8) (hl : c < P.limit) :
    Run (st P i t M c sl k) i 1 (st P i t (M.stampsNew (c + 1) k.made) (c + 1) sl { k with ans := { did := true, stamp := c + 1 }, next := 10 }) := by
  refine run_upd hi (.inl hk) (by omega) ?_
  unfold PSt.update
  rw [hn]
  simp only
  congr 1
  unfold PSt.take
  rw [if_neg (by show ¬ P.limit ≤ c; omega)]
  simp only
  rw [if_neg (by omega)]
  show ((st P i t M (c + 1) sl k).setM _).setW i _ = _
  rw [st_setM, st_setW hi]; rfl
theorem run_take2 (hi : i < P.ts.length) (hk : k.kind = 2) (hn : k.next = 8) (hl : c < P.limit) :
    Run (st P i t M c sl k) i 1 (st P i t M (c + 1) sl { k with ans := { did := true, stamp := c + 1, value := (M.node k.ahead).value }, next := 9 }) := by
  refine run_upd hi (.inr hk) (by omega) ?_
  unfold PSt.update
  rw [hn]
  simp only
  congr 1
  unfold PSt.take
  rw [if_neg (by show ¬ P.limit ≤ c; omega)]
  simp only
  rw [if_pos hk]
  show (st P i t M (c + 1) sl k).setW i _ = _
  rw [st_setW hi]; rfl
/-- The clock is at its end. -/
theorem run_take0 (hi : i < P.ts.length) (hk : k.kind = 1 ∨ k.kind = 2) (hn : k.next = 8) (hl : P.limit ≤ c) :
    Run (st P i t M c sl k) i 1 (st P i t ((M.unpend k.tsrc k.tside).frees k.made) c sl { k with ans := { err := 8 }, next := 12 }) := by
  refine run_upd hi hk (by omega) ?_
  unfold PSt.update
  rw [hn]
  simp only
  congr 1
  unfold PSt.take
  rw [if_pos (by show P.limit ≤ c; omega), st_setM, st_setW hi]; rfl
/-- An Insert's node, its link and the new link to it are prepared. -/
theorem run_prep1 (hi : i < P.ts.length) (h0 : P.kind = 0) (hk : k.kind = 1) (hn : k.next = 7) (hm : k.made = []) {x y : Nat} {nd : PNode} (hst : k.stand = x) (ha : k.ahead = y) (hx : M.ns[x]? = some nd) (hl : nd.links = 1) (hxu : nd.used = true) (r1 : 1 ≤ M.room.1) (r2 : 2 ≤ M.room.2) :
    ∃ (f q1 q2 : Nat) (nf : PNode) (e1 e2 : PEntry), M.ns[f]? = some nf ∧ nf.used = false ∧ M.es[q1]? = some e1 ∧ e1.used = false ∧ M.es[q2]? = some e2 ∧ e2.used = false ∧ q1 ≠ q2 ∧ f ≠ x ∧
      Run (st P i t M c sl k) i 1 (st P i t ⟨M.ns.set f (linked false y (PNode.made k.key k.value)), (M.es.set q1 ⟨true, true, f, false, y, 0⟩).set q2 ⟨true, true, x, false, f, 0⟩⟩ c sl { k with made := [(f : Int)], tsrc := x, tside := false, next := 8 }) := by
  obtain ⟨f, nf, hf, hnf, hfu⟩ := free_node r1
  obtain ⟨q1, e1, hq1, he1, hu1⟩ := free_entry (M := M) (by omega)
  have hfx : f ≠ x := by
    rintro rfl
    rw [hx] at hnf
    obtain rfl := Option.some.inj hnf
    rw [hxu] at hfu
    cases hfu
  have hfl := (List.getElem?_eq_some_iff.1 hnf).1
  obtain ⟨M2, hM2⟩ : ∃ M2 : PMem, M2 = ⟨M.ns.set f (linked false y (PNode.made k.key k.value)), M.es.set q1 ⟨true, true, f, false, y, 0⟩⟩ := ⟨_, rfl⟩
  have hr2 : 1 ≤ M2.room.2 := by
    have h1 := count_set (fun e : PEntry => !e.used) M.es q1 e1 ⟨true, true, f, false, y, 0⟩ he1
    simp only [hu1, Bool.not_false, if_true, Bool.not_true, Bool.false_eq_true, if_false, Nat.add_zero] at h1
    have h2 : M.room.2 = (count (fun e : PEntry => !e.used) M.es : Nat) := rfl
    have h3 : M2.room.2 = (count (fun e : PEntry => !e.used) (M.es.set q1 ⟨true, true, f, false, y, 0⟩) : Nat) := by rw [hM2]; rfl
    omega
  obtain ⟨q2, e2, hq2, he2, hu2⟩ := free_entry hr2
  have he2' : (M.es.set q1 ⟨true, true, f, false, y, 0⟩)[q2]? = some e2 := by rw [hM2] at he2; exact he2
  have hq12 : q1 ≠ q2 := by
    rintro rfl
    rw [List.getElem?_set_self (List.getElem?_eq_some_iff.1 he1).1] at he2'
    obtain rfl := Option.some.inj he2'
    cases hu2
  rw [List.getElem?_set_ne hq12] at he2'
  have hx2 : M2.ns[x]? = some nd := by rw [hM2]; show (M.ns.set f _)[x]? = _; rw [List.getElem?_set_ne hfx]; exact hx
  refine ⟨f, q1, q2, nf, e1, e2, hnf, hfu, he1, hu1, he2', hu2, hq12, hfx, run_upd hi (.inl hk) (by omega) ?_⟩
  unfold PSt.update
  rw [hn]
  simp only
  congr 1
  unfold PSt.prepare
  have hnd : (st P i t M c sl k).needs k.kind = (1, 2) := by
    unfold PSt.needs
    rw [if_neg (by omega), if_neg (by show ¬ P.kind = 1; omega)]
  rw [hnd, if_neg (by show ¬ (M.room.1 < 1 ∨ M.room.2 < 2); omega)]
  simp only [hk, if_true]
  have hprep : (st P i t M c sl k).prepareInsert k = (⟨M.ns.set f (linked false y (PNode.made k.key k.value)), (M.es.set q1 ⟨true, true, f, false, y, 0⟩).set q2 ⟨true, true, x, false, f, 0⟩⟩, { k with made := [(f : Int)], tsrc := x, tside := false }) := by
    unfold PSt.prepareInsert
    rw [show (st P i t M c sl k).mem = M from rfl, make_ok hf hnf]
    simp only
    rw [if_pos (show (st P i t M c sl k).kind = 0 from h0)]
    have hMa : ({ M with ns := M.ns.set f (PNode.made k.key k.value) } : PMem).addLink f k.ahead = M2 := by
      rw [addLink_ok (M := { M with ns := M.ns.set f (PNode.made k.key k.value) }) (nd := PNode.made k.key k.value) hq1 he1 (by simp [hfl]) rfl, hM2, ha]
      simp
    have hside : ({ M with ns := M.ns.set f (PNode.made k.key k.value) } : PMem).sideFor k.stand k.key = false := by
      rw [hst]
      unfold PMem.sideFor
      rw [node_of (M := { M with ns := M.ns.set f (PNode.made k.key k.value) }) (nd := nd) (by show (M.ns.set f _)[x]? = _; rw [List.getElem?_set_ne hfx]; exact hx), hl]
      rfl
    rw [hMa, hside, hst, pend_ok hq2 he2 hx2 hl, hM2, hm]
    rfl
  rw [hprep]
  simp only
  rw [st_setM, st_setW hi, hk]
end
end Go.Proofs.YtfccelbmacjifaaGreat

set_option linter.unusedSimpArgs false
namespace Go.Proofs.YtfccelbmacjifaaGreat
section
variable {M M1 : PMem} {P : PSt} {i : Nat} {t : PThread} {c sl : Int} {k : PWork} {g : Nat → PNode → PNode}
theorem count_map {α β : Type} (p : β → Bool) (f : α → β) (l : List α) : count p (l.map f) = count (fun x => p (f x)) l := by
  unfold count
  rw [List.filter_map, List.length_map]; rfl
theorem Turns.room (h : Turns M M1 g) (he : M1.es = M.es) (hu : ∀ (j : Nat) y, M.ns[j]? = some y → (g j y).used = y.used) : M1.room = M.room := by
  have hm : M1.ns.map (·.used) = M.ns.map (·.used) := by
    apply List.ext_getElem?
    intro j
    rw [List.getElem?_map, List.getElem?_map, h j]
    cases hy : M.ns[j]? with
    | none => rfl
    | some y => simp [hu j y hy]
  unfold PMem.room
  rw [he]
  have h1 := count_map (fun b => !b) (fun x : PNode => x.used) M1.ns
  have h2 := count_map (fun b => !b) (fun x : PNode => x.used) M.ns
  rw [hm] at h1
  rw [← h1, ← h2]
set_option maxHeartbeats 2000000 in
/-- An Insert that puts in its key, from the first lock to the last. -/
theorem run_put (hi : i < P.ts.length) (h0 : P.kind = 0) (hk : k.kind = 1) (hn : k.next = 5) (hl : k.locks = 0) (hm : k.made = []) {x y : Nat} {nd nb : PNode} (hst : k.stand = x) (ha : k.ahead = y) (hx : M.ns[x]? = some nd) (hxu : nd.used = true) (hxd : nd.dead = false) (hxh : nd.holder = -1) (hxl : nd.links = 1) (hle : nd.leads false = y)
    (hb : M.ns[y]? = some nb) (hbd : nb.dead = false) (hne : x ≠ y) (hbk : nb.key ≠ k.key) (hu : ∀ nd ∈ M.ns, nd.used = true → nd.holder = -1) (hc : ∀ en ∈ M.es, en.pending = false) (r1 : 1 ≤ M.room.1) (r2 : 2 ≤ M.room.2) (hcl : c < P.limit) :
    ∃ (f q1 q2 : Nat) (nf : PNode) (e1 e2 : PEntry) (M' : PMem) (k' : PWork), M.ns[f]? = some nf ∧ nf.used = false ∧ M.es[q1]? = some e1 ∧ e1.used = false ∧ M.es[q2]? = some e2 ∧ e2.used = false ∧ q1 ≠ q2 ∧ f ≠ x ∧
      Run (st P i t M c sl k) i 7 (st P i t M' (c + 1) sl k') ∧ k'.next = 13 ∧ k'.ans = { did := true, stamp := c + 1 } ∧
      (∀ j, M'.es[j]? = if q2 = j then some ⟨true, false, x, false, f, c + 1⟩ else if q1 = j then some ⟨true, false, f, false, y, c + 1⟩ else M.es[j]?) ∧
      (∀ j, M'.ns[j]? = if f = j then some (linked false y (PNode.made k.key k.value)) else if x = j then some { nd with leads := upd nd.leads false f } else M.ns[j]?) := by
  have hk' : k.kind = 1 ∨ k.kind = 2 := .inl hk
  have hmeet : (st P i t M c sl k).takesOut k = false := by unfold PSt.takesOut; rw [hk]; rfl
  have s1 := run_lock1 (P := P) (t := t) (c := c) (sl := sl) hi hk' hn hl hst hx hxh hmeet
  obtain ⟨M1, hM1⟩ : ∃ M1, M1 = M.modN x (fun y => { y with holder := (i : Int) }) := ⟨_, rfl⟩
  have hT := (Turns.refl M).modN x (fun y => { y with holder := (i : Int) })
  rw [← hM1] at hT s1
  have hes : M1.es = M.es := by rw [hM1]; exact modN_es _ _
  have hx1 : M1.ns[x]? = some { nd with holder := i } := by rw [hT, hx]; simp
  have hb1 : M1.ns[y]? = some nb := by rw [hT, hb]; simp [hne]
  have hroom : M1.room = M.room := hT.room hes (by intro j y _; by_cases hj : x = j <;> simp [hj])
  have s2 := run_check (P := P) (t := t) (c := c) (sl := sl) (k := { k with locks := 1, next := 6 }) hi h0 hk' rfl hst ha hx1 hxd hxl hle hb1 hbd (by show (nb.key == k.key) ≠ (k.kind == 1); rw [hk]; simpa using hbk)
  obtain ⟨f, q1, q2, nf, e1, e2, hnf, hfu, he1, hu1, he2, hu2, hq, hfx, s3⟩ := run_prep1 (P := P) (t := t) (c := c) (sl := sl) (k := { k with locks := 1, next := 7 }) hi h0 hk rfl hm hst ha hx1 hxl hxu (by rw [hroom]; exact r1) (by rw [hroom]; exact r2)
  rw [hes] at he1 he2 s3
  have hnf0 : M.ns[f]? = some nf := by
    have := hT f
    rw [hnf] at this
    cases hy : M.ns[f]? with
    | none => rw [hy] at this; simp at this
    | some y' =>
      rw [hy] at this
      simp only [Option.map_some, Option.some.injEq] at this
      rw [if_neg (fun h => hfx h.symm)] at this
      rw [this]
  have l1 := (List.getElem?_eq_some_iff.1 he1).1
  have l2 := (List.getElem?_eq_some_iff.1 he2).1
  -- the stamp of the new node's link
  obtain ⟨M2, hM2⟩ : ∃ M2 : PMem, M2 = ⟨M1.ns.set f (linked false y (PNode.made k.key k.value)), (M.es.set q1 ⟨true, true, f, false, y, 0⟩).set q2 ⟨true, true, x, false, f, 0⟩⟩ := ⟨_, rfl⟩
  have g2 : ∀ j, M2.es[j]? = if q2 = j then some ⟨true, true, x, false, f, 0⟩ else if q1 = j then some ⟨true, true, f, false, y, 0⟩ else M.es[j]? := by
    intro j
    rw [hM2]
    simp only [List.getElem?_set, List.length_set]
    by_cases h1 : q2 = j
    · subst h1; simp [l2]
    · by_cases h2 : q1 = j
      · subst h2; simp [h1, l1]
      · simp [h1, h2]
  have p1 : M2.pending f false = q1 := by
    refine find_only (x := ⟨true, true, f, false, y, 0⟩) (by rw [g2]; simp [Ne.symm hq]) (by simp [isPd]) ?_
    intro j en hj hp
    rw [g2] at hj
    by_cases h1 : q2 = j
    · rw [if_pos h1] at hj
      obtain rfl := Option.some.inj hj
      simp [isPd] at hp
      omega
    · rw [if_neg h1] at hj
      by_cases h2 : q1 = j
      · exact h2.symm
      · rw [if_neg h2] at hj
        have := hc en (List.mem_of_getElem? hj)
        simp [isPd, this] at hp
  have q1' : M2.es[q1]? = some ⟨true, true, f, false, y, 0⟩ := by rw [g2]; simp [Ne.symm hq]
  obtain ⟨M3, hM3⟩ : ∃ M3 : PMem, M3 = { M2 with es := M2.es.set q1 ⟨true, false, f, false, y, c + 1⟩ } := ⟨_, rfl⟩
  have g3 : ∀ j, M3.es[j]? = if q2 = j then some ⟨true, true, x, false, f, 0⟩ else if q1 = j then some ⟨true, false, f, false, y, c + 1⟩ else M.es[j]? := by
    intro j
    rw [hM3]
    show (M2.es.set q1 _)[j]? = _
    by_cases h2 : q1 = j
    · subst h2
      rw [List.getElem?_set_self (List.getElem?_eq_some_iff.1 q1').1]
      simp [Ne.symm hq]
    · rw [List.getElem?_set_ne h2, g2]
      simp [h2]
  have hnew : M2.stampsNew (c + 1) [(f : Int)] = M3 := by
    show (M2.stampNew f (c + 1)) = M3
    unfold PMem.stampNew
    rw [stamp_ok p1 q1' (c + 1), ← hM3]
    refine stamp_none ?_ _
    refine find_miss _ _ ?_
    intro j _ en hj
    rw [g3] at hj
    by_cases h1 : q2 = j
    · rw [if_pos h1] at hj
      obtain rfl := Option.some.inj hj
      simp [isPd]
    · rw [if_neg h1] at hj
      by_cases h2 : q1 = j
      · rw [if_pos h2] at hj
        obtain rfl := Option.some.inj hj
        simp [isPd]
      · rw [if_neg h2] at hj
        have := hc en (List.mem_of_getElem? hj)
        simp [isPd, this]
  rw [← hM2] at s3
  have s4 := run_take1 (P := P) (t := t) (M := M2) (c := c) (sl := sl) (k := { k with locks := 1, made := [(f : Int)], tsrc := x, tside := false, next := 8 }) hi hk rfl hcl
  simp only at s4
  rw [hnew] at s4
  -- the link
  have p2 : ∀ M4 : PMem, M4.es = M3.es → M4.pending x false = q2 := by
    intro M4 h4
    unfold PMem.pending
    rw [h4]
    refine find_only (x := ⟨true, true, x, false, f, 0⟩) (by rw [g3]; simp) (by simp [isPd]) ?_
    intro j en hj hp
    rw [g3] at hj
    by_cases h1 : q2 = j
    · exact h1.symm
    · rw [if_neg h1] at hj
      by_cases h2 : q1 = j
      · rw [if_pos h2] at hj
        obtain rfl := Option.some.inj hj
        simp [isPd] at hp
      · rw [if_neg h2] at hj
        have := hc en (List.mem_of_getElem? hj)
        simp [isPd, this] at hp
  have q2' : M3.es[q2]? = some ⟨true, true, x, false, f, 0⟩ := by rw [g3]; simp
  have hT3 : Turns M M3 (fun j y' => if f = j then linked false y (PNode.made k.key k.value) else if x = j then { y' with holder := (i : Int) } else y') := by
    rw [hM3, hM2]
    exact hT.set f _
  have hx3 : M3.ns[x]? = some { nd with holder := i } := by rw [hT3, hx]; simp [hfx]
  have s5 := run_lead (P := P) (t := t) (M := M3) (c := c + 1) (sl := sl) (k := { k with locks := 1, made := [(f : Int)], tsrc := x, tside := false, ans := { did := true, stamp := c + 1 }, next := 10 }) hi hk' rfl
  simp only at s5
  rw [lead_ok (p2 M3 rfl) q2' hx3 hxl] at s5
  obtain ⟨M4, hM4⟩ : ∃ M4, M4 = M3.modN x (fun z => { z with leads := upd z.leads false (f : Int) }) := ⟨_, rfl⟩
  rw [← hM4] at s5
  have hT4 := hT3.modN x (fun z => { z with leads := upd z.leads false (f : Int) })
  rw [← hM4] at hT4
  have h4e : M4.es = M3.es := by rw [hM4]; exact modN_es _ _
  have s6 := run_stamp (P := P) (t := t) (M := M4) (c := c + 1) (sl := sl) (k := { k with locks := 1, made := [(f : Int)], tsrc := x, tside := false, ans := { did := true, stamp := c + 1 }, next := 11 }) hi hk' rfl
  simp only at s6
  rw [stamp_ok (p2 M4 h4e) (by rw [h4e]; exact q2')] at s6
  obtain ⟨M5, hM5⟩ : ∃ M5 : PMem, M5 = { M4 with es := M4.es.set q2 ⟨true, false, x, false, f, c + 1⟩ } := ⟨_, rfl⟩
  rw [← hM5] at s6
  have s7 := run_unlock (P := P) (t := t) (M := M5) (c := c + 1) (sl := sl) (k := { k with locks := 1, made := [(f : Int)], tsrc := x, tside := false, ans := { did := true, stamp := c + 1 }, next := 12 }) hi hk' rfl (by simp; omega)
  have hrun := (((((s1.trans s2).trans s3).trans s4).trans s5).trans s6).trans s7
  rw [show 1 + 1 + 1 + 1 + 1 + 1 + 1 = 7 from rfl] at hrun
  refine ⟨f, q1, q2, nf, e1, e2, M5.unlock i, _, hnf0, hfu, he1, hu1, he2, hu2, hq, hfx, hrun, rfl, rfl, ?_, ?_⟩
  · intro j
    show M5.es[j]? = _
    rw [hM5]
    show (M4.es.set q2 _)[j]? = _
    rw [h4e]
    by_cases h1 : q2 = j
    · subst h1
      rw [List.getElem?_set_self (List.getElem?_eq_some_iff.1 q2').1]; simp
    · rw [List.getElem?_set_ne h1, g3]
      simp [h1]
  · have hT5 := hT4.es (M4.es.set q2 ⟨true, false, x, false, f, c + 1⟩)
    rw [← hM5] at hT5
    intro j
    rw [hT5.unlock i j]
    by_cases h1 : f = j
    · subst h1
      rw [hnf0]
      simp [Ne.symm hfx, unlocked, linked, PNode.made]
    · by_cases h2 : x = j
      · subst h2
        rw [hx]
        simp [h1, unlocked, hxu, ← hxh]
      · simp only [h1, h2, if_false]
        cases hy : M.ns[j]? with
        | none => rfl
        | some z =>
          simp only [Option.map_some, Option.some.injEq]
          unfold unlocked
          split
          · rename_i hcc
            simp only [Bool.and_eq_true, beq_iff_eq] at hcc
            have := hu z (List.mem_of_getElem? hy) hcc.1
            omega
          · rfl
end
end Go.Proofs.YtfccelbmacjifaaGreat

