import Derived.Test.YtfccelbmacjifabGreatP0
import Derived.Test.YtfccelbmacjifabGreatP27
import Derived.Test.YtfccelbmacjifabGreatP26
set_option linter.unusedSimpArgs false
set_option maxRecDepth 100000
set_option maxHeartbeats 4000000
namespace Go.Proofs.YtfccelbmacjifabGreat
section
namespace T
section
variable {g g' : Gh} {M M' : PMem} {c c' T : Int} {r r' : PSweep} {i j : Nat} {t t' u : PThread} {ts ts' : List PThread} {P P' : PSt} {x d st : Int} {s : Bool} {key : Int} {k : PWork} {n : Int} {tr : Tr} {L : Nat}
theorem Inv.frStep (h : Inv g P) (ht : P.ts[i]? = some t) (hb : t.busy = true) (hu : Us P.mem x) (hf : Ex (P.step i t).1.ts (Fr x)) : Ex P.ts (Fr x):=by
 obtain ⟨P',n,hs,ho⟩:=h.out ht hb;rw [hs] at hf;have fin : ∀ {t' : PThread},Ex (P.ts.set i t') (Fr x)->(Fr x t'->Fr x t)->Ex P.ts (Fr x):=by
  intro t' hh hn;rcases (Ex.get ht).1 hh with e | ⟨j,u,_,hj,e⟩
  ·exact ⟨i,t,ht,hn e⟩
  ·exact ⟨j,u,hj,e⟩
 cases ho with
 | rwait=>exact hf
 | lwait=>exact hf
 | leave=>exact fin hf (fun e=>nomatch e.1)
 | prepI hn hk hr1 hr2 a n M1 ep ua un =>
  refine fin hf ?_;rintro ⟨_,_,_,e⟩;have e : x ∈ [a,n]:=e;simp at e;rcases e with rfl | rfl
  ·exact absurd hu ua
  ·exact absurd hu un
 | prepR hn hk=>exact fin hf (fun e=>by have : t.work.kind = 1:=e.2.1; omega)
 | come1=>exact fin hf (fun e=>by have : (2 : Nat) = 8\/(2 : Nat) = 10:=e.2.2.1; omega)
 | come2=>exact fin hf (fun e=>by have : (3 : Nat) = 8\/(3 : Nat) = 10:=e.2.2.1; omega)
 | come3=>exact fin hf (fun e=>by have : (4 : Nat) = 8\/(4 : Nat) = 10:=e.2.2.1; omega)
 | rgo hn hk hp k ek hsk=>exact fin hf (fun e=>by have : k.next = 8\/k.next = 10:=e.2.2.1; omega)
 | walkOn hn=>exact fin hf (fun e=>by have : t.work.next = 8\/t.work.next = 10:=e.2.2.1; omega)
 | walkEnd=>exact fin hf (fun e=>by have : (5 : Nat) = 8\/(5 : Nat) = 10:=e.2.2.1; omega)
 | lock hn hk hh nn hnn hn56=>exact fin hf (fun e=>by have : nn = 8\/nn = 10:=e.2.2.1; omega)
 | home=>exact fin hf (fun e=>by have : (4 : Nat) = 8\/(4 : Nat) = 10:=e.2.2.1; omega)
 | same=>exact fin hf (fun e=>by have : (12 : Nat) = 8\/(12 : Nat) = 10:=e.2.2.1; omega)
 | right=>exact fin hf (fun e=>by have : (7 : Nat) = 8\/(7 : Nat) = 10:=e.2.2.1; omega)
 | full=>exact fin hf (fun e=>by have : (12 : Nat) = 8\/(12 : Nat) = 10:=e.2.2.1; omega)
 | late=>exact fin hf (fun e=>by have : (12 : Nat) = 8\/(12 : Nat) = 10:=e.2.2.1; omega)
 | takeI hn hk=>exact fin hf (fun e=>⟨hb,hk,.inl hn,e.2.2.2⟩)
 | takeR=>exact fin hf (fun e=>by have : (9 : Nat) = 8\/(9 : Nat) = 10:=e.2.2.1; omega)
 | kill hn hk=>exact fin hf (fun e=>by have : t.work.kind = 1:=e.2.1; omega)
 | link=>exact fin hf (fun e=>by have : (11 : Nat) = 8\/(11 : Nat) = 10:=e.2.2.1; omega)
 | stamp=>exact fin hf (fun e=>by have : (12 : Nat) = 8\/(12 : Nat) = 10:=e.2.2.1; omega)
 | unlock=>exact fin hf (fun e=>by have : (13 : Nat) = 8\/(13 : Nat) = 10:=e.2.2.1; omega)
theorem Inv.ohStep (h : Inv g P) (ht : P.ts[i]? = some t) (hb : t.busy = true) (hx : g.O x\/(g.V P.clock).Has x) : (nextG g P i t).O x\/((nextG g P i t).V (P.step i t).1.clock).Has x:=by
 rw [h.clockStep ht hb];unfold nextG;by_cases hk : Took P t
 ·rw [if_pos hk,if_pos hk];obtain ⟨hn,hkd,hl⟩:=id hk;by_cases k2 : t.work.kind = 2
  ·rw [if_pos k2];have hcut:=h.cut ht hb (by omega) (by omega) k2;have hgo:=h.found ht hb (by omega) (by omega);show (g.O x\/x = t.work.stand\/x = t.work.ahead)\/Tr.Has (if P.clock + 1 = P.clock + 1 then _ else _) x;rw [if_pos rfl]
   have:=Tr.del_has (z:=x) h.n.gt.dj h.n.gt.z hcut
   rw [hgo] at this;rcases hx with e | e
   ·exact .inl (.inl e)
   ·by_cases q1 : x = t.work.stand
    ·exact .inl (.inr (.inl q1))
    ·by_cases q2 : x = t.work.ahead
     ·exact .inl (.inr (.inr q2))
     ·exact .inr (this.2 ⟨e,q1,q2⟩)
  ·rw [if_neg k2];show g.O x\/Tr.Has (if P.clock + 1 = P.clock + 1 then _ else _) x;rw [if_pos rfl];rcases hx with e | e
   ·exact .inl e
   ·exact .inr (Tr.ins_has.2 (.inl e))
 ·rw [if_neg hk,if_neg hk]; exact hx
theorem Inv.gdStep (h : Inv g P) (ht : P.ts[i]? = some t) (hb : t.busy = true) (hx : Gd g P.clock P.ts x) : Gd (nextG g P i t) (P.step i t).1.clock (P.step i t).1.ts x :=
 ⟨h.ohStep ht hb hx.1,fun hf=>hx.2 (h.frStep ht hb (h.usedGd (.inr hx)) hf)⟩
theorem Inv.not8 (h : Inv g P) (ht : P.ts[i]? = some t) (hx : x = 0\/Gd g P.clock P.ts x) : ¬ Fr8 x t:=by
 intro hf;have hf' : Fr x t:=⟨hf.1,hf.2.1,.inl hf.2.2.1,hf.2.2.2⟩;rcases hx with e | e
 ·exact (h.freshUs ht hf').2.1 e
 ·exact e.2 ⟨i,t,ht,hf'⟩
theorem Inv.bStep (h : Inv g P) (ht : P.ts[i]? = some t) (hb : t.busy = true) (hx : x = 0\/Gd g P.clock P.ts x) : (nextG g P i t).B x = g.B x:=by
 unfold nextG;by_cases hk : Took P t
 ·rw [if_pos hk];obtain ⟨hn,hkd,hl⟩:=id hk;by_cases k2 : t.work.kind = 2
  ·rw [if_pos k2]; rfl
  ·rw [if_neg k2];have k1 : t.work.kind = 1:=by omega
   obtain ⟨a,n,q⟩:=(h.th i t ht).f8 hb k1 hn;show (if x = t.work.made[1]?.getD 0 then _ else g.B x) = _;rw [if_neg];intro e;rw [q.md] at e;have e : x = n:=e;exact h.not8 ht hx ⟨hb,k1,hn,by rw [q.md,e]; simp⟩
 ·rw [if_neg hk]
theorem Inv.ldStep (h : Inv g P) (ht : P.ts[i]? = some t) (hb : t.busy = true) (hn10 : t.work.next≠10) (hu : Us P.mem x) (h8 : ¬ Fr8 x t) : ((P.step i t).1.mem.node x).leads = (P.mem.node x).leads:=by
 have hT:=h.th i t ht;obtain ⟨P',n,hs,ho⟩:=h.out ht hb;rw [hs];cases ho with
 | lock hn hk hh nn hnn hn56 =>
  have l1:=(h.lockIs ht hb hn).1;show ((P.mem.modN _ _).node x).leads = _;rw [node_modN (hasN_used l1)];split
  ·next e=>rw [e]
  ·rfl
 | home=>exact ((unlock_hold P.mem i).to x).2.2.2.2.2.1
 | prepI hn hk hr1 hr2 a n M1 ep ua un ne nd=>exact congrArg PNode.leads (nd x (fun e=>ua (e ▸ hu)) (fun e=>un (e ▸ hu)))
 | prepR hn hk hr M1 em nd=>exact congrArg PNode.leads (nd x)
 | late hn hk hl M1 em nd=>show (M1.node x).leads = _; rw [nd,if_neg h8]
 | takeI hn hk hl a n q M1 em nd=>exact congrArg PNode.leads (nd x)
 | kill hn hk M1 em =>
  have m:=h.mine ht hb (by omega) (by omega);have hto : P.takenOut t.work = [t.work.ahead,t.work.stand]:=by unfold PSt.takenOut; rw [if_pos h.kind]
  show (M1.node x).leads = _;rw [em,hto,(kills_two (h.usedGd (.inr m.ah)) m.us h.wm).2.2 x]
 | link hn=>exact absurd hn hn10
 | stamp hn hk d0 hp M1 em nd=>exact congrArg PNode.leads (nd x)
 | unlock hn hk M1 em =>
  show (M1.node x).leads = _;rw [em];have hl:=unlock_hold P.mem i;split
  ·next hh =>
   have m:=h.mine ht hb (by omega) (by omega);have hto : P.takenOut t.work = [t.work.ahead,t.work.stand]:=by unfold PSt.takenOut; rw [if_pos h.kind]
   rw [hto,(retires_two (by simp only [Us]; rw [(hl.to _).1]; exact h.usedGd (.inr m.ah)) (by simp only [Us]; rw [(hl.to _).1]; exact m.us) (h.wm.unlock i)).2.2 x];split <;> exact (hl.to x).2.2.2.2.2.1
  ·exact (hl.to x).2.2.2.2.2.1
 | _=>rfl
theorem Inv.tsStep (h : Inv g P) (ht : P.ts[i]? = some t) (hb : t.busy = true) : ∃ t',(P.step i t).1.ts = P.ts.set i t'/\(∀ x,Ahd x t->t.work.next≠10->Ahd x t')/\(Took P t->t.work.kind = 2->Ahd t.work.stand t')/\(unl t' = true->unl t = true)/\(t.work.next = 10->unl t' = false/\unl t = true):=by
 have hT:=h.th i t ht;have same : P.ts.set i t = P.ts:=by
  apply List.ext_getElem?;intro j;rw [List.getElem?_set];split
  ·next e=>subst e; split <;> simp_all
  ·rfl
 have un : ∀ {k : PWork},k.kind = t.work.kind->(k.next<=10->t.work.next<=10)->unl { t with work:=k } = true->unl t = true:=by
  intro k h1 h2;unfold unl;simp only [Bool.and_eq_true,decide_eq_true_eq];rintro ⟨q1,q2,q3⟩;exact ⟨q1,by rw [<- h1]; exact q2,h2 q3⟩
 have un' : ∀ {s : Int} {k : PWork},k.kind = t.work.kind->(k.next<=10->t.work.next<=10)->unl { t with slot:=s,work:=k } = true->unl t = true:=by
  intro s k h1 h2;unfold unl;simp only [Bool.and_eq_true,decide_eq_true_eq];rintro ⟨q1,q2,q3⟩;exact ⟨q1,by rw [<- h1]; exact q2,h2 q3⟩
 obtain ⟨P',n,hs,ho⟩:=h.out ht hb;rw [hs];have na : t.work.next≠9->t.work.next≠10->∀ x,¬ Ahd x t:=by rintro a1 a2 x ⟨_,_,e,_⟩; omega
 have nt : t.work.next≠8->¬ Took P t:=fun a e=>a e.1
 cases ho with
 | come1 hn=>exact ⟨_,rfl,fun x e=>absurd e (na (by omega) (by omega) x),fun e=>absurd e (nt (by omega)),un' rfl (fun _=>by omega),fun e=>by omega⟩
 | come2 hn=>exact ⟨_,rfl,fun x e=>absurd e (na (by omega) (by omega) x),fun e=>absurd e (nt (by omega)),un rfl (fun _=>by omega),fun e=>by omega⟩
 | come3 hn=>exact ⟨_,rfl,fun x e=>absurd e (na (by omega) (by omega) x),fun e=>absurd e (nt (by omega)),un' rfl (fun _=>by omega),fun e=>by omega⟩
 | leave hn=>exact ⟨_,rfl,fun x e=>absurd e (na (by omega) (by omega) x),fun e=>absurd e (nt (by omega)),fun e=>by simp [unl,PThread.leave] at e,fun e=>by omega⟩
 | rwait hn=>exact ⟨t,same.symm,fun x e _=>e,fun e=>absurd e (nt (by omega)),fun e=>e,fun e=>by omega⟩
 | lwait hn=>exact ⟨t,same.symm,fun x e _=>e,fun e=>absurd e (nt (by omega)),fun e=>e,fun e=>by omega⟩
 | rgo hn hk hp k ek hsk=>exact ⟨_,rfl,fun x e=>absurd e (na (by omega) (by omega) x),fun e=>absurd e (nt (by omega)),un hsk.1 (fun _=>by omega),fun e=>by omega⟩
 | walkOn hn hk=>exact ⟨_,rfl,fun x e=>absurd e (na (by omega) (by omega) x),fun e=>absurd e (nt (by omega)),un rfl (fun _=>by omega),fun e=>by omega⟩
 | walkEnd hn hk=>exact ⟨_,rfl,fun x e=>absurd e (na (by omega) (by omega) x),fun e=>absurd e (nt (by omega)),un rfl (fun _=>by omega),fun e=>by omega⟩
 | lock hn hk=>exact ⟨_,rfl,fun x e=>absurd e (na (by omega) (by omega) x),fun e=>absurd e (nt (by omega)),un rfl (fun _=>by omega),fun e=>by omega⟩
 | home hn hk=>exact ⟨_,rfl,fun x e=>absurd e (na (by omega) (by omega) x),fun e=>absurd e (nt (by omega)),un rfl (fun _=>by omega),fun e=>by omega⟩
 | same hn hk=>exact ⟨_,rfl,fun x e=>absurd e (na (by omega) (by omega) x),fun e=>absurd e (nt (by omega)),un rfl (fun _=>by omega),fun e=>by omega⟩
 | right hn hk=>exact ⟨_,rfl,fun x e=>absurd e (na (by omega) (by omega) x),fun e=>absurd e (nt (by omega)),un rfl (fun _=>by omega),fun e=>by omega⟩
 | full hn hk=>exact ⟨_,rfl,fun x e=>absurd e (na (by omega) (by omega) x),fun e=>absurd e (nt (by omega)),un rfl (fun _=>by omega),fun e=>by omega⟩
 | prepI hn hk=>exact ⟨_,rfl,fun x e=>absurd e (na (by omega) (by omega) x),fun e=>absurd e (nt (by omega)),un rfl (fun _=>by omega),fun e=>by omega⟩
 | prepR hn hk=>exact ⟨_,rfl,fun x e=>absurd e (na (by omega) (by omega) x),fun e=>absurd e (nt (by omega)),un rfl (fun _=>by omega),fun e=>by omega⟩
 | late hn hk hl=>exact ⟨_,rfl,fun x e=>absurd e (na (by omega) (by omega) x),fun e=>absurd hl e.2.2,un rfl (fun _=>by omega),fun e=>by omega⟩
 | takeI hn hk hl=>exact ⟨_,rfl,fun x e=>absurd e (na (by omega) (by omega) x),fun _ e=>by omega,un rfl (fun _=>by omega),fun e=>by omega⟩
 | takeR hn hk hl=>exact ⟨_,rfl,fun x e=>absurd e (na (by omega) (by omega) x),fun _ _=>⟨hb,hk,.inl rfl,rfl⟩,un rfl (fun _=>by omega),fun e=>by omega⟩
 | kill hn hk=>exact ⟨_,rfl,fun x e _=>⟨hb,hk,.inr rfl,e.2.2.2⟩,fun e=>absurd e (nt (by omega)),un rfl (fun _=>by omega),fun e=>by omega⟩
 | link hn hk =>
  refine ⟨_,rfl,fun x e a=>absurd hn a,fun e=>absurd e (nt (by omega)),un rfl (fun _=>by omega),fun _=>⟨?_,?_⟩⟩
  ·unfold unl; simp
  ·unfold unl; simp [hb,hk,hn]
 | stamp hn hk=>exact ⟨_,rfl,fun x e=>absurd e (na (by omega) (by omega) x),fun e=>absurd e (nt (by omega)),un rfl (fun e=>by have : 12<=10:=e; omega),fun e=>by omega⟩
 | unlock hn hk=>exact ⟨_,rfl,fun x e=>absurd e (na (by omega) (by omega) x),fun e=>absurd e (nt (by omega)),un rfl (fun e=>by have : 13<=10:=e; omega),fun e=>by omega⟩
theorem Inv.lnStep (h : Inv g P) (ht : P.ts[i]? = some t) (hb : t.busy = true) (hx : x = 0\/Gd g P.clock P.ts x) : Ln (P.step i t).1.mem x = Ln P.mem x/\Ky (P.step i t).1.mem x = Ky P.mem x:=by
 have:=h.keeps ht hb (h.usedGd hx) (h.not8 ht hx)
 exact ⟨this.2.2.1,this.2.1⟩
theorem Inv.lkStep (h : Inv g P) (ht : P.ts[i]? = some t) (hb : t.busy = true) (hn10 : t.work.next≠10) (hx : Lk g P.mem P.clock P.ts x) : Lk (nextG g P i t) (P.step i t).1.mem (P.step i t).1.clock (P.step i t).1.ts x:=by
 rcases hx with e | ⟨e1,e2,e3⟩
 ·exact .inl e
 ·right;refine ⟨by rw [(h.lnStep ht hb (.inr e2)).1]; exact e1,h.gdStep ht hb e2,?_⟩;obtain ⟨t',q1,q2,q3,_⟩:=h.tsStep ht hb;rw [q1];rcases e3 with e | e
  ·by_cases hk : Took P t/\t.work.kind = 2
   ·have hO : (nextG g P i t).O x ↔ g.O x\/x = t.work.stand\/x = t.work.ahead:=by unfold nextG; rw [if_pos hk.1,if_pos hk.2]; exact Iff.rfl
    rw [hO];by_cases es : x = t.work.stand
    ·right; rw [es]; exact Ex.new ht (q3 hk.1 hk.2)
    ·left;rintro (q | q | q)
     ·exact e q
     ·exact es q
     ·have m:=h.mine ht hb (by have:=hk.1.1; omega) (by have:=hk.1.1; omega);rw [q,m.al] at e1; omega
   ·left;have hO : (nextG g P i t).O = g.O:=by
     unfold nextG;by_cases h1 : Took P t
     ·rw [if_pos h1,if_neg (fun e=>hk ⟨h1,e⟩)]; rfl
     ·rw [if_neg h1]
    rw [hO]; exact e
  ·right;exact e.set ht (fun a=>q2 x a hn10)
end
end T
end
section
namespace T
section
variable {g g' : Gh} {M M' : PMem} {c c' T : Int} {r r' : PSweep} {i j : Nat} {t t' u : PThread} {ts ts' : List PThread} {P P' : PSt} {x d st : Int} {s : Bool} {key : Int} {k : PWork} {tr : Tr} {L n n' : Nat}
theorem mul_mono (h : n'<=n) {a b : Nat} (hab : a<=b) : (n' + a) * (L + 2)<=(n + b) * (L + 2):=Nat.mul_le_mul_right _ (by omega)
theorem Inv.wpStep (h : Inv g P) (ht : P.ts[i]? = some t) (hb : t.busy = true) (hx : x = 0\/Gd g P.clock P.ts x) : wp L (nextG g P i t) (P.step i t).1.mem (P.step i t).1.clock (P.step i t).1.ts x<=wp L g P.mem P.clock P.ts x:=by
 refine wp_mono ?_;rintro p (e | ⟨e1,e2,e3,e4⟩)
 ·exact .inl e
 ·exact .inr ⟨e1,by rw [(h.lnStep ht hb (.inr e3)).1]; exact e2,h.gdStep ht hb e3,by rw [h.bStep ht hb (.inr e3),h.bStep ht hb hx]; exact e4⟩
theorem Inv.phi_le (h : Inv g P) (ht : P.ts[i]? = some t) (hb : t.busy = true) (hj : P.ts[j]? = some u) (hn : n' + 1<=n\/(n'<=n/\t.work.next≠10)) :
  phi L (nextG g P i t) (P.step i t).1.mem (P.step i t).1.clock (P.step i t).1.ts n' u<=phi L g P.mem P.clock P.ts n u:=by
 have hU:=h.th j u hj;unfold phi;by_cases hub : u.busy = false
 ·rw [if_pos hub,if_pos hub]; exact Nat.le_refl _
 ·rw [if_neg hub,if_neg hub];have b : u.busy = true:=by simpa using hub
  by_cases hr : u.work.kind = 3\/u.work.kind = 4
  ·rw [if_pos hr,if_pos hr];by_cases h13 : u.work.next = 13
   ·rw [if_pos h13,if_pos h13]; exact Nat.le_refl _
   ·rw [if_neg h13,if_neg h13];by_cases h4 : u.work.next = 4
    ·rw [if_pos h4,if_pos h4];have : rs (nextG g P i t) u.work = rs g u.work:=by unfold rs; rw [nextG_V P t i (hU.tm b (by omega)).1]
     rw [this]; exact Nat.le_refl _
    ·rw [if_neg h4,if_neg h4]; exact Nat.le_refl _
  ·rw [if_neg hr,if_neg hr];by_cases h7 : 7<=u.work.next
   ·rw [if_pos h7,if_pos h7]; exact Nat.le_refl _
   ·rw [if_neg h7,if_neg h7];have hkd:=hU.kd b;have hk : u.work.kind = 1\/u.work.kind = 2:=by omega
    have hg : 4<=u.work.next->u.work.stand = 0\/Gd g P.clock P.ts u.work.stand:=fun h4=>(hU.xs b hk h4 (by omega)).1.z
    have h1 : (if u.work.next = 6 then 9 else if u.work.next = 5 then 11 - u.work.locks else if u.work.next = 4 then 11 + wp L (nextG g P i t) (P.step i t).1.mem (P.step i t).1.clock (P.step i t).1.ts u.work.stand else L + 15 - u.work.next)<=(if u.work.next = 6 then 9 else if u.work.next = 5 then 11 - u.work.locks else if u.work.next = 4 then 11 + wp L g P.mem P.clock P.ts u.work.stand else L + 15 - u.work.next):=by
     by_cases h6 : u.work.next = 6
     ·rw [if_pos h6,if_pos h6]; omega
     ·rw [if_neg h6,if_neg h6];by_cases h5 : u.work.next = 5
      ·rw [if_pos h5,if_pos h5]; omega
      ·rw [if_neg h5,if_neg h5];by_cases h4 : u.work.next = 4
       ·rw [if_pos h4,if_pos h4]
        have:=h.wpStep (L:=L) ht hb (hg (by omega)); omega
       ·rw [if_neg h4,if_neg h4]; omega
    refine Nat.add_le_add h1 ?_;by_cases h4 : 4<=u.work.next
    ·rw [if_pos h4,if_pos h4];rcases hn with hn | ⟨hn,h10⟩
     ·refine Nat.mul_le_mul_right _ ?_
      have:=stale_le (nextG g P i t) (P.step i t).1.mem (P.step i t).1.clock (P.step i t).1.ts u.work
      omega
     ·refine mul_mono hn (stale_mono ?_);intro ok;have lk:=fun x=>h.lkStep (x:=x) ht hb h10
      have gz : ∀ x,Lk g P.mem P.clock P.ts x->x = 0\/Gd g P.clock P.ts x:=by
       rintro x (e | e)
       ·exact .inl e
       ·exact .inr e.2.1
      have ld : ∀ x,Lk g P.mem P.clock P.ts x->∀ k,Ld (P.step i t).1.mem x (sd (P.step i t).1.mem x k) = Ld P.mem x (sd P.mem x k):=by
       intro x hx k;have hz:=gz x hx;have e1:=h.lnStep ht hb hz;rw [sd_congr e1.2 e1.1];simp only [Ld];rw [h.ldStep ht hb h10 (h.usedGd hz) (h.not8 ht hz)]
      refine ⟨lk _ ok.s,fun h0=>?_,fun h5=>?_⟩
      ·have:=ok.a h0
       exact ⟨lk _ this.1,by rw [ld _ this.1]; exact this.2⟩
      ·rw [ld _ ok.s]; exact ok.h h5
    ·rw [if_neg h4,if_neg h4];refine mul_mono ?_ (Nat.le_refl 0);omega
theorem phi_idle {ts : List PThread} (hb : t.busy = false) : phi L g M c ts n t = 0:=by unfold phi; rw [if_pos hb]
theorem phi_r13 {ts : List PThread} (hb : t.busy = true) (hr : t.work.kind = 3\/t.work.kind = 4) (hn : t.work.next = 13) : phi L g M c ts n t = 1:=by
 unfold phi; rw [if_neg (by simp [hb]),if_pos hr,if_pos hn]
theorem phi_r4 {ts : List PThread} (hb : t.busy = true) (hr : t.work.kind = 3\/t.work.kind = 4) (hn : t.work.next = 4) : phi L g M c ts n t = 2 + rs g t.work:=by
 unfold phi; rw [if_neg (by simp [hb]),if_pos hr,if_neg (by omega),if_pos hn]
theorem phi_r3 {ts : List PThread} (hb : t.busy = true) (hr : t.work.kind = 3\/t.work.kind = 4) (hn : t.work.next<=3) : phi L g M c ts n t = L + 7 - t.work.next:=by
 unfold phi; rw [if_neg (by simp [hb]),if_pos hr,if_neg (by omega),if_neg (by omega)]
theorem phi_u7 {ts : List PThread} (hb : t.busy = true) (hr : ¬ (t.work.kind = 3\/t.work.kind = 4)) (hn : 7<=t.work.next) : phi L g M c ts n t = 14 - t.work.next:=by
 unfold phi; rw [if_neg (by simp [hb]),if_neg hr,if_pos hn]
theorem phi_u6 {ts : List PThread} (hb : t.busy = true) (hr : ¬ (t.work.kind = 3\/t.work.kind = 4)) (hn : t.work.next = 6) : phi L g M c ts n t = 9 + (n + stale g M c ts t.work) * (L + 2):=by
 unfold phi; rw [if_neg (by simp [hb]),if_neg hr,if_neg (by omega),if_pos hn,if_pos (by omega)]
theorem phi_u5 {ts : List PThread} (hb : t.busy = true) (hr : ¬ (t.work.kind = 3\/t.work.kind = 4)) (hn : t.work.next = 5) : phi L g M c ts n t = 11 - t.work.locks + (n + stale g M c ts t.work) * (L + 2):=by
 unfold phi; rw [if_neg (by simp [hb]),if_neg hr,if_neg (by omega),if_neg (by omega),if_pos hn,if_pos (by omega)]
theorem phi_u4 {ts : List PThread} (hb : t.busy = true) (hr : ¬ (t.work.kind = 3\/t.work.kind = 4)) (hn : t.work.next = 4) : phi L g M c ts n t = 11 + wp L g M c ts t.work.stand + (n + stale g M c ts t.work) * (L + 2):=by
 unfold phi; rw [if_neg (by simp [hb]),if_neg hr,if_neg (by omega),if_neg (by omega),if_neg (by omega),if_pos hn,if_pos (by omega)]
theorem phi_u3 {ts : List PThread} (hb : t.busy = true) (hr : ¬ (t.work.kind = 3\/t.work.kind = 4)) (hn : t.work.next<=3) : phi L g M c ts n t = L + 15 - t.work.next + n * (L + 2):=by
 unfold phi; rw [if_neg (by simp [hb]),if_neg hr,if_neg (by omega),if_neg (by omega),if_neg (by omega),if_neg (by omega),if_neg (by omega)]; simp
theorem phi_late {ts ts' : List PThread} (hb : t.busy = true) (hk : t.work.kind = 1\/t.work.kind = 2) (h6 : 6<=t.work.next) (h1 : k.kind = t.work.kind) (h2 : t.work.next < k.next) (h3 : k.next<=13) : phi L g' M' c' ts' n' { t with work:=k } < phi L g M c ts n t:=by
 rw [phi_u7 (t:={ t with work:=k }) hb (by show ¬ (k.kind = 3\/k.kind = 4); omega) (by show 7<=k.next; omega)];show 14 - k.next < _
 rcases (show t.work.next = 6\/7<=t.work.next by omega) with e | e
 ·rw [phi_u6 hb (by omega) e]; omega
 ·rw [phi_u7 hb (by omega) e]; omega
theorem Inv.near (h : Inv g P) (hV : InvV g P) (hR : InvR g P) (hL : P.mem.ns.length = L) (ht : P.ts[i]? = some t) (hb : t.busy = true) (hmv : (P.step i t).2≠2) (hn : n'<=n) :
  ∃ t',(P.step i t).1.ts = P.ts.set i t'/\phi L (nextG g P i t) (P.step i t).1.mem (P.step i t).1.clock (P.step i t).1.ts n' t' < phi L g P.mem P.clock P.ts n t:=by
 have hT:=h.th i t ht;have hkd:=hT.kd hb;have hL2 : 2<=L:=by have:=h.wm.len; omega
 have hmul : n' * (L + 2)<=n * (L + 2):=Nat.mul_le_mul_right _ hn;obtain ⟨P',m,hs,ho⟩:=h.out ht hb;have hG : ∀ {k : Nat},t.work.next = k->k≠8->nextG g P i t = g:=fun e1 e2=>nextG_no (fun q=>e2 (e1.symm.trans q.1))
 rw [hs] at hmv ⊢;simp only at hmv ⊢;cases ho with
 | come1 hn1 =>
  refine ⟨_,rfl,?_⟩;by_cases hr : t.work.kind = 3\/t.work.kind = 4
  ·rw [phi_r3 hb hr (by omega),phi_r3 (t:={ t with slot:=1,work:={ t.work with next:=2 } }) hb hr (by show 2<=3; omega)];show L + 7 - 2 < _; omega
  ·rw [phi_u3 hb hr (by omega),phi_u3 (t:={ t with slot:=1,work:={ t.work with next:=2 } }) hb hr (by show 2<=3; omega)];show L + 15 - 2 + _ < _; omega
 | come2 hn1 =>
  refine ⟨_,rfl,?_⟩;by_cases hr : t.work.kind = 3\/t.work.kind = 4
  ·rw [phi_r3 hb hr (by omega),phi_r3 (t:={ t with work:={ t.work with time:=P.clock,next:=3 } }) hb hr (by show 3<=3; omega)];show L + 7 - 3 < _; omega
  ·rw [phi_u3 hb hr (by omega),phi_u3 (t:={ t with work:={ t.work with time:=P.clock,next:=3 } }) hb hr (by show 3<=3; omega)];show L + 15 - 3 + _ < _; omega
 | come3 hn1 =>
  refine ⟨_,rfl,?_⟩;by_cases hr : t.work.kind = 3\/t.work.kind = 4
  ·rw [phi_r3 hb hr (by omega),phi_r4 (t:={ t with slot:=2,work:=t.work.home }) hb hr rfl,hG hn1 (by omega)];obtain ⟨hv,t0,t1⟩:=hV.rd i t ht ⟨hb,hr,by omega,by omega⟩;have hg:=hV.gts _ t0 t1;have hsz:=hv.size hg.dj hg.z;have hle : rs g t.work.home<=(g.V t.work.time).size:=by
    unfold rs;show (if t.work.kind = 3 then (if (0 : Int) = 0 then (g.V t.work.time).len t.work.key + 1 else _) else lsz (g.V t.work.time) t.work.links)<=_;rcases hr with hr | hr
    ·rw [if_pos hr,if_pos rfl]; exact Tr.len_size _
    ·rw [if_neg (by omega),hT.lk hb hr (by omega)]
     have:=Stk.lsz hg.dj hg.z (L:=[(0,false)]) (W:=[g.V t.work.time]) ⟨Tr.su_root 0 false _,trivial⟩
     rw [this]; simp [wsz]
   show 2 + rs g t.work.home < _;omega
  ·rw [phi_u3 hb hr (by omega),phi_u4 (t:={ t with slot:=2,work:=t.work.home }) hb hr rfl];rw [stale_zero (show Okk _ _ _ _ t.work.home from ⟨.inl rfl,fun e=>absurd rfl e,fun e=>by have : 5<=4:=e; omega⟩)]
   have:=wp_le (L:=L) (by omega) (nextG g P i t) P.mem P.clock (P.ts.set i { t with slot:=2,work:=t.work.home }) 0
   show 11 + wp L (nextG g P i t) P.mem P.clock (P.ts.set i { t with slot:=2,work:=t.work.home }) 0 + (n' + 0) * (L + 2) < _;rw [Nat.add_zero]; omega
 | leave hn1 =>
  refine ⟨_,rfl,?_⟩;rw [phi_idle (t:=t.leave) rfl];by_cases hr : t.work.kind = 3\/t.work.kind = 4
  ·rw [phi_r13 hb hr hn1]; omega
  ·rw [phi_u7 hb hr (by omega)]; omega
 | rwait=>exact absurd rfl hmv
 | lwait=>exact absurd rfl hmv
 | rgo hn1 hk hp k ek hsk =>
  refine ⟨_,rfl,?_⟩;obtain ⟨_,h2,h3⟩:=h.readStep hV hR ht hb hn1 hk hp ek;have hk' : k.kind = 3\/k.kind = 4:=by rw [hsk.1]; exact hk
  rw [phi_r4 hb hk hn1,hG hn1 (by omega)];rcases hsk.2.1 with e | e
  ·rw [phi_r4 (t:={ t with work:=k }) hb hk' e]
   have:=h2 e
   show 2 + rs g k < _; omega
  ·rw [phi_r13 (t:={ t with work:=k }) hb hk' e]; omega
 | walkOn hn1 hk hl =>
  refine ⟨_,rfl,?_⟩;have x1:=(hT.xs hb hk (by omega) (by omega)).1;have xz:=x1.sn;have hs0 : t.work.stand = 0->sd P.mem t.work.stand t.work.key = false:=fun e=>by rw [e]; exact sd0 h.n.n0.2.1 _
  obtain ⟨p1,p2,_,_⟩:=h.n.ph _ _ xz hs0;rw [phi_u4 hb (by omega) hn1,phi_u4 (t:={ t with work:={ t.work with above:=t.work.stand,stand:=Ld P.mem t.work.stand (sd P.mem t.work.stand t.work.key) } }) hb (by show ¬ (t.work.kind = 3\/t.work.kind = 4); omega) hn1,hG hn1 (by omega)];have hct : Calm t:=calm7 fun _=>by omega
  have hct' : Calm { t with work:={ t.work with above:=t.work.stand,stand:=Ld P.mem t.work.stand (sd P.mem t.work.stand t.work.key) } }:=calm7 fun _=>.inl (by show t.work.next<=7; omega)
  have hsm:=Same.calm ht hct hct';have hlt:=h.wp_lt hL hl p1 (p2 hl);have hwp : wp L g P.mem P.clock (P.ts.set i { t with work:={ t.work with above:=t.work.stand,stand:=Ld P.mem t.work.stand (sd P.mem t.work.stand t.work.key) } }) (Ld P.mem t.work.stand (sd P.mem t.work.stand t.work.key))<=wp L g P.mem P.clock P.ts (Ld P.mem t.work.stand (sd P.mem t.work.stand t.work.key)):=by
   refine wp_mono ?_;rintro p (e | ⟨e1,e2,e3,e4⟩)
   ·exact .inl e
   ·exact .inr ⟨e1,e2,(hsm.gd p).2 e3,e4⟩
  have hah : ∀ y,Ex (P.ts.set i { t with work:={ t.work with above:=t.work.stand,stand:=Ld P.mem t.work.stand (sd P.mem t.work.stand t.work.key) } }) (Ahd y) ↔ Ex P.ts (Ahd y):=fun y=>ex_iff ht (iff_of_false (by rintro ⟨_,_,e,_⟩; have : t.work.next = 9\/t.work.next = 10:=e; omega) (by rintro ⟨_,_,e,_⟩; omega))
  have lk : ∀ y,Lk g P.mem P.clock P.ts y->Lk g P.mem P.clock (P.ts.set i { t with work:={ t.work with above:=t.work.stand,stand:=Ld P.mem t.work.stand (sd P.mem t.work.stand t.work.key) } }) y:=by
   rintro y (e | ⟨e1,e2,e3⟩)
   ·exact .inl e
   ·exact .inr ⟨e1,(hsm.gd y).2 e2,by rw [hah]; exact e3⟩
  have hst : stale g P.mem P.clock (P.ts.set i { t with work:={ t.work with above:=t.work.stand,stand:=Ld P.mem t.work.stand (sd P.mem t.work.stand t.work.key) } }) { t.work with above:=t.work.stand,stand:=Ld P.mem t.work.stand (sd P.mem t.work.stand t.work.key) }<=stale g P.mem P.clock P.ts t.work:=by
   refine stale_mono (fun ok=>⟨?_,fun _=>⟨lk _ ok.s,rfl⟩,fun e=>by have : 5<=t.work.next:=e; omega⟩);exact lk _ (h.lkOn ok.s hs0 hl)
  have:=mul_mono (L:=L) hn hst
  refine Nat.lt_of_lt_of_le (Nat.add_lt_add_right ?_ _) (Nat.add_le_add_left this _);exact Nat.add_lt_add_left (Nat.lt_of_le_of_lt hwp hlt) 11
 | walkEnd hn1 hk hl =>
  refine ⟨_,rfl,?_⟩;have hl0:=hT.l4 hb (.inl (by omega));rw [phi_u4 hb (by omega) hn1,phi_u5 (t:={ t with work:={ t.work with ahead:=Ld P.mem t.work.stand (sd P.mem t.work.stand t.work.key),next:=5 } }) hb (by show ¬ (t.work.kind = 3\/t.work.kind = 4); omega) rfl,hG hn1 (by omega)];have hct : Calm t:=calm7 fun _=>by omega
  have hct' : Calm { t with work:={ t.work with ahead:=Ld P.mem t.work.stand (sd P.mem t.work.stand t.work.key),next:=5 } }:=calm7 fun _=>.inl (by show 5<=7; omega)
  have hsm:=Same.calm ht hct hct';have hah : ∀ y,Ex (P.ts.set i { t with work:={ t.work with ahead:=Ld P.mem t.work.stand (sd P.mem t.work.stand t.work.key),next:=5 } }) (Ahd y) ↔ Ex P.ts (Ahd y):=fun y=>ex_iff ht (iff_of_false (by rintro ⟨_,_,e,_⟩; have : (5 : Nat) = 9\/(5 : Nat) = 10:=e; omega) (by rintro ⟨_,_,e,_⟩; omega))
  have lk : ∀ y,Lk g P.mem P.clock P.ts y->Lk g P.mem P.clock (P.ts.set i { t with work:={ t.work with ahead:=Ld P.mem t.work.stand (sd P.mem t.work.stand t.work.key),next:=5 } }) y:=by
   rintro y (e | ⟨e1,e2,e3⟩)
   ·exact .inl e
   ·exact .inr ⟨e1,(hsm.gd y).2 e2,by rw [hah]; exact e3⟩
  have hst : stale g P.mem P.clock (P.ts.set i { t with work:={ t.work with ahead:=Ld P.mem t.work.stand (sd P.mem t.work.stand t.work.key),next:=5 } }) { t.work with ahead:=Ld P.mem t.work.stand (sd P.mem t.work.stand t.work.key),next:=5 }<=stale g P.mem P.clock P.ts t.work :=
   stale_mono (fun ok=>⟨lk _ ok.s,fun e=>⟨lk _ (ok.a e).1,(ok.a e).2⟩,fun _=>rfl⟩)
  have:=mul_mono (L:=L) hn hst
  have hw:=h.wp_pos hL2 t.work.stand;refine Nat.lt_of_lt_of_le (Nat.add_lt_add_right ?_ _) (Nat.add_le_add_left this _);show 11 - t.work.locks < _;omega
 | lock hn1 hk hh nn hnn hn56 =>
  refine ⟨_,rfl,?_⟩;have hlk:=hT.l5 hb hn1;have hll:=hl_len P.mem t.work;obtain ⟨l1,_⟩:=h.lockIs ht hb hn1;have hnd:=node_modN (hasN_used l1) (fun x=>{ x with holder:=(i : Int) });have hq : HoldEq P.mem (P.mem.modN (lockNext P.mem t.work) fun x=>{ x with holder:=(i : Int) }):=by
   intro x;rw [hnd];split
   ·next e=>subst e; exact ⟨_,rfl⟩
   ·exact ⟨(P.mem.node x).holder,rfl⟩
  generalize (P.mem.modN (lockNext P.mem t.work) fun x=>{ x with holder:=(i : Int) }) = M1 at *;have hct : Calm t:=calm7 fun _=>by omega
  have hct' : Calm { t with work:={ t.work with locks:=t.work.locks + 1,next:=nn } }:=calm7 fun _=>.inl (by show nn<=7; omega)
  have hsm:=Same.calm ht hct hct';have hah : ∀ y,Ex (P.ts.set i { t with work:={ t.work with locks:=t.work.locks + 1,next:=nn } }) (Ahd y) ↔ Ex P.ts (Ahd y):=fun y=>ex_iff ht (iff_of_false (by rintro ⟨_,_,e,_⟩; have : nn = 9\/nn = 10:=e; omega) (by rintro ⟨_,_,e,_⟩; omega))
  have lk : ∀ y,Lk g P.mem P.clock P.ts y->Lk g M1 P.clock (P.ts.set i { t with work:={ t.work with locks:=t.work.locks + 1,next:=nn } }) y:=by
   rintro y (e | ⟨e1,e2,e3⟩)
   ·exact .inl e
   ·exact .inr ⟨by simp only [Ln]; rw [(hq.to y).2.2.2.2.2.2.1]; exact e1,(hsm.gd y).2 e2,by rw [hah]; exact e3⟩
  have ld : ∀ y q,Ld M1 y (sd M1 y q) = Ld P.mem y (sd P.mem y q):=fun y q=>by rw [hq.sd]; simp only [Ld]; rw [(hq.to y).2.2.2.2.2.1]
  have hst : stale g M1 P.clock (P.ts.set i { t with work:={ t.work with locks:=t.work.locks + 1,next:=nn } }) { t.work with locks:=t.work.locks + 1,next:=nn }<=stale g P.mem P.clock P.ts t.work :=
   stale_mono (fun ok=>⟨lk _ ok.s,fun e=>⟨lk _ (ok.a e).1,by rw [ld]; exact (ok.a e).2⟩,fun _=>by rw [ld]; exact ok.h (by omega)⟩)
  have hmm:=mul_mono (L:=L) hn hst;rw [phi_u5 hb (by omega) hn1,hG hn1 (by omega)];rcases hn56 with e | e
  ·subst e;rw [phi_u5 (t:={ t with work:={ t.work with locks:=t.work.locks + 1,next:=5 } }) hb (by show ¬ (t.work.kind = 3\/t.work.kind = 4); omega) rfl];refine Nat.lt_of_lt_of_le (Nat.add_lt_add_right ?_ _) (Nat.add_le_add_left hmm _);show 11 - (t.work.locks + 1) < 11 - t.work.locks;omega
  ·subst e;rw [phi_u6 (t:={ t with work:={ t.work with locks:=t.work.locks + 1,next:=6 } }) hb (by show ¬ (t.work.kind = 3\/t.work.kind = 4); omega) rfl];refine Nat.lt_of_lt_of_le (Nat.add_lt_add_right ?_ _) (Nat.add_le_add_left hmm _);omega
 | home hn1 hk ho =>
  refine ⟨_,rfl,?_⟩;rw [phi_u6 hb (by omega) hn1,phi_u4 (t:={ t with work:=({ t.work with locks:=0 } : PWork).home }) hb (by show ¬ (t.work.kind = 3\/t.work.kind = 4); omega) rfl];rw [stale_zero (show Okk _ _ _ _ ({ t.work with locks:=0 } : PWork).home from ⟨.inl rfl,fun e=>absurd rfl e,fun e=>by have : 5<=4:=e; omega⟩)];have h1 : stale g P.mem P.clock P.ts t.work = 1:=by
   unfold stale; rw [if_neg (fun ok=>h.okPass ht hb hn1 ok ho)]
  have:=wp_le (L:=L) (by omega) (nextG g P i t) (P.mem.unlock i) P.clock (P.ts.set i { t with work:=({ t.work with locks:=0 } : PWork).home }) 0
  rw [h1];show 11 + wp L (nextG g P i t) (P.mem.unlock i) P.clock (P.ts.set i { t with work:=({ t.work with locks:=0 } : PWork).home }) 0 + (n' + 0) * (L + 2) < _;have e : (n + 1) * (L + 2) = n * (L + 2) + (L + 2):=by rw [Nat.succ_mul]
  rw [Nat.add_zero,e]; omega
 | same hn1 hk=>exact ⟨_,rfl,phi_late hb hk (by omega) rfl (by show t.work.next < 12; omega) (by show 12<=13; omega)⟩
 | right hn1 hk=>exact ⟨_,rfl,phi_late hb hk (by omega) rfl (by show t.work.next < 7; omega) (by show 7<=13; omega)⟩
 | full hn1 hk=>exact ⟨_,rfl,phi_late hb hk (by omega) rfl (by show t.work.next < 12; omega) (by show 12<=13; omega)⟩
 | prepI hn1 hk=>exact ⟨_,rfl,phi_late hb (.inl hk) (by omega) rfl (by show t.work.next < 8; omega) (by show 8<=13; omega)⟩
 | prepR hn1 hk=>exact ⟨_,rfl,phi_late hb (.inr hk) (by omega) rfl (by show t.work.next < 8; omega) (by show 8<=13; omega)⟩
 | late hn1 hk=>exact ⟨_,rfl,phi_late hb hk (by omega) rfl (by show t.work.next < 12; omega) (by show 12<=13; omega)⟩
 | takeI hn1 hk=>exact ⟨_,rfl,phi_late hb (.inl hk) (by omega) rfl (by show t.work.next < 10; omega) (by show 10<=13; omega)⟩
 | takeR hn1 hk=>exact ⟨_,rfl,phi_late hb (.inr hk) (by omega) rfl (by show t.work.next < 9; omega) (by show 9<=13; omega)⟩
 | kill hn1 hk=>exact ⟨_,rfl,phi_late hb (.inr hk) (by omega) rfl (by show t.work.next < 10; omega) (by show 10<=13; omega)⟩
 | link hn1 hk=>exact ⟨_,rfl,phi_late hb hk (by omega) rfl (by show t.work.next < 11; omega) (by show 11<=13; omega)⟩
 | stamp hn1 hk=>exact ⟨_,rfl,phi_late hb hk (by omega) rfl (by show t.work.next < 12; omega) (by show 12<=13; omega)⟩
 | unlock hn1 hk=>exact ⟨_,rfl,phi_late hb hk (by omega) rfl (by show t.work.next < 13; omega) (by show 13<=13; omega)⟩
theorem Inv.drops (h : Inv g P) (hV : InvV g P) (hR : InvR g P) (hL : P.mem.ns.length = L) (ht : P.ts[i]? = some t) (hb : t.busy = true) (hmv : (P.step i t).2≠2) : Phi L (nextG g P i t) (P.step i t).1 < Phi L g P:=by
 have hi:=(List.getElem?_eq_some_iff.1 ht).1;obtain ⟨t1,q1,_,_,q4,q5⟩:=h.tsStep ht hb;have hn : count unl (P.step i t).1.ts<=count unl P.ts:=by rw [q1]; exact count_set_le _ ht q4
 obtain ⟨t',e1,e2⟩:=h.near hV hR hL ht hb hmv hn;have hn' : count unl (P.step i t).1.ts + 1<=count unl P.ts\/(count unl (P.step i t).1.ts<=count unl P.ts/\t.work.next≠10):=by
  by_cases e : t.work.next = 10
  ·left;rw [q1]
   have:=count_set_e (p:=unl) (y:=t1) ht (q5 e).2 (q5 e).1
   omega
  ·exact .inr ⟨hn,e⟩
 unfold Phi;have hmap : ((P.step i t).1.ts.map (phi L (nextG g P i t) (P.step i t).1.mem (P.step i t).1.clock (P.step i t).1.ts (count unl (P.step i t).1.ts))).sum = ((P.ts.set i t').map (phi L (nextG g P i t) (P.step i t).1.mem (P.step i t).1.clock (P.step i t).1.ts (count unl (P.step i t).1.ts))).sum:=by rw [<- e1]
 rw [hmap];refine sum_set _ _ P.ts i t t' ht ?_ e2;intro j u hj hu;exact h.phi_le ht hb hu hn'
end
end T
end
section
def SameOp (t t' : PThread) : Prop:=t'.work.kind = t.work.kind/\t'.work.key = t.work.key/\t'.work.value = t.work.value/\t'.work.spans = t.work.spans
theorem setW_at {i : Nat} {t : PThread} (P : PSt) (ht : P.ts[i]? = some t) (k : PWork) : P.setW i k = { P with ts:=P.ts.set i { t with work:=k } }:=by
 unfold PSt.setW
 congr 1
 apply List.ext_getElem?;intro j;rw [List.getElem?_modify,List.getElem?_set];by_cases e : i = j
 ·subst e;obtain ⟨h1,h2⟩:=List.getElem?_eq_some_iff.1 ht;simp [h1,h2]
 ·simp [e]
structure Kin where
 κ : Int
 hκ : κ = 0\/κ = 1
 Pot : Nat->PSt->Nat->Prop
 kind : ∀ {N n : Nat} {P : PSt},Pot N P n->P.kind = κ
 move : ∀ {N n i : Nat} {P : PSt} {t : PThread},Pot N P n->P.ts[i]? = some t->t.busy = true->(P.step i t).2≠2->∃ n',n' + 1<=n/\Pot N (P.step i t).1 n'
 wait : ∀ {N n i : Nat} {P : PSt} {t : PThread},Pot N P n->P.ts[i]? = some t->t.busy = true->(P.step i t).2 = 2->(P.step i t).1 = P
 live : ∀ {N n i : Nat} {P : PSt} {t : PThread},Pot N P n->P.ts[i]? = some t->t.busy = true->∃ (j : Nat) (u : PThread),P.ts[j]? = some u/\u.busy = true/\(P.step j u).2≠2/\(j = i\/u.work.kind = 1\/u.work.kind = 2)
 bound : ∀ {N n : Nat} {P : PSt},Pot N P n->Pot N P (P.ts.length * ((P.ts.length + 2) * (N + 16)))
 beg : ∀ {N n i : Nat} {P : PSt} {t : PThread} {kd ky va : Int} {sp : List (Int × Int)},Pot N P n->P.ts[i]? = some t->t.busy = false->properB kd ky sp = true->∃ n',Pot N (P.setT i { t with busy:=true,work:=newWork kd ky va sp }) n'
 swp : ∀ {N n : Nat} {P : PSt},Pot N P n->∃ n',Pot N P.doSweep.1 n'
 new : ∀ {T N E L : Int},1<=E->∃ n,Pot N.toNat (freshP κ T N E L) n
section
variable {K : Kin} {i j : Nat} {t : PThread} {P : PSt} {L : Nat} {D D' : PlD}
theorem step_work (ht : P.ts[i]? = some t) (hb : t.busy = true) : ∃ t',(P.step i t).1.ts = P.ts.set i t'/\((P.step i t).2 = 3->t'.busy = false)/\((P.step i t).2≠3->t'.busy = true/\SameOp t t'/\t'.hasEnded = t.hasEnded/\t'.last = t.last):=by
 have same : P.ts.set i t = P.ts:=by
  apply List.ext_getElem?;intro j;rw [List.getElem?_set];split
  ·next e=>subst e; split <;> simp_all
  ·rfl
 have fin : ∀ (Q : PSt) (k : PWork),Q.ts = P.ts->k.kind = t.work.kind->k.key = t.work.key->k.value = t.work.value->k.spans = t.work.spans->∀ n : Int,n≠3->∃ t',(Q.setW i k,n).1.ts = P.ts.set i t'/\((Q.setW i k,n).2 = 3->t'.busy = false)/\((Q.setW i k,n).2≠3->t'.busy = true/\SameOp t t'/\t'.hasEnded = t.hasEnded/\t'.last = t.last):=by
  intro Q k hQ h1 h2 h3 h4 n hn;refine ⟨{ t with work:=k },?_,fun e=>absurd e hn,fun _=>⟨hb,⟨h1,h2,h3,h4⟩,rfl,rfl⟩⟩;show (Q.setW i k).ts = _;rw [setW_at Q (t:=t) (by rw [hQ]; exact ht) k,hQ]
 have stay : ∀ n : Int,n≠3->∃ t',(P,n).1.ts = P.ts.set i t'/\((P,n).2 = 3->t'.busy = false)/\((P,n).2≠3->t'.busy = true/\SameOp t t'/\t'.hasEnded = t.hasEnded/\t'.last = t.last) :=
  fun n hn=>⟨t,same.symm,fun e=>absurd e hn,fun _=>⟨hb,⟨rfl,rfl,rfl,rfl⟩,rfl,rfl⟩⟩
 unfold PSt.step;split
 ·exact ⟨_,rfl,fun e=>absurd e (by show ¬ (1 : Int) = 3; decide),fun _=>⟨hb,⟨rfl,rfl,rfl,rfl⟩,rfl,rfl⟩⟩
 ·exact ⟨_,rfl,fun e=>absurd e (by show ¬ (1 : Int) = 3; decide),fun _=>⟨hb,⟨rfl,rfl,rfl,rfl⟩,rfl,rfl⟩⟩
 ·exact ⟨_,rfl,fun e=>absurd e (by show ¬ (1 : Int) = 3; decide),fun _=>⟨hb,⟨rfl,rfl,rfl,rfl⟩,rfl,rfl⟩⟩
 ·exact ⟨_,rfl,fun _=>rfl,fun e=>absurd rfl e⟩
 ·split
  ·unfold PSt.read;simp only;split
   ·exact stay 2 (by decide)
   ·split
    ·refine fin P _ rfl ?_ ?_ ?_ ?_ 1 (by decide) <;> (unfold PSt.lookUp; split <;> rfl)
    ·refine fin P _ rfl ?_ ?_ ?_ ?_ 1 (by decide) <;> (unfold PSt.scan; simp only; split <;> rfl)
  ·unfold PSt.update;split
   ·refine fin P _ rfl ?_ ?_ ?_ ?_ 1 (by decide) <;> (unfold PSt.walk; split <;> rfl)
   ·unfold PSt.lock;split
    ·split
     ·refine fin _ _ ?_ ?_ ?_ ?_ ?_ 1 (by decide) <;> rfl
     ·exact stay 2 (by decide)
    ·refine fin _ _ ?_ ?_ ?_ ?_ ?_ 1 (by decide) <;> rfl
   ·unfold PSt.check;split
    ·refine fin _ _ ?_ ?_ ?_ ?_ ?_ 1 (by decide) <;> rfl
    ·split
     ·refine fin _ _ ?_ ?_ ?_ ?_ ?_ 1 (by decide) <;> rfl
     ·refine fin _ _ ?_ ?_ ?_ ?_ ?_ 1 (by decide) <;> rfl
   ·unfold PSt.prepare;split
    ·refine fin _ _ ?_ ?_ ?_ ?_ ?_ 1 (by decide) <;> rfl
    ·have hpp : ∀ pp : PMem × PWork,pp.2.kind = t.work.kind/\pp.2.key = t.work.key/\pp.2.value = t.work.value/\pp.2.spans = t.work.spans->∃ t',(((P.setM pp.1).setW i { pp.2 with next:=8 },(1 : Int)) : PSt × Int).1.ts = P.ts.set i t'/\(((((P.setM pp.1).setW i { pp.2 with next:=8 },(1 : Int)) : PSt × Int)).2 = 3->t'.busy = false)/\(((((P.setM pp.1).setW i { pp.2 with next:=8 },(1 : Int)) : PSt × Int)).2≠3->t'.busy = true/\SameOp t t'/\t'.hasEnded = t.hasEnded/\t'.last = t.last):=by
      rintro pp ⟨h1,h2,h3,h4⟩;exact fin (P.setM pp.1) { pp.2 with next:=8 } rfl h1 h2 h3 h4 1 (by decide)
     refine hpp (if t.work.kind = 1 then P.prepareInsert t.work else P.prepareRemove t.work) ?_;split
     ·unfold PSt.prepareInsert;simp only;split <;> exact ⟨rfl,rfl,rfl,rfl⟩
     ·unfold PSt.prepareRemove;simp only;split <;> exact ⟨rfl,rfl,rfl,rfl⟩
   ·unfold PSt.take;split
    ·refine fin _ _ ?_ ?_ ?_ ?_ ?_ 1 (by decide) <;> rfl
    ·simp only;split
     ·refine fin _ _ ?_ ?_ ?_ ?_ ?_ 1 (by decide) <;> rfl
     ·refine fin _ _ ?_ ?_ ?_ ?_ ?_ 1 (by decide) <;> rfl
   ·refine fin _ _ ?_ ?_ ?_ ?_ ?_ 1 (by decide) <;> rfl
   ·refine fin _ _ ?_ ?_ ?_ ?_ ?_ 1 (by decide) <;> rfl
   ·refine fin _ _ ?_ ?_ ?_ ?_ ?_ 1 (by decide) <;> rfl
   ·refine fin _ _ ?_ ?_ ?_ ?_ ?_ 1 (by decide) <;> rfl
   ·exact stay 1 (by decide)
theorem ok_step (hok : D.ok) (ht : D.P.ts[i]? = some t) (hb : t.busy = true) (hs : Stepped D i t D') : D'.ok:=by
 obtain ⟨t',h1,h2,h3⟩:=step_work ht hb;show D'.bs = D'.P.ts.map (·.busy);rw [hs.P,h1,hs.bs,List.map_set];have hok' : D.bs = D.P.ts.map (·.busy):=hok;split
 ·next e=>rw [h2 e,hok']
 ·next e =>
  rw [(h3 e).1,hok'];apply List.ext_getElem?;intro j;rw [List.getElem?_set];split
  ·next e=>subst e; rw [List.getElem?_map,ht]; simp [hb]; exact (List.getElem?_eq_some_iff.1 ht).1
  ·rfl
def Pot (K : Kin) (N : Nat) (D : PlD) (n : Nat) : Prop:=K.Pot N D.P n
theorem Pot.move {N n : Nat} (h : Pot K N D n) (ht : D.P.ts[i]? = some t) (hb : t.busy = true) (hs : Stepped D i t D') (hm : (D.P.step i t).2≠2) : ∃ n',n' + 1<=n/\Pot K N D' n':=by
 obtain ⟨n',h1,h2⟩:=K.move h ht hb hm;exact ⟨n',h1,by unfold Pot; rw [hs.P]; exact h2⟩
theorem Pot.wait {N n : Nat} (h : Pot K N D n) (ht : D.P.ts[i]? = some t) (hb : t.busy = true) (hs : Stepped D i t D') (hm : (D.P.step i t).2 = 2) : Pot K N D' n/\D'.P = D.P/\D'.bs = D.bs:=by
 have hP : D'.P = D.P:=by rw [hs.P,K.wait h ht hb hm]
 exact ⟨by unfold Pot; rw [hP]; exact h,hP,by rw [hs.bs,if_neg (by omega)]⟩
structure Plays (K : Kin) (f : Nat) (T N E L : Int) (J : PlD->Prop) : Prop where
 inv : ∀ {D},J D->∃ n,K.Pot N.toNat D.P n
 ok : ∀ {D},J D->D.ok
 cfg : ∀ {D},J D->D.k = K.κ/\D.t = T/\D.n = N/\D.e = E/\D.l = L
 step : ∀ {D D' : PlD} {i : Nat} {t : PThread},J D->Fit D.N D.P->D.P.ts[i]? = some t->t.busy = true->f<=i->Stepped D i t D'->J D'
 begin : ∀ {D D' : PlD} {i : Nat} {t : PThread} {o : OpV},J D->D.P.ts[i]? = some t->f<=i->Begun D i t o D'->J D'
 sweep : ∀ {D : PlD} (L' : ZLay),J D->J { D with L:=L',P:=D.P.doSweep.1 }
 low : ∀ {D : PlD} {i : Nat} {t : PThread},J D->i < f->D.P.ts[i]? = some t->t.busy = true->t.work.kind = 3\/t.work.kind = 4
def Sz (b : Nat) (D : PlD) : Prop:=D.N<=b/\D.deeds.length<=b/\0<=D.puts/\D.puts<=b/\0<=D.takes/\D.takes<=b
theorem Sz.mono {b b' : Nat} (h : Sz b D) (hb : b<=b') : Sz b' D:=by unfold Sz at *; omega
theorem Sz.step {b : Nat} (h : Sz b D) (hs : Stepped D i t D') : Sz (b + 1) D':=by
 have hd : D'.deeds.length<=D.deeds.length + 1:=by
  by_cases e : (D.P.step i t).2 = 3
  ·obtain ⟨av,o,f,_,_,q⟩:=hs.deeds.2 e;rw [q]; simp
  ·rw [hs.deeds.1 e]; omega
 unfold Sz at *;rw [hs.N,hs.cnt.1,hs.cnt.2]; omega
theorem Sz.begin {b : Nat} {o : OpV} (h : Sz b D) (hs : Begun D i t o D') : Sz (b + 1) D':=by
 have hc : (D'.puts = D.puts\/D'.puts = D.puts + 1)/\(D'.takes = D.takes\/D'.takes = D.takes + 1):=by
  by_cases hh : t.busy = true\/properB o.kind o.key o.spans = false
  ·obtain ⟨_,_,_,_,q1,q2⟩:=hs.no hh; exact ⟨.inl q1,.inl q2⟩
  ·simp only [not_or,Bool.not_eq_true,Bool.not_eq_false] at hh;obtain ⟨_,_,_,_,q1,q2⟩:=hs.yes hh.1 hh.2;rw [q1,q2];exact ⟨by split <;> omega,by split <;> omega⟩
 unfold Sz at *;rw [hs.N,hs.deeds]; omega
end
end
end Go.Proofs.YtfccelbmacjifabGreat
